/-
  Walk of moorings/mooringslaw06.DiskTells: for every input it returns true.
-/
import Derived.Test.YtcabhibbajkpkaaDLawBase
import Derived.Test.YtcabhibbajkpkaaDRefDo
import Derived.Test.YtcabhibbajkpkaaDRefFind
import Derived.Test.YtcabhibbajkpkaaDRefSame
namespace Go.Proofs.Ytcabhibbajkpkaa
open Go.RowKit

section
variable (w : World) (k : Int) (a : Option Addr) (n c : Nat) (h : Int) (b : Option Addr) (m g : Nat) (ok on oN : Int) (ad : Option Addr) (nd cd : Nat) (ap : Option Addr) (np cp : Nat)
theorem law3_o : Blok (obox (dbox (dbox w k a n c) h b m g) ok on oN ad nd cd ap np cp) (w.heap.size + 2) 28 #[.int .i64 ok, .int .i64 on, .int .i64 oN, .slice ad nd cd, .slice ap np cp] := by
  have h := obox_blok (dbox (dbox w k a n c) h b m g) ok on oN ad nd cd ap np cp
  rwa [dbox_size, dbox_size] at h
theorem law3_f : Blok (obox (dbox (dbox w k a n c) h b m g) ok on oN ad nd cd ap np cp) (w.heap.size + 1) 24 #[.int .i64 h, .slice b m g] := by
  have h := (dbox_blok (dbox w k a n c) h b m g).alloc (.cells #[.int .i64 ok, .int .i64 on, .int .i64 oN, .slice ad nd cd, .slice ap np cp] 28)
  rwa [dbox_size] at h
theorem law3_d : Blok (obox (dbox (dbox w k a n c) h b m g) ok on oN ad nd cd ap np cp) w.heap.size 24 #[.int .i64 k, .slice a n c] := ((dbox_blok w k a n c).alloc _).alloc _
theorem law3_below : Below w.heap.size w (obox (dbox (dbox w k a n c) h b m g) ok on oN ad nd cd ap np cp) := by
  have h1 := dbox_below w k a n c
  have h2 := h1.trans ((dbox_below _ h b m g).mono h1.size)
  exact h2.trans ((obox_below _ ok on oN ad nd cd ap np cp).mono h2.size)
end
set_option maxRecDepth 100000 in
set_option maxHeartbeats 2000000 in
theorem tells_in (k : Int) (a : Option Addr) (n c : Nat) (h : Int) (b : Option Addr) (m g : Nat) (ok on oN : Int) (ad : Option Addr) (nd cd : Nat) (ap : Option Addr) (np cp : Nat) (room no : Int) (xs ws : List FP) (bd ps : List Int) (w : World) (hd : DiskIn w a n c xs) (hc : DiskIn w b m g ws) (ho : OpIn w ad nd cd bd ap np cp ps) :
    Calls Try.prog 3 #[.agg #[.int .i64 k, .slice a n c], .agg #[.int .i64 h, .slice b m g], .agg #[.int .i64 ok, .int .i64 on, .int .i64 oN, .slice ad nd cd, .slice ap np cp], .int .i64 room, .int .i64 no] w fun e w' => e = .returned (.bool true) ∧ Below w.heap.size w w' := by
  have HBX : Hid (Below w.heap.size w (obox (dbox (dbox w k a n c) h b m g) ok on oN ad nd cd ap np cp)) := Lib.hid (law3_below w k a n c h b m g ok on oN ad nd cd ap np cp)
  have HD := Lib.hid hd
  have HC := Lib.hid hc
  have HO := Lib.hid ho
  obtain ⟨z0, hz0⟩ : ∃ z, decide (nd ≤ 3000 ∧ np ≤ 60) = z := ⟨_, rfl⟩
  obtain ⟨z1, hz1⟩ : ∃ z, decide (D.few (FP.files ws)) = z := ⟨_, rfl⟩
  by_cases hf : D.few (FP.files xs)
  · by_cases hg : D.few (FP.files ws)
    · by_cases hz : nd ≤ 3000 ∧ np ≤ 60
      · have HF := Lib.hid (decide_eq_true hf)
        have HG := Lib.hid (decide_eq_true hg)
        have HZ := Lib.hid (decide_eq_true hz)
        have HSM := Lib.hid hf.small
        have HNP : Hid (np ≤ 1000) := Lib.hid (by omega)
        have HND : Hid (nd ≤ 3000) := Lib.hid hz.1
        obtain ⟨mb, hmb⟩ : ∃ v, decide (D.may (k, FP.files xs)) = v := ⟨_, rfl⟩
        obtain ⟨sb, hsb⟩ : ∃ v, decide (((k, FP.files xs) : D.T) = (h, FP.files ws)) = v := ⟨_, rfl⟩
        obtain ⟨nb, hnb⟩ : ∃ v, decide (D.may (room, [])) = v := ⟨_, rfl⟩
        obtain ⟨rm, hrm⟩ : ∃ v, (if nb = true then room else 0) = v := ⟨_, rfl⟩
        obtain ⟨fn, hfn⟩ : ∃ v, D.find (k, FP.files xs) no = v := ⟨_, rfl⟩
        obtain ⟨us, hus⟩ : ∃ v, (if D.may (k, FP.files xs) then (D.used (FP.files xs) : Int) else 0) = v := ⟨_, rfl⟩
        obtain ⟨⟨⟨q, l0⟩, e0⟩, hq⟩ : ∃ r, D.op ok on oN bd ps (k, FP.files xs) = r := ⟨_, rfl⟩
        have hqk : q = k := by have h1 := D.op_cap ok on oN bd ps (k, FP.files xs); rw [hq] at h1; exact h1
        subst hqk
        have HMB := Lib.hid hmb
        have HSB := Lib.hid hsb
        have HFN := Lib.hid hfn
        have HUS := Lib.hid hus
        have HQ := Lib.hid hq
        have HNEW : Hid (∀ w, Calls Try.prog 15 #[.int .i64 room] w fun e w' => e = .returned (.tuple #[.agg #[.int .i64 rm, .slice none 0 0], .bool nb]) ∧ Below w.heap.size w w') := Lib.hid (fun w => by rw [← hrm]; exact new_any room nb w hnb)
        have HRNEW : Hid (∀ w, Calls Try.prog 16 #[.int .i64 room] w fun e w' => e = .returned (.tuple #[.agg #[.int .i64 rm, .slice none 0 0], .bool nb]) ∧ Below w.heap.size w w') := Lib.hid (fun w => by rw [← hrm]; exact refNew_any room nb w hnb)
        clear hmb hsb hnb hrm hfn hus hq hg hz hz0 hz1
        clear hd hc ho hf
        go_enter Try.func3, Try.ntmps3
        go_wp2_with fail
        refine (awake_any (obox (dbox (dbox w q a n c) h b m g) ok on oN ad nd cd ap np cp)).mono ?_
        rintro e w1 ⟨rfl, hb1⟩
        have W1 := Lib.hid (HBX.out.trans (hb1.mono HBX.out.size))
        have Kd1 : Hid (Blok w1 (w.heap.size) 24 #[.int .i64 q, .slice a n c]) := Lib.hid ((law3_d w q a n c h b m g ok on oN ad nd cd ap np cp).on hb1)
        have Kf1 : Hid (Blok w1 (w.heap.size + 1) 24 #[.int .i64 h, .slice b m g]) := Lib.hid ((law3_f w q a n c h b m g ok on oN ad nd cd ap np cp).on hb1)
        have Ko1 : Hid (Blok w1 (w.heap.size + 2) 28 #[.int .i64 ok, .int .i64 on, .int .i64 oN, .slice ad nd cd, .slice ap np cp]) := Lib.hid ((law3_o w q a n c h b m g ok on oN ad nd cd ap np cp).on hb1)
        clear hb1
        have qd0 : (w1).cell? ⟨w.heap.size, 0, none⟩ = some (.int .i64 q) := dk0 Kd1.out
        have qd1 : (w1).cell? ⟨w.heap.size, 1, none⟩ = some (.slice a n c) := dk1 Kd1.out
        have qf0 : (w1).cell? ⟨w.heap.size + 1, 0, none⟩ = some (.int .i64 h) := dk0 Kf1.out
        have qf1 : (w1).cell? ⟨w.heap.size + 1, 1, none⟩ = some (.slice b m g) := dk1 Kf1.out
        have qo0 : (w1).cell? ⟨w.heap.size + 2, 0, none⟩ = some (.int .i64 ok) := ok0 Ko1.out
        have qo1 : (w1).cell? ⟨w.heap.size + 2, 1, none⟩ = some (.int .i64 on) := ok1 Ko1.out
        have qo2 : (w1).cell? ⟨w.heap.size + 2, 2, none⟩ = some (.int .i64 oN) := ok2 Ko1.out
        have qo3 : (w1).cell? ⟨w.heap.size + 2, 3, none⟩ = some (.slice ad nd cd) := ok3 Ko1.out
        have qo4 : (w1).cell? ⟨w.heap.size + 2, 4, none⟩ = some (.slice ap np cp) := ok4 Ko1.out
        go_wp2_with fail
        refine (few_any q a n c xs true _ (HD.out.below W1.out) HF.out).mono ?_
        rintro e w2 ⟨rfl, hb2⟩
        clear qd0 qd1 qf0 qf1 qo0 qo1 qo2 qo3 qo4
        have W2 := Lib.hid (W1.out.trans (hb2.mono W1.out.size))
        have Kd2 := Lib.hid (Kd1.out.on hb2)
        have Kf2 := Lib.hid (Kf1.out.on hb2)
        have Ko2 := Lib.hid (Ko1.out.on hb2)
        clear hb2
        have qd0 : (w2).cell? ⟨w.heap.size, 0, none⟩ = some (.int .i64 q) := dk0 Kd2.out
        have qd1 : (w2).cell? ⟨w.heap.size, 1, none⟩ = some (.slice a n c) := dk1 Kd2.out
        have qf0 : (w2).cell? ⟨w.heap.size + 1, 0, none⟩ = some (.int .i64 h) := dk0 Kf2.out
        have qf1 : (w2).cell? ⟨w.heap.size + 1, 1, none⟩ = some (.slice b m g) := dk1 Kf2.out
        have qo0 : (w2).cell? ⟨w.heap.size + 2, 0, none⟩ = some (.int .i64 ok) := ok0 Ko2.out
        have qo1 : (w2).cell? ⟨w.heap.size + 2, 1, none⟩ = some (.int .i64 on) := ok1 Ko2.out
        have qo2 : (w2).cell? ⟨w.heap.size + 2, 2, none⟩ = some (.int .i64 oN) := ok2 Ko2.out
        have qo3 : (w2).cell? ⟨w.heap.size + 2, 3, none⟩ = some (.slice ad nd cd) := ok3 Ko2.out
        have qo4 : (w2).cell? ⟨w.heap.size + 2, 4, none⟩ = some (.slice ap np cp) := ok4 Ko2.out
        go_wp2_with fail
        refine (few_any h b m g ws true _ (HC.out.below W2.out) HG.out).mono ?_
        rintro e w3 ⟨rfl, hb3⟩
        clear qd0 qd1 qf0 qf1 qo0 qo1 qo2 qo3 qo4
        have W3 := Lib.hid (W2.out.trans (hb3.mono W2.out.size))
        have Kd3 := Lib.hid (Kd2.out.on hb3)
        have Kf3 := Lib.hid (Kf2.out.on hb3)
        have Ko3 := Lib.hid (Ko2.out.on hb3)
        clear hb3
        have qd0 : (w3).cell? ⟨w.heap.size, 0, none⟩ = some (.int .i64 q) := dk0 Kd3.out
        have qd1 : (w3).cell? ⟨w.heap.size, 1, none⟩ = some (.slice a n c) := dk1 Kd3.out
        have qf0 : (w3).cell? ⟨w.heap.size + 1, 0, none⟩ = some (.int .i64 h) := dk0 Kf3.out
        have qf1 : (w3).cell? ⟨w.heap.size + 1, 1, none⟩ = some (.slice b m g) := dk1 Kf3.out
        have qo0 : (w3).cell? ⟨w.heap.size + 2, 0, none⟩ = some (.int .i64 ok) := ok0 Ko3.out
        have qo1 : (w3).cell? ⟨w.heap.size + 2, 1, none⟩ = some (.int .i64 on) := ok1 Ko3.out
        have qo2 : (w3).cell? ⟨w.heap.size + 2, 2, none⟩ = some (.int .i64 oN) := ok2 Ko3.out
        have qo3 : (w3).cell? ⟨w.heap.size + 2, 3, none⟩ = some (.slice ad nd cd) := ok3 Ko3.out
        have qo4 : (w3).cell? ⟨w.heap.size + 2, 4, none⟩ = some (.slice ap np cp) := ok4 Ko3.out
        go_wp2_with fail
        refine (smallOp_any ok on oN ad nd cd ap np cp true _ HZ.out).mono ?_
        rintro e w4 ⟨rfl, hb4⟩
        clear qd0 qd1 qf0 qf1 qo0 qo1 qo2 qo3 qo4
        have W4 := Lib.hid (W3.out.trans (hb4.mono W3.out.size))
        have Kd4 := Lib.hid (Kd3.out.on hb4)
        have Kf4 := Lib.hid (Kf3.out.on hb4)
        have Ko4 := Lib.hid (Ko3.out.on hb4)
        clear hb4
        have qd0 : (w4).cell? ⟨w.heap.size, 0, none⟩ = some (.int .i64 q) := dk0 Kd4.out
        have qd1 : (w4).cell? ⟨w.heap.size, 1, none⟩ = some (.slice a n c) := dk1 Kd4.out
        have qf0 : (w4).cell? ⟨w.heap.size + 1, 0, none⟩ = some (.int .i64 h) := dk0 Kf4.out
        have qf1 : (w4).cell? ⟨w.heap.size + 1, 1, none⟩ = some (.slice b m g) := dk1 Kf4.out
        have qo0 : (w4).cell? ⟨w.heap.size + 2, 0, none⟩ = some (.int .i64 ok) := ok0 Ko4.out
        have qo1 : (w4).cell? ⟨w.heap.size + 2, 1, none⟩ = some (.int .i64 on) := ok1 Ko4.out
        have qo2 : (w4).cell? ⟨w.heap.size + 2, 2, none⟩ = some (.int .i64 oN) := ok2 Ko4.out
        have qo3 : (w4).cell? ⟨w.heap.size + 2, 3, none⟩ = some (.slice ad nd cd) := ok3 Ko4.out
        have qo4 : (w4).cell? ⟨w.heap.size + 2, 4, none⟩ = some (.slice ap np cp) := ok4 Ko4.out
        go_wp2_with fail
        refine (do_any q a n c ok on oN ad nd cd ap np cp xs bd ps _ (HD.out.below W4.out) HSM.out (HO.out.below W4.out) HNP.out).mono ?_
        rw [HQ.out]
        rintro e w5 ⟨a5, n5, c5, ys, rfl, HE5, HY, _, hb5⟩
        clear qd0 qd1 qf0 qf1 qo0 qo1 qo2 qo3 qo4
        have hx5 := dbox_below w5 q a5 n5 c5
        have W5 := Lib.hid ((W4.out.trans (hb5.mono W4.out.size)).trans (hx5.mono (W4.out.trans (hb5.mono W4.out.size)).size))
        have Pd5 := Kd4.out.on hb5
        have Pf5 := Kf4.out.on hb5
        have Po5 := Ko4.out.on hb5
        have Kd5 := Lib.hid (Pd5.on hx5)
        have Kf5 := Lib.hid (Pf5.on hx5)
        have Ko5 := Lib.hid (Po5.on hx5)
        have HDx5 := Lib.hid (HE5.out.below hx5)
        have Kx5 := Lib.hid (dbox_blok w5 q a5 n5 c5)
        have qd0 : ∀ o, (w5.alloc o).cell? ⟨w.heap.size, 0, none⟩ = some (.int .i64 q) := fun o => dk0 (Pd5.alloc o)
        have qd1 : ∀ o, (w5.alloc o).cell? ⟨w.heap.size, 1, none⟩ = some (.slice a n c) := fun o => dk1 (Pd5.alloc o)
        have qf0 : ∀ o, (w5.alloc o).cell? ⟨w.heap.size + 1, 0, none⟩ = some (.int .i64 h) := fun o => dk0 (Pf5.alloc o)
        have qf1 : ∀ o, (w5.alloc o).cell? ⟨w.heap.size + 1, 1, none⟩ = some (.slice b m g) := fun o => dk1 (Pf5.alloc o)
        have qo0 : ∀ o, (w5.alloc o).cell? ⟨w.heap.size + 2, 0, none⟩ = some (.int .i64 ok) := fun o => ok0 (Po5.alloc o)
        have qo1 : ∀ o, (w5.alloc o).cell? ⟨w.heap.size + 2, 1, none⟩ = some (.int .i64 on) := fun o => ok1 (Po5.alloc o)
        have qo2 : ∀ o, (w5.alloc o).cell? ⟨w.heap.size + 2, 2, none⟩ = some (.int .i64 oN) := fun o => ok2 (Po5.alloc o)
        have qo3 : ∀ o, (w5.alloc o).cell? ⟨w.heap.size + 2, 3, none⟩ = some (.slice ad nd cd) := fun o => ok3 (Po5.alloc o)
        have qo4 : ∀ o, (w5.alloc o).cell? ⟨w.heap.size + 2, 4, none⟩ = some (.slice ap np cp) := fun o => ok4 (Po5.alloc o)
        clear hb5 hx5 Pd5 Pf5 Po5
        go_wp2_with fail
        refine (refDo_any q a n c ok on oN ad nd cd ap np cp xs bd ps _ (HD.out.below W5.out) HSM.out (HO.out.below W5.out) HND.out).mono ?_
        rw [HQ.out]
        rintro e w6 ⟨a6, n6, c6, zs, rfl, HE6, HZZ, _, hb6⟩
        clear qd0 qd1 qf0 qf1 qo0 qo1 qo2 qo3 qo4
        have hx6 := dbox_below w6 q a6 n6 c6
        have W6 := Lib.hid ((W5.out.trans (hb6.mono W5.out.size)).trans (hx6.mono (W5.out.trans (hb6.mono W5.out.size)).size))
        have Pd6 := Kd5.out.on hb6
        have Pf6 := Kf5.out.on hb6
        have Po6 := Ko5.out.on hb6
        have Px6 := Kx5.out.on hb6
        have Kd6 := Lib.hid (Pd6.on hx6)
        have Kf6 := Lib.hid (Pf6.on hx6)
        have Ko6 := Lib.hid (Po6.on hx6)
        have Kx6 := Lib.hid (Px6.on hx6)
        have HDx6 := Lib.hid ((HDx5.out.below hb6).below hx6)
        have HDy6 := Lib.hid (HE6.out.below hx6)
        have Ky6 := Lib.hid (dbox_blok w6 q a6 n6 c6)
        have qd0 : ∀ o, (w6.alloc o).cell? ⟨w.heap.size, 0, none⟩ = some (.int .i64 q) := fun o => dk0 (Pd6.alloc o)
        have qd1 : ∀ o, (w6.alloc o).cell? ⟨w.heap.size, 1, none⟩ = some (.slice a n c) := fun o => dk1 (Pd6.alloc o)
        have qf0 : ∀ o, (w6.alloc o).cell? ⟨w.heap.size + 1, 0, none⟩ = some (.int .i64 h) := fun o => dk0 (Pf6.alloc o)
        have qf1 : ∀ o, (w6.alloc o).cell? ⟨w.heap.size + 1, 1, none⟩ = some (.slice b m g) := fun o => dk1 (Pf6.alloc o)
        have qo0 : ∀ o, (w6.alloc o).cell? ⟨w.heap.size + 2, 0, none⟩ = some (.int .i64 ok) := fun o => ok0 (Po6.alloc o)
        have qo1 : ∀ o, (w6.alloc o).cell? ⟨w.heap.size + 2, 1, none⟩ = some (.int .i64 on) := fun o => ok1 (Po6.alloc o)
        have qo2 : ∀ o, (w6.alloc o).cell? ⟨w.heap.size + 2, 2, none⟩ = some (.int .i64 oN) := fun o => ok2 (Po6.alloc o)
        have qo3 : ∀ o, (w6.alloc o).cell? ⟨w.heap.size + 2, 3, none⟩ = some (.slice ad nd cd) := fun o => ok3 (Po6.alloc o)
        have qo4 : ∀ o, (w6.alloc o).cell? ⟨w.heap.size + 2, 4, none⟩ = some (.slice ap np cp) := fun o => ok4 (Po6.alloc o)
        have qx0 : ∀ o, (w6.alloc o).cell? ⟨w5.heap.size, 0, none⟩ = some (.int .i64 q) := fun o => dk0 (Px6.alloc o)
        have qx1 : ∀ o, (w6.alloc o).cell? ⟨w5.heap.size, 1, none⟩ = some (.slice a5 n5 c5) := fun o => dk1 (Px6.alloc o)
        clear hb6 hx6 Pd6 Pf6 Po6 Px6
        have HS1 : Hid (decide (((q, FP.files ys) : D.T) = (q, FP.files zs)) = true) := Lib.hid (by rw [HY.out, HZZ.out]; simp)
        go_wp2_with fail
        refine (HNEW.out _).mono ?_
        rintro e w7 ⟨rfl, hb7⟩
        clear qd0 qd1 qf0 qf1 qo0 qo1 qo2 qo3 qo4 qx0 qx1
        have hx7 := dbox_below w7 rm none 0 0
        have W7 := Lib.hid ((W6.out.trans (hb7.mono W6.out.size)).trans (hx7.mono (W6.out.trans (hb7.mono W6.out.size)).size))
        have Pd7 := Kd6.out.on hb7
        have Pf7 := Kf6.out.on hb7
        have Po7 := Ko6.out.on hb7
        have Px7 := Kx6.out.on hb7
        have Py7 := Ky6.out.on hb7
        have Kd7 := Lib.hid (Pd7.on hx7)
        have Kf7 := Lib.hid (Pf7.on hx7)
        have Ko7 := Lib.hid (Po7.on hx7)
        have Kx7 := Lib.hid (Px7.on hx7)
        have Ky7 := Lib.hid (Py7.on hx7)
        have HDx7 := Lib.hid ((HDx6.out.below hb7).below hx7)
        have HDy7 := Lib.hid ((HDy6.out.below hb7).below hx7)
        have HDn7 := Lib.hid ((Lib.hid (DiskIn.empty w7)).out.below hx7)
        have Kn7 := Lib.hid (dbox_blok w7 rm none 0 0)
        have qd0 : ∀ o, (w7.alloc o).cell? ⟨w.heap.size, 0, none⟩ = some (.int .i64 q) := fun o => dk0 (Pd7.alloc o)
        have qd1 : ∀ o, (w7.alloc o).cell? ⟨w.heap.size, 1, none⟩ = some (.slice a n c) := fun o => dk1 (Pd7.alloc o)
        have qf0 : ∀ o, (w7.alloc o).cell? ⟨w.heap.size + 1, 0, none⟩ = some (.int .i64 h) := fun o => dk0 (Pf7.alloc o)
        have qf1 : ∀ o, (w7.alloc o).cell? ⟨w.heap.size + 1, 1, none⟩ = some (.slice b m g) := fun o => dk1 (Pf7.alloc o)
        have qo0 : ∀ o, (w7.alloc o).cell? ⟨w.heap.size + 2, 0, none⟩ = some (.int .i64 ok) := fun o => ok0 (Po7.alloc o)
        have qo1 : ∀ o, (w7.alloc o).cell? ⟨w.heap.size + 2, 1, none⟩ = some (.int .i64 on) := fun o => ok1 (Po7.alloc o)
        have qo2 : ∀ o, (w7.alloc o).cell? ⟨w.heap.size + 2, 2, none⟩ = some (.int .i64 oN) := fun o => ok2 (Po7.alloc o)
        have qo3 : ∀ o, (w7.alloc o).cell? ⟨w.heap.size + 2, 3, none⟩ = some (.slice ad nd cd) := fun o => ok3 (Po7.alloc o)
        have qo4 : ∀ o, (w7.alloc o).cell? ⟨w.heap.size + 2, 4, none⟩ = some (.slice ap np cp) := fun o => ok4 (Po7.alloc o)
        have qx0 : ∀ o, (w7.alloc o).cell? ⟨w5.heap.size, 0, none⟩ = some (.int .i64 q) := fun o => dk0 (Px7.alloc o)
        have qx1 : ∀ o, (w7.alloc o).cell? ⟨w5.heap.size, 1, none⟩ = some (.slice a5 n5 c5) := fun o => dk1 (Px7.alloc o)
        have qy0 : ∀ o, (w7.alloc o).cell? ⟨w6.heap.size, 0, none⟩ = some (.int .i64 q) := fun o => dk0 (Py7.alloc o)
        have qy1 : ∀ o, (w7.alloc o).cell? ⟨w6.heap.size, 1, none⟩ = some (.slice a6 n6 c6) := fun o => dk1 (Py7.alloc o)
        clear hb7 hx7 Pd7 Pf7 Po7 Px7 Py7
        go_wp2_with fail
        refine (HRNEW.out _).mono ?_
        rintro e w8 ⟨rfl, hb8⟩
        clear qd0 qd1 qf0 qf1 qo0 qo1 qo2 qo3 qo4 qx0 qx1 qy0 qy1
        have hx8 := dbox_below w8 rm none 0 0
        have W8 := Lib.hid ((W7.out.trans (hb8.mono W7.out.size)).trans (hx8.mono (W7.out.trans (hb8.mono W7.out.size)).size))
        have Pd8 := Kd7.out.on hb8
        have Pf8 := Kf7.out.on hb8
        have Po8 := Ko7.out.on hb8
        have Px8 := Kx7.out.on hb8
        have Py8 := Ky7.out.on hb8
        have Pn8 := Kn7.out.on hb8
        have Kd8 := Lib.hid (Pd8.on hx8)
        have Kf8 := Lib.hid (Pf8.on hx8)
        have Ko8 := Lib.hid (Po8.on hx8)
        have Kx8 := Lib.hid (Px8.on hx8)
        have Ky8 := Lib.hid (Py8.on hx8)
        have Kn8 := Lib.hid (Pn8.on hx8)
        have HDx8 := Lib.hid ((HDx7.out.below hb8).below hx8)
        have HDy8 := Lib.hid ((HDy7.out.below hb8).below hx8)
        have HDn8 := Lib.hid ((HDn7.out.below hb8).below hx8)
        have HDr8 := Lib.hid ((Lib.hid (DiskIn.empty w8)).out.below hx8)
        have Kr8 := Lib.hid (dbox_blok w8 rm none 0 0)
        have qd0 : ∀ o, (w8.alloc o).cell? ⟨w.heap.size, 0, none⟩ = some (.int .i64 q) := fun o => dk0 (Pd8.alloc o)
        have qd1 : ∀ o, (w8.alloc o).cell? ⟨w.heap.size, 1, none⟩ = some (.slice a n c) := fun o => dk1 (Pd8.alloc o)
        have qf0 : ∀ o, (w8.alloc o).cell? ⟨w.heap.size + 1, 0, none⟩ = some (.int .i64 h) := fun o => dk0 (Pf8.alloc o)
        have qf1 : ∀ o, (w8.alloc o).cell? ⟨w.heap.size + 1, 1, none⟩ = some (.slice b m g) := fun o => dk1 (Pf8.alloc o)
        have qo0 : ∀ o, (w8.alloc o).cell? ⟨w.heap.size + 2, 0, none⟩ = some (.int .i64 ok) := fun o => ok0 (Po8.alloc o)
        have qo1 : ∀ o, (w8.alloc o).cell? ⟨w.heap.size + 2, 1, none⟩ = some (.int .i64 on) := fun o => ok1 (Po8.alloc o)
        have qo2 : ∀ o, (w8.alloc o).cell? ⟨w.heap.size + 2, 2, none⟩ = some (.int .i64 oN) := fun o => ok2 (Po8.alloc o)
        have qo3 : ∀ o, (w8.alloc o).cell? ⟨w.heap.size + 2, 3, none⟩ = some (.slice ad nd cd) := fun o => ok3 (Po8.alloc o)
        have qo4 : ∀ o, (w8.alloc o).cell? ⟨w.heap.size + 2, 4, none⟩ = some (.slice ap np cp) := fun o => ok4 (Po8.alloc o)
        have qx0 : ∀ o, (w8.alloc o).cell? ⟨w5.heap.size, 0, none⟩ = some (.int .i64 q) := fun o => dk0 (Px8.alloc o)
        have qx1 : ∀ o, (w8.alloc o).cell? ⟨w5.heap.size, 1, none⟩ = some (.slice a5 n5 c5) := fun o => dk1 (Px8.alloc o)
        have qy0 : ∀ o, (w8.alloc o).cell? ⟨w6.heap.size, 0, none⟩ = some (.int .i64 q) := fun o => dk0 (Py8.alloc o)
        have qy1 : ∀ o, (w8.alloc o).cell? ⟨w6.heap.size, 1, none⟩ = some (.slice a6 n6 c6) := fun o => dk1 (Py8.alloc o)
        have qn0 : ∀ o, (w8.alloc o).cell? ⟨w7.heap.size, 0, none⟩ = some (.int .i64 rm) := fun o => dk0 (Pn8.alloc o)
        have qn1 : ∀ o, (w8.alloc o).cell? ⟨w7.heap.size, 1, none⟩ = some (.slice none 0 0) := fun o => dk1 (Pn8.alloc o)
        clear hb8 hx8 Pd8 Pf8 Po8 Px8 Py8 Pn8
        go_wp2_with fail
        refine (refSame_any q a5 n5 c5 ys q a6 n6 c6 zs true _ HDx8.out HDy8.out HS1.out).mono ?_
        rintro e w9 ⟨rfl, hb9⟩
        clear qd0 qd1 qf0 qf1 qo0 qo1 qo2 qo3 qo4 qx0 qx1 qy0 qy1 qn0 qn1
        have W9 := Lib.hid (W8.out.trans (hb9.mono W8.out.size))
        have Kd9 := Lib.hid (Kd8.out.on hb9)
        have Kf9 := Lib.hid (Kf8.out.on hb9)
        have Ko9 := Lib.hid (Ko8.out.on hb9)
        have Kx9 := Lib.hid (Kx8.out.on hb9)
        have Ky9 := Lib.hid (Ky8.out.on hb9)
        have Kn9 := Lib.hid (Kn8.out.on hb9)
        have Kr9 := Lib.hid (Kr8.out.on hb9)
        have HDx9 := Lib.hid (HDx8.out.below hb9)
        have HDy9 := Lib.hid (HDy8.out.below hb9)
        have HDn9 := Lib.hid (HDn8.out.below hb9)
        have HDr9 := Lib.hid (HDr8.out.below hb9)
        clear hb9
        have qd0 : (w9).cell? ⟨w.heap.size, 0, none⟩ = some (.int .i64 q) := dk0 Kd9.out
        have qd1 : (w9).cell? ⟨w.heap.size, 1, none⟩ = some (.slice a n c) := dk1 Kd9.out
        have qf0 : (w9).cell? ⟨w.heap.size + 1, 0, none⟩ = some (.int .i64 h) := dk0 Kf9.out
        have qf1 : (w9).cell? ⟨w.heap.size + 1, 1, none⟩ = some (.slice b m g) := dk1 Kf9.out
        have qo0 : (w9).cell? ⟨w.heap.size + 2, 0, none⟩ = some (.int .i64 ok) := ok0 Ko9.out
        have qo1 : (w9).cell? ⟨w.heap.size + 2, 1, none⟩ = some (.int .i64 on) := ok1 Ko9.out
        have qo2 : (w9).cell? ⟨w.heap.size + 2, 2, none⟩ = some (.int .i64 oN) := ok2 Ko9.out
        have qo3 : (w9).cell? ⟨w.heap.size + 2, 3, none⟩ = some (.slice ad nd cd) := ok3 Ko9.out
        have qo4 : (w9).cell? ⟨w.heap.size + 2, 4, none⟩ = some (.slice ap np cp) := ok4 Ko9.out
        have qx0 : (w9).cell? ⟨w5.heap.size, 0, none⟩ = some (.int .i64 q) := dk0 Kx9.out
        have qx1 : (w9).cell? ⟨w5.heap.size, 1, none⟩ = some (.slice a5 n5 c5) := dk1 Kx9.out
        have qy0 : (w9).cell? ⟨w6.heap.size, 0, none⟩ = some (.int .i64 q) := dk0 Ky9.out
        have qy1 : (w9).cell? ⟨w6.heap.size, 1, none⟩ = some (.slice a6 n6 c6) := dk1 Ky9.out
        have qn0 : (w9).cell? ⟨w7.heap.size, 0, none⟩ = some (.int .i64 rm) := dk0 Kn9.out
        have qn1 : (w9).cell? ⟨w7.heap.size, 1, none⟩ = some (.slice none 0 0) := dk1 Kn9.out
        have qr0 : (w9).cell? ⟨w8.heap.size, 0, none⟩ = some (.int .i64 rm) := dk0 Kr9.out
        have qr1 : (w9).cell? ⟨w8.heap.size, 1, none⟩ = some (.slice none 0 0) := dk1 Kr9.out
        go_wp2_with fail
        refine (refSame_any rm none 0 0 [] rm none 0 0 [] true _ (DiskIn.empty _) (DiskIn.empty _) (decide_eq_true rfl)).mono ?_
        rintro e w10 ⟨rfl, hb10⟩
        clear qd0 qd1 qf0 qf1 qo0 qo1 qo2 qo3 qo4 qx0 qx1 qy0 qy1 qn0 qn1 qr0 qr1
        have W10 := Lib.hid (W9.out.trans (hb10.mono W9.out.size))
        have Kd10 := Lib.hid (Kd9.out.on hb10)
        have Kf10 := Lib.hid (Kf9.out.on hb10)
        have Ko10 := Lib.hid (Ko9.out.on hb10)
        have Kx10 := Lib.hid (Kx9.out.on hb10)
        have Ky10 := Lib.hid (Ky9.out.on hb10)
        have Kn10 := Lib.hid (Kn9.out.on hb10)
        have Kr10 := Lib.hid (Kr9.out.on hb10)
        have HDx10 := Lib.hid (HDx9.out.below hb10)
        have HDy10 := Lib.hid (HDy9.out.below hb10)
        have HDn10 := Lib.hid (HDn9.out.below hb10)
        have HDr10 := Lib.hid (HDr9.out.below hb10)
        clear hb10
        have qd0 : (w10).cell? ⟨w.heap.size, 0, none⟩ = some (.int .i64 q) := dk0 Kd10.out
        have qd1 : (w10).cell? ⟨w.heap.size, 1, none⟩ = some (.slice a n c) := dk1 Kd10.out
        have qf0 : (w10).cell? ⟨w.heap.size + 1, 0, none⟩ = some (.int .i64 h) := dk0 Kf10.out
        have qf1 : (w10).cell? ⟨w.heap.size + 1, 1, none⟩ = some (.slice b m g) := dk1 Kf10.out
        have qo0 : (w10).cell? ⟨w.heap.size + 2, 0, none⟩ = some (.int .i64 ok) := ok0 Ko10.out
        have qo1 : (w10).cell? ⟨w.heap.size + 2, 1, none⟩ = some (.int .i64 on) := ok1 Ko10.out
        have qo2 : (w10).cell? ⟨w.heap.size + 2, 2, none⟩ = some (.int .i64 oN) := ok2 Ko10.out
        have qo3 : (w10).cell? ⟨w.heap.size + 2, 3, none⟩ = some (.slice ad nd cd) := ok3 Ko10.out
        have qo4 : (w10).cell? ⟨w.heap.size + 2, 4, none⟩ = some (.slice ap np cp) := ok4 Ko10.out
        have qx0 : (w10).cell? ⟨w5.heap.size, 0, none⟩ = some (.int .i64 q) := dk0 Kx10.out
        have qx1 : (w10).cell? ⟨w5.heap.size, 1, none⟩ = some (.slice a5 n5 c5) := dk1 Kx10.out
        have qy0 : (w10).cell? ⟨w6.heap.size, 0, none⟩ = some (.int .i64 q) := dk0 Ky10.out
        have qy1 : (w10).cell? ⟨w6.heap.size, 1, none⟩ = some (.slice a6 n6 c6) := dk1 Ky10.out
        have qn0 : (w10).cell? ⟨w7.heap.size, 0, none⟩ = some (.int .i64 rm) := dk0 Kn10.out
        have qn1 : (w10).cell? ⟨w7.heap.size, 1, none⟩ = some (.slice none 0 0) := dk1 Kn10.out
        have qr0 : (w10).cell? ⟨w8.heap.size, 0, none⟩ = some (.int .i64 rm) := dk0 Kr10.out
        have qr1 : (w10).cell? ⟨w8.heap.size, 1, none⟩ = some (.slice none 0 0) := dk1 Kr10.out
        go_wp2_with fail
        refine (refMay_any q a n c xs mb _ (HD.out.below W10.out) HSM.out HMB.out).mono ?_
        rintro e w11 ⟨rfl, hb11⟩
        clear qd0 qd1 qf0 qf1 qo0 qo1 qo2 qo3 qo4 qx0 qx1 qy0 qy1 qn0 qn1 qr0 qr1
        have W11 := Lib.hid (W10.out.trans (hb11.mono W10.out.size))
        have Kd11 := Lib.hid (Kd10.out.on hb11)
        have Kf11 := Lib.hid (Kf10.out.on hb11)
        have Ko11 := Lib.hid (Ko10.out.on hb11)
        have Kx11 := Lib.hid (Kx10.out.on hb11)
        have Ky11 := Lib.hid (Ky10.out.on hb11)
        have Kn11 := Lib.hid (Kn10.out.on hb11)
        have Kr11 := Lib.hid (Kr10.out.on hb11)
        have HDx11 := Lib.hid (HDx10.out.below hb11)
        have HDy11 := Lib.hid (HDy10.out.below hb11)
        have HDn11 := Lib.hid (HDn10.out.below hb11)
        have HDr11 := Lib.hid (HDr10.out.below hb11)
        clear hb11
        have qd0 : (w11).cell? ⟨w.heap.size, 0, none⟩ = some (.int .i64 q) := dk0 Kd11.out
        have qd1 : (w11).cell? ⟨w.heap.size, 1, none⟩ = some (.slice a n c) := dk1 Kd11.out
        have qf0 : (w11).cell? ⟨w.heap.size + 1, 0, none⟩ = some (.int .i64 h) := dk0 Kf11.out
        have qf1 : (w11).cell? ⟨w.heap.size + 1, 1, none⟩ = some (.slice b m g) := dk1 Kf11.out
        have qo0 : (w11).cell? ⟨w.heap.size + 2, 0, none⟩ = some (.int .i64 ok) := ok0 Ko11.out
        have qo1 : (w11).cell? ⟨w.heap.size + 2, 1, none⟩ = some (.int .i64 on) := ok1 Ko11.out
        have qo2 : (w11).cell? ⟨w.heap.size + 2, 2, none⟩ = some (.int .i64 oN) := ok2 Ko11.out
        have qo3 : (w11).cell? ⟨w.heap.size + 2, 3, none⟩ = some (.slice ad nd cd) := ok3 Ko11.out
        have qo4 : (w11).cell? ⟨w.heap.size + 2, 4, none⟩ = some (.slice ap np cp) := ok4 Ko11.out
        have qx0 : (w11).cell? ⟨w5.heap.size, 0, none⟩ = some (.int .i64 q) := dk0 Kx11.out
        have qx1 : (w11).cell? ⟨w5.heap.size, 1, none⟩ = some (.slice a5 n5 c5) := dk1 Kx11.out
        have qy0 : (w11).cell? ⟨w6.heap.size, 0, none⟩ = some (.int .i64 q) := dk0 Ky11.out
        have qy1 : (w11).cell? ⟨w6.heap.size, 1, none⟩ = some (.slice a6 n6 c6) := dk1 Ky11.out
        have qn0 : (w11).cell? ⟨w7.heap.size, 0, none⟩ = some (.int .i64 rm) := dk0 Kn11.out
        have qn1 : (w11).cell? ⟨w7.heap.size, 1, none⟩ = some (.slice none 0 0) := dk1 Kn11.out
        have qr0 : (w11).cell? ⟨w8.heap.size, 0, none⟩ = some (.int .i64 rm) := dk0 Kr11.out
        have qr1 : (w11).cell? ⟨w8.heap.size, 1, none⟩ = some (.slice none 0 0) := dk1 Kr11.out
        go_wp2_with fail
        refine (refSame_any q a n c xs h b m g ws sb _ (HD.out.below W11.out) (HC.out.below W11.out) HSB.out).mono ?_
        rintro e w12 ⟨rfl, hb12⟩
        clear qd0 qd1 qf0 qf1 qo0 qo1 qo2 qo3 qo4 qx0 qx1 qy0 qy1 qn0 qn1 qr0 qr1
        have W12 := Lib.hid (W11.out.trans (hb12.mono W11.out.size))
        have Kd12 := Lib.hid (Kd11.out.on hb12)
        have Kf12 := Lib.hid (Kf11.out.on hb12)
        have Ko12 := Lib.hid (Ko11.out.on hb12)
        have Kx12 := Lib.hid (Kx11.out.on hb12)
        have Ky12 := Lib.hid (Ky11.out.on hb12)
        have Kn12 := Lib.hid (Kn11.out.on hb12)
        have Kr12 := Lib.hid (Kr11.out.on hb12)
        have HDx12 := Lib.hid (HDx11.out.below hb12)
        have HDy12 := Lib.hid (HDy11.out.below hb12)
        have HDn12 := Lib.hid (HDn11.out.below hb12)
        have HDr12 := Lib.hid (HDr11.out.below hb12)
        clear hb12
        have qd0 : (w12).cell? ⟨w.heap.size, 0, none⟩ = some (.int .i64 q) := dk0 Kd12.out
        have qd1 : (w12).cell? ⟨w.heap.size, 1, none⟩ = some (.slice a n c) := dk1 Kd12.out
        have qf0 : (w12).cell? ⟨w.heap.size + 1, 0, none⟩ = some (.int .i64 h) := dk0 Kf12.out
        have qf1 : (w12).cell? ⟨w.heap.size + 1, 1, none⟩ = some (.slice b m g) := dk1 Kf12.out
        have qo0 : (w12).cell? ⟨w.heap.size + 2, 0, none⟩ = some (.int .i64 ok) := ok0 Ko12.out
        have qo1 : (w12).cell? ⟨w.heap.size + 2, 1, none⟩ = some (.int .i64 on) := ok1 Ko12.out
        have qo2 : (w12).cell? ⟨w.heap.size + 2, 2, none⟩ = some (.int .i64 oN) := ok2 Ko12.out
        have qo3 : (w12).cell? ⟨w.heap.size + 2, 3, none⟩ = some (.slice ad nd cd) := ok3 Ko12.out
        have qo4 : (w12).cell? ⟨w.heap.size + 2, 4, none⟩ = some (.slice ap np cp) := ok4 Ko12.out
        have qx0 : (w12).cell? ⟨w5.heap.size, 0, none⟩ = some (.int .i64 q) := dk0 Kx12.out
        have qx1 : (w12).cell? ⟨w5.heap.size, 1, none⟩ = some (.slice a5 n5 c5) := dk1 Kx12.out
        have qy0 : (w12).cell? ⟨w6.heap.size, 0, none⟩ = some (.int .i64 q) := dk0 Ky12.out
        have qy1 : (w12).cell? ⟨w6.heap.size, 1, none⟩ = some (.slice a6 n6 c6) := dk1 Ky12.out
        have qn0 : (w12).cell? ⟨w7.heap.size, 0, none⟩ = some (.int .i64 rm) := dk0 Kn12.out
        have qn1 : (w12).cell? ⟨w7.heap.size, 1, none⟩ = some (.slice none 0 0) := dk1 Kn12.out
        have qr0 : (w12).cell? ⟨w8.heap.size, 0, none⟩ = some (.int .i64 rm) := dk0 Kr12.out
        have qr1 : (w12).cell? ⟨w8.heap.size, 1, none⟩ = some (.slice none 0 0) := dk1 Kr12.out
        go_wp2_with fail
        refine wp_region_held (S := fun w' => Below (w12).heap.size (w12) w') (by kernel_rfl) ?_
        change wpAnyH _ _ _ _ _ _ _ _ (World.drew (w12))
        have HS0 : (fun w' => Below (w12).heap.size (w12) w') (World.drew (w12)) := below_drew _
        refine wpAnyH_take (i := 0) (v := (.bool true)) rfl (by kernel_rfl) (by kernel_rfl) (by kernel_rfl) (fun _ _ _ h => h) (.inl ⟨by kernel_rfl, fun w9 hS => by kernel_rfl⟩) HS0 ?_
        refine wpAnyH_take (i := 1) (v := (.bool true)) rfl (by kernel_rfl) (by kernel_rfl) (by kernel_rfl) (fun _ _ _ h => h) (.inl ⟨by kernel_rfl, fun w9 hS => by kernel_rfl⟩) HS0 ?_
        refine wpAnyH_take (i := 2) (v := (.int .i64 e0)) rfl (by kernel_rfl) (by kernel_rfl) (by kernel_rfl) (fun _ _ _ h => h) (.inl ⟨by kernel_rfl, fun w9 hS => by kernel_rfl⟩) HS0 ?_
        refine wpAnyH_take (i := 3) (v := (.int .i64 e0)) rfl (by kernel_rfl) (by kernel_rfl) (by kernel_rfl) (fun _ _ _ h => h) (.inl ⟨by kernel_rfl, fun w9 hS => by kernel_rfl⟩) HS0 ?_
        refine wpAnyH_take (i := 4) (v := (.bool true)) rfl (by kernel_rfl) (by kernel_rfl) (by kernel_rfl) (fun _ _ _ h => h) (.inl ⟨by kernel_rfl, fun w9 hS => (show _ = Result.ok (.value (.bool (e0 == e0))) w9 by kernel_rfl).trans (by rw [beq_self_eq_true])⟩) HS0 ?_
        refine wpAnyH_take (i := 5) (v := (.bool true)) rfl (by kernel_rfl) (by kernel_rfl) (by kernel_rfl) (fun _ _ _ h => h) (.inl ⟨by kernel_rfl, fun w9 hS => by kernel_rfl⟩) HS0 ?_
        refine wpAnyH_take (i := 6) (v := (.bool true)) rfl (by kernel_rfl) (by kernel_rfl) (by kernel_rfl) (fun _ _ _ h => h) (.inl ⟨by kernel_rfl, fun w9 hS => by kernel_rfl⟩) HS0 ?_
        refine wpAnyH_take (i := 7) (v := (.bool true)) rfl (by kernel_rfl) (by kernel_rfl) (by kernel_rfl) (fun _ _ _ h => h) (.inl ⟨by kernel_rfl, fun w9 hS => by kernel_rfl⟩) HS0 ?_
        refine wpAnyH_take (i := 8) (v := (.bool true)) rfl (by kernel_rfl) (by kernel_rfl) (by kernel_rfl) (fun _ _ _ h => h) (.inl ⟨by kernel_rfl, fun w9 hS => by kernel_rfl⟩) HS0 ?_
        refine wpAnyH_take (i := 9) (v := (.bool true)) rfl (by kernel_rfl) (by kernel_rfl) (by kernel_rfl) (fun _ _ _ h => h) (.inl ⟨by kernel_rfl, fun w9 hS => by kernel_rfl⟩) HS0 ?_
        refine wpAnyH_take (i := 10) (v := (.bool nb)) rfl (by kernel_rfl) (by kernel_rfl) (by kernel_rfl) (fun _ _ _ h => h) (.inl ⟨by kernel_rfl, fun w9 hS => by kernel_rfl⟩) HS0 ?_
        refine wpAnyH_take (i := 11) (v := (.bool nb)) rfl (by kernel_rfl) (by kernel_rfl) (by kernel_rfl) (fun _ _ _ h => h) (.inl ⟨by kernel_rfl, fun w9 hS => by kernel_rfl⟩) HS0 ?_
        refine wpAnyH_take (i := 12) (v := (.bool true)) rfl (by kernel_rfl) (by kernel_rfl) (by kernel_rfl) (fun _ _ _ h => h) (.inl ⟨by kernel_rfl, fun w9 hS => (show _ = Result.ok (.value (.bool (nb == nb))) w9 by kernel_rfl).trans (by rw [beq_self_eq_true])⟩) HS0 ?_
        refine wpAnyH_take (i := 13) (v := (.bool true)) rfl (by kernel_rfl) (by kernel_rfl) (by kernel_rfl) (fun _ _ _ h => h) (.inl ⟨by kernel_rfl, fun w9 hS => by kernel_rfl⟩) HS0 ?_
        refine wpAnyH_take (i := 14) (v := (.bool true)) rfl (by kernel_rfl) (by kernel_rfl) (by kernel_rfl) (fun _ _ _ h => h) (.inl ⟨by kernel_rfl, fun w9 hS => by kernel_rfl⟩) HS0 ?_
        refine wpAnyH_take (i := 15) (v := (.agg #[.int .i64 q, .slice a n c])) rfl (by kernel_rfl) (by kernel_rfl) (by kernel_rfl) (fun _ _ _ h => h) (.inl ⟨by kernel_rfl, fun w9 hS => by have c0 := dk0 (Kd12.out.on hS); have c1 := dk1 (Kd12.out.on hS); go_simp⟩) HS0 ?_
        refine wpAnyH_take (i := 17) (v := (.bool mb)) rfl (by kernel_rfl) (by kernel_rfl) (by kernel_rfl) (fun _ _ _ h => h) (.inl ⟨by kernel_rfl, fun w9 hS => by kernel_rfl⟩) HS0 ?_
        refine wpAnyH_call (i := 16) (f := 19) (args := #[.agg #[.int .i64 q, .slice a n c]]) (by kernel_rfl) rfl (by kernel_rfl) (by kernel_rfl) (may_any q a n c xs mb _ (HD.out.below (Below.trans W12.out (Below.mono HS0 W12.out.size))) HMB.out) ?_
        rintro e wz1 ⟨rfl, hbwz1⟩
        have HS1 : (fun w' => Below (w12).heap.size (w12) w') wz1 := Below.trans HS0 (hbwz1.mono (Below.size HS0))
        refine ⟨_, rfl, HS1, ?_⟩
        refine wpAnyH_take (i := 18) (v := (.bool true)) rfl (by kernel_rfl) (by kernel_rfl) (by kernel_rfl) (fun _ _ _ h => h) (.inl ⟨by kernel_rfl, fun w9 hS => (show _ = Result.ok (.value (.bool (mb == mb))) w9 by kernel_rfl).trans (by rw [beq_self_eq_true])⟩) HS1 ?_
        refine wpAnyH_take (i := 19) (v := (.bool true)) rfl (by kernel_rfl) (by kernel_rfl) (by kernel_rfl) (fun _ _ _ h => h) (.inl ⟨by kernel_rfl, fun w9 hS => by kernel_rfl⟩) HS1 ?_
        refine wpAnyH_take (i := 20) (v := (.bool true)) rfl (by kernel_rfl) (by kernel_rfl) (by kernel_rfl) (fun _ _ _ h => h) (.inl ⟨by kernel_rfl, fun w9 hS => by kernel_rfl⟩) HS1 ?_
        refine wpAnyH_take (i := 21) (v := (.agg #[.int .i64 q, .slice a n c])) rfl (by kernel_rfl) (by kernel_rfl) (by kernel_rfl) (fun _ _ _ h => h) (.inl ⟨by kernel_rfl, fun w9 hS => by have c0 := dk0 (Kd12.out.on hS); have c1 := dk1 (Kd12.out.on hS); go_simp⟩) HS1 ?_
        refine wpAnyH_take (i := 22) (v := (.agg #[.int .i64 h, .slice b m g])) rfl (by kernel_rfl) (by kernel_rfl) (by kernel_rfl) (fun _ _ _ h => h) (.inl ⟨by kernel_rfl, fun w9 hS => by have c0 := dk0 (Kf12.out.on hS); have c1 := dk1 (Kf12.out.on hS); go_simp⟩) HS1 ?_
        refine wpAnyH_take (i := 24) (v := (.bool sb)) rfl (by kernel_rfl) (by kernel_rfl) (by kernel_rfl) (fun _ _ _ h => h) (.inl ⟨by kernel_rfl, fun w9 hS => by kernel_rfl⟩) HS1 ?_
        refine wpAnyH_call (i := 23) (f := 20) (args := #[.agg #[.int .i64 q, .slice a n c], .agg #[.int .i64 h, .slice b m g]]) (by kernel_rfl) rfl (by kernel_rfl) (by kernel_rfl) (same_any q a n c xs h b m g ws sb _ (HD.out.below (Below.trans W12.out (Below.mono HS1 W12.out.size))) (HC.out.below (Below.trans W12.out (Below.mono HS1 W12.out.size))) HSB.out) ?_
        rintro e wz2 ⟨rfl, hbwz2⟩
        have HS2 : (fun w' => Below (w12).heap.size (w12) w') wz2 := Below.trans HS1 (hbwz2.mono (Below.size HS1))
        refine ⟨_, rfl, HS2, ?_⟩
        refine wpAnyH_take (i := 25) (v := (.bool true)) rfl (by kernel_rfl) (by kernel_rfl) (by kernel_rfl) (fun _ _ _ h => h) (.inl ⟨by kernel_rfl, fun w9 hS => (show _ = Result.ok (.value (.bool (sb == sb))) w9 by kernel_rfl).trans (by rw [beq_self_eq_true])⟩) HS2 ?_
        refine wpAnyH_take (i := 26) (v := (.bool true)) rfl (by kernel_rfl) (by kernel_rfl) (by kernel_rfl) (fun _ _ _ h => h) (.inl ⟨by kernel_rfl, fun w9 hS => by kernel_rfl⟩) HS2 ?_
        refine wpAnyH_take (i := 27) (v := (.bool true)) rfl (by kernel_rfl) (by kernel_rfl) (by kernel_rfl) (fun _ _ _ h => h) (.inl ⟨by kernel_rfl, fun w9 hS => by kernel_rfl⟩) HS2 ?_
        refine wpAnyH_take (i := 28) (v := (.agg #[.int .i64 q, .slice a n c])) rfl (by kernel_rfl) (by kernel_rfl) (by kernel_rfl) (fun _ _ _ h => h) (.inl ⟨by kernel_rfl, fun w9 hS => by have c0 := dk0 (Kd12.out.on hS); have c1 := dk1 (Kd12.out.on hS); go_simp⟩) HS2 ?_
        refine wpAnyH_take (i := 29) (v := (.int .i64 no)) rfl (by kernel_rfl) (by kernel_rfl) (by kernel_rfl) (fun _ _ _ h => h) (.inl ⟨by kernel_rfl, fun w9 hS => by kernel_rfl⟩) HS2 ?_
        refine wpAnyH_take (i := 31) (v := (.agg #[.int .i64 q, .slice a n c])) rfl (by kernel_rfl) (by kernel_rfl) (by kernel_rfl) (fun _ _ _ h => h) (.inl ⟨by kernel_rfl, fun w9 hS => by have c0 := dk0 (Kd12.out.on hS); have c1 := dk1 (Kd12.out.on hS); go_simp⟩) HS2 ?_
        refine wpAnyH_take (i := 32) (v := (.int .i64 no)) rfl (by kernel_rfl) (by kernel_rfl) (by kernel_rfl) (fun _ _ _ h => h) (.inl ⟨by kernel_rfl, fun w9 hS => by kernel_rfl⟩) HS2 ?_
        refine wpAnyH_call (i := 30) (f := 21) (args := #[.agg #[.int .i64 q, .slice a n c], .int .i64 no]) (by kernel_rfl) rfl (by kernel_rfl) (by kernel_rfl) (find_any q a n c no xs fn _ (HD.out.below (Below.trans W12.out (Below.mono HS2 W12.out.size))) HFN.out) ?_
        rintro e wz3 ⟨rfl, hbwz3⟩
        have HS3 : (fun w' => Below (w12).heap.size (w12) w') wz3 := Below.trans HS2 (hbwz3.mono (Below.size HS2))
        refine ⟨_, rfl, HS3, ?_⟩
        refine wpAnyH_call (i := 33) (f := 22) (args := #[.agg #[.int .i64 q, .slice a n c], .int .i64 no]) (by kernel_rfl) rfl (by kernel_rfl) (by kernel_rfl) (refFind_any q a n c no xs fn _ (HD.out.below (Below.trans W12.out (Below.mono HS3 W12.out.size))) HSM.out HFN.out) ?_
        rintro e wz4 ⟨rfl, hbwz4⟩
        have HS4 : (fun w' => Below (w12).heap.size (w12) w') wz4 := Below.trans HS3 (hbwz4.mono (Below.size HS3))
        refine ⟨_, rfl, HS4, ?_⟩
        refine wpAnyH_take (i := 34) (v := (.bool true)) rfl (by kernel_rfl) (by kernel_rfl) (by kernel_rfl) (fun _ _ _ h => h) (.inl ⟨by kernel_rfl, fun w9 hS => (show _ = Result.ok (.value (.bool (fn == fn))) w9 by kernel_rfl).trans (by rw [beq_self_eq_true])⟩) HS4 ?_
        refine wpAnyH_take (i := 35) (v := (.bool true)) rfl (by kernel_rfl) (by kernel_rfl) (by kernel_rfl) (fun _ _ _ h => h) (.inl ⟨by kernel_rfl, fun w9 hS => by kernel_rfl⟩) HS4 ?_
        refine wpAnyH_take (i := 36) (v := (.bool true)) rfl (by kernel_rfl) (by kernel_rfl) (by kernel_rfl) (fun _ _ _ h => h) (.inl ⟨by kernel_rfl, fun w9 hS => by kernel_rfl⟩) HS4 ?_
        refine wpAnyH_take (i := 37) (v := (.agg #[.int .i64 q, .slice a n c])) rfl (by kernel_rfl) (by kernel_rfl) (by kernel_rfl) (fun _ _ _ h => h) (.inl ⟨by kernel_rfl, fun w9 hS => by have c0 := dk0 (Kd12.out.on hS); have c1 := dk1 (Kd12.out.on hS); go_simp⟩) HS4 ?_
        refine wpAnyH_take (i := 39) (v := (.agg #[.int .i64 q, .slice a n c])) rfl (by kernel_rfl) (by kernel_rfl) (by kernel_rfl) (fun _ _ _ h => h) (.inl ⟨by kernel_rfl, fun w9 hS => by have c0 := dk0 (Kd12.out.on hS); have c1 := dk1 (Kd12.out.on hS); go_simp⟩) HS4 ?_
        refine wpAnyH_call (i := 38) (f := 23) (args := #[.agg #[.int .i64 q, .slice a n c]]) (by kernel_rfl) rfl (by kernel_rfl) (by kernel_rfl) (used_any q a n c xs us _ (HD.out.below (Below.trans W12.out (Below.mono HS4 W12.out.size))) HUS.out) ?_
        rintro e wz5 ⟨rfl, hbwz5⟩
        have HS5 : (fun w' => Below (w12).heap.size (w12) w') wz5 := Below.trans HS4 (hbwz5.mono (Below.size HS4))
        refine ⟨_, rfl, HS5, ?_⟩
        refine wpAnyH_call (i := 40) (f := 24) (args := #[.agg #[.int .i64 q, .slice a n c]]) (by kernel_rfl) rfl (by kernel_rfl) (by kernel_rfl) (refUsedD_any q a n c xs us _ (HD.out.below (Below.trans W12.out (Below.mono HS5 W12.out.size))) HSM.out HUS.out) ?_
        rintro e wz6 ⟨rfl, hbwz6⟩
        have HS6 : (fun w' => Below (w12).heap.size (w12) w') wz6 := Below.trans HS5 (hbwz6.mono (Below.size HS5))
        refine ⟨_, rfl, HS6, ?_⟩
        refine wpAnyH_take (i := 41) (v := (.bool true)) rfl (by kernel_rfl) (by kernel_rfl) (by kernel_rfl) (fun _ _ _ h => h) (.inl ⟨by kernel_rfl, fun w9 hS => (show _ = Result.ok (.value (.bool (us == us))) w9 by kernel_rfl).trans (by rw [beq_self_eq_true])⟩) HS6 ?_
        refine wpAnyH_take (i := 42) (v := (.bool true)) rfl (by kernel_rfl) (by kernel_rfl) (by kernel_rfl) (fun _ _ _ h => h) (.inl ⟨by kernel_rfl, fun w9 hS => by kernel_rfl⟩) HS6 ?_
        refine wpAnyH_take (i := 43) (v := (.bool true)) rfl (by kernel_rfl) (by kernel_rfl) (by kernel_rfl) (fun _ _ _ h => h) (.inl ⟨by kernel_rfl, fun w9 hS => by kernel_rfl⟩) HS6 ?_
        refine wpAnyH_done (by kernel_rfl) ?_ _
        simp only [List.getElem_toArray, List.getElem_cons_succ, List.getElem_cons_zero, put_some, List.setIfInBounds_toArray, List.set_cons_succ, List.set_cons_zero]
        clear qd0 qd1 qf0 qf1 qo0 qo1 qo2 qo3 qo4 qx0 qx1 qy0 qy1 qn0 qn1 qr0 qr1
        have W13 := Lib.hid (W12.out.trans (Below.mono HS6 W12.out.size))
        have Kd13 := Lib.hid (Kd12.out.on HS6)
        have Kf13 := Lib.hid (Kf12.out.on HS6)
        have Ko13 := Lib.hid (Ko12.out.on HS6)
        have Kx13 := Lib.hid (Kx12.out.on HS6)
        have Ky13 := Lib.hid (Ky12.out.on HS6)
        have Kn13 := Lib.hid (Kn12.out.on HS6)
        have Kr13 := Lib.hid (Kr12.out.on HS6)
        have HDx13 := Lib.hid (HDx12.out.below HS6)
        have HDy13 := Lib.hid (HDy12.out.below HS6)
        have HDn13 := Lib.hid (HDn12.out.below HS6)
        have HDr13 := Lib.hid (HDr12.out.below HS6)
        go_wp2
        go_ret
        exact ⟨rfl, W13.out⟩
      · have HF := Lib.hid (decide_eq_true hf)
        have HG := Lib.hid (decide_eq_true hg)
        have HZ := Lib.hid (decide_eq_false hz)
        clear hd hc ho hf hg hz hz0 hz1
        go_enter Try.func3, Try.ntmps3
        go_wp2_with fail
        refine (awake_any (obox (dbox (dbox w k a n c) h b m g) ok on oN ad nd cd ap np cp)).mono ?_
        rintro e w1 ⟨rfl, hb1⟩
        have W1 := Lib.hid (HBX.out.trans (hb1.mono HBX.out.size))
        have Kd1 : Hid (Blok w1 (w.heap.size) 24 #[.int .i64 k, .slice a n c]) := Lib.hid ((law3_d w k a n c h b m g ok on oN ad nd cd ap np cp).on hb1)
        have Kf1 : Hid (Blok w1 (w.heap.size + 1) 24 #[.int .i64 h, .slice b m g]) := Lib.hid ((law3_f w k a n c h b m g ok on oN ad nd cd ap np cp).on hb1)
        have Ko1 : Hid (Blok w1 (w.heap.size + 2) 28 #[.int .i64 ok, .int .i64 on, .int .i64 oN, .slice ad nd cd, .slice ap np cp]) := Lib.hid ((law3_o w k a n c h b m g ok on oN ad nd cd ap np cp).on hb1)
        clear hb1
        have qd0 : (w1).cell? ⟨w.heap.size, 0, none⟩ = some (.int .i64 k) := dk0 Kd1.out
        have qd1 : (w1).cell? ⟨w.heap.size, 1, none⟩ = some (.slice a n c) := dk1 Kd1.out
        have qf0 : (w1).cell? ⟨w.heap.size + 1, 0, none⟩ = some (.int .i64 h) := dk0 Kf1.out
        have qf1 : (w1).cell? ⟨w.heap.size + 1, 1, none⟩ = some (.slice b m g) := dk1 Kf1.out
        have qo0 : (w1).cell? ⟨w.heap.size + 2, 0, none⟩ = some (.int .i64 ok) := ok0 Ko1.out
        have qo1 : (w1).cell? ⟨w.heap.size + 2, 1, none⟩ = some (.int .i64 on) := ok1 Ko1.out
        have qo2 : (w1).cell? ⟨w.heap.size + 2, 2, none⟩ = some (.int .i64 oN) := ok2 Ko1.out
        have qo3 : (w1).cell? ⟨w.heap.size + 2, 3, none⟩ = some (.slice ad nd cd) := ok3 Ko1.out
        have qo4 : (w1).cell? ⟨w.heap.size + 2, 4, none⟩ = some (.slice ap np cp) := ok4 Ko1.out
        go_wp2_with fail
        refine (few_any k a n c xs true _ (HD.out.below W1.out) HF.out).mono ?_
        rintro e w2 ⟨rfl, hb2⟩
        clear qd0 qd1 qf0 qf1 qo0 qo1 qo2 qo3 qo4
        have W2 := Lib.hid (W1.out.trans (hb2.mono W1.out.size))
        have Kd2 := Lib.hid (Kd1.out.on hb2)
        have Kf2 := Lib.hid (Kf1.out.on hb2)
        have Ko2 := Lib.hid (Ko1.out.on hb2)
        clear hb2
        have qd0 : (w2).cell? ⟨w.heap.size, 0, none⟩ = some (.int .i64 k) := dk0 Kd2.out
        have qd1 : (w2).cell? ⟨w.heap.size, 1, none⟩ = some (.slice a n c) := dk1 Kd2.out
        have qf0 : (w2).cell? ⟨w.heap.size + 1, 0, none⟩ = some (.int .i64 h) := dk0 Kf2.out
        have qf1 : (w2).cell? ⟨w.heap.size + 1, 1, none⟩ = some (.slice b m g) := dk1 Kf2.out
        have qo0 : (w2).cell? ⟨w.heap.size + 2, 0, none⟩ = some (.int .i64 ok) := ok0 Ko2.out
        have qo1 : (w2).cell? ⟨w.heap.size + 2, 1, none⟩ = some (.int .i64 on) := ok1 Ko2.out
        have qo2 : (w2).cell? ⟨w.heap.size + 2, 2, none⟩ = some (.int .i64 oN) := ok2 Ko2.out
        have qo3 : (w2).cell? ⟨w.heap.size + 2, 3, none⟩ = some (.slice ad nd cd) := ok3 Ko2.out
        have qo4 : (w2).cell? ⟨w.heap.size + 2, 4, none⟩ = some (.slice ap np cp) := ok4 Ko2.out
        go_wp2_with fail
        refine (few_any h b m g ws true _ (HC.out.below W2.out) HG.out).mono ?_
        rintro e w3 ⟨rfl, hb3⟩
        clear qd0 qd1 qf0 qf1 qo0 qo1 qo2 qo3 qo4
        have W3 := Lib.hid (W2.out.trans (hb3.mono W2.out.size))
        have Kd3 := Lib.hid (Kd2.out.on hb3)
        have Kf3 := Lib.hid (Kf2.out.on hb3)
        have Ko3 := Lib.hid (Ko2.out.on hb3)
        clear hb3
        have qd0 : (w3).cell? ⟨w.heap.size, 0, none⟩ = some (.int .i64 k) := dk0 Kd3.out
        have qd1 : (w3).cell? ⟨w.heap.size, 1, none⟩ = some (.slice a n c) := dk1 Kd3.out
        have qf0 : (w3).cell? ⟨w.heap.size + 1, 0, none⟩ = some (.int .i64 h) := dk0 Kf3.out
        have qf1 : (w3).cell? ⟨w.heap.size + 1, 1, none⟩ = some (.slice b m g) := dk1 Kf3.out
        have qo0 : (w3).cell? ⟨w.heap.size + 2, 0, none⟩ = some (.int .i64 ok) := ok0 Ko3.out
        have qo1 : (w3).cell? ⟨w.heap.size + 2, 1, none⟩ = some (.int .i64 on) := ok1 Ko3.out
        have qo2 : (w3).cell? ⟨w.heap.size + 2, 2, none⟩ = some (.int .i64 oN) := ok2 Ko3.out
        have qo3 : (w3).cell? ⟨w.heap.size + 2, 3, none⟩ = some (.slice ad nd cd) := ok3 Ko3.out
        have qo4 : (w3).cell? ⟨w.heap.size + 2, 4, none⟩ = some (.slice ap np cp) := ok4 Ko3.out
        go_wp2_with fail
        refine (smallOp_any ok on oN ad nd cd ap np cp false _ HZ.out).mono ?_
        rintro e w4 ⟨rfl, hb4⟩
        clear qd0 qd1 qf0 qf1 qo0 qo1 qo2 qo3 qo4
        have W4 := Lib.hid (W3.out.trans (hb4.mono W3.out.size))
        have Kd4 := Lib.hid (Kd3.out.on hb4)
        have Kf4 := Lib.hid (Kf3.out.on hb4)
        have Ko4 := Lib.hid (Ko3.out.on hb4)
        clear hb4
        have qd0 : (w4).cell? ⟨w.heap.size, 0, none⟩ = some (.int .i64 k) := dk0 Kd4.out
        have qd1 : (w4).cell? ⟨w.heap.size, 1, none⟩ = some (.slice a n c) := dk1 Kd4.out
        have qf0 : (w4).cell? ⟨w.heap.size + 1, 0, none⟩ = some (.int .i64 h) := dk0 Kf4.out
        have qf1 : (w4).cell? ⟨w.heap.size + 1, 1, none⟩ = some (.slice b m g) := dk1 Kf4.out
        have qo0 : (w4).cell? ⟨w.heap.size + 2, 0, none⟩ = some (.int .i64 ok) := ok0 Ko4.out
        have qo1 : (w4).cell? ⟨w.heap.size + 2, 1, none⟩ = some (.int .i64 on) := ok1 Ko4.out
        have qo2 : (w4).cell? ⟨w.heap.size + 2, 2, none⟩ = some (.int .i64 oN) := ok2 Ko4.out
        have qo3 : (w4).cell? ⟨w.heap.size + 2, 3, none⟩ = some (.slice ad nd cd) := ok3 Ko4.out
        have qo4 : (w4).cell? ⟨w.heap.size + 2, 4, none⟩ = some (.slice ap np cp) := ok4 Ko4.out
        go_wp2
        go_ret
        exact ⟨rfl, W4.out⟩
    · have HF := Lib.hid (decide_eq_true hf)
      have HG := Lib.hid (decide_eq_false hg)
      have HZ := Lib.hid hz0
      clear hd hc ho hf hg hz0 hz1
      go_enter Try.func3, Try.ntmps3
      go_wp2_with fail
      refine (awake_any (obox (dbox (dbox w k a n c) h b m g) ok on oN ad nd cd ap np cp)).mono ?_
      rintro e w1 ⟨rfl, hb1⟩
      have W1 := Lib.hid (HBX.out.trans (hb1.mono HBX.out.size))
      have Kd1 : Hid (Blok w1 (w.heap.size) 24 #[.int .i64 k, .slice a n c]) := Lib.hid ((law3_d w k a n c h b m g ok on oN ad nd cd ap np cp).on hb1)
      have Kf1 : Hid (Blok w1 (w.heap.size + 1) 24 #[.int .i64 h, .slice b m g]) := Lib.hid ((law3_f w k a n c h b m g ok on oN ad nd cd ap np cp).on hb1)
      have Ko1 : Hid (Blok w1 (w.heap.size + 2) 28 #[.int .i64 ok, .int .i64 on, .int .i64 oN, .slice ad nd cd, .slice ap np cp]) := Lib.hid ((law3_o w k a n c h b m g ok on oN ad nd cd ap np cp).on hb1)
      clear hb1
      have qd0 : (w1).cell? ⟨w.heap.size, 0, none⟩ = some (.int .i64 k) := dk0 Kd1.out
      have qd1 : (w1).cell? ⟨w.heap.size, 1, none⟩ = some (.slice a n c) := dk1 Kd1.out
      have qf0 : (w1).cell? ⟨w.heap.size + 1, 0, none⟩ = some (.int .i64 h) := dk0 Kf1.out
      have qf1 : (w1).cell? ⟨w.heap.size + 1, 1, none⟩ = some (.slice b m g) := dk1 Kf1.out
      have qo0 : (w1).cell? ⟨w.heap.size + 2, 0, none⟩ = some (.int .i64 ok) := ok0 Ko1.out
      have qo1 : (w1).cell? ⟨w.heap.size + 2, 1, none⟩ = some (.int .i64 on) := ok1 Ko1.out
      have qo2 : (w1).cell? ⟨w.heap.size + 2, 2, none⟩ = some (.int .i64 oN) := ok2 Ko1.out
      have qo3 : (w1).cell? ⟨w.heap.size + 2, 3, none⟩ = some (.slice ad nd cd) := ok3 Ko1.out
      have qo4 : (w1).cell? ⟨w.heap.size + 2, 4, none⟩ = some (.slice ap np cp) := ok4 Ko1.out
      go_wp2_with fail
      refine (few_any k a n c xs true _ (HD.out.below W1.out) HF.out).mono ?_
      rintro e w2 ⟨rfl, hb2⟩
      clear qd0 qd1 qf0 qf1 qo0 qo1 qo2 qo3 qo4
      have W2 := Lib.hid (W1.out.trans (hb2.mono W1.out.size))
      have Kd2 := Lib.hid (Kd1.out.on hb2)
      have Kf2 := Lib.hid (Kf1.out.on hb2)
      have Ko2 := Lib.hid (Ko1.out.on hb2)
      clear hb2
      have qd0 : (w2).cell? ⟨w.heap.size, 0, none⟩ = some (.int .i64 k) := dk0 Kd2.out
      have qd1 : (w2).cell? ⟨w.heap.size, 1, none⟩ = some (.slice a n c) := dk1 Kd2.out
      have qf0 : (w2).cell? ⟨w.heap.size + 1, 0, none⟩ = some (.int .i64 h) := dk0 Kf2.out
      have qf1 : (w2).cell? ⟨w.heap.size + 1, 1, none⟩ = some (.slice b m g) := dk1 Kf2.out
      have qo0 : (w2).cell? ⟨w.heap.size + 2, 0, none⟩ = some (.int .i64 ok) := ok0 Ko2.out
      have qo1 : (w2).cell? ⟨w.heap.size + 2, 1, none⟩ = some (.int .i64 on) := ok1 Ko2.out
      have qo2 : (w2).cell? ⟨w.heap.size + 2, 2, none⟩ = some (.int .i64 oN) := ok2 Ko2.out
      have qo3 : (w2).cell? ⟨w.heap.size + 2, 3, none⟩ = some (.slice ad nd cd) := ok3 Ko2.out
      have qo4 : (w2).cell? ⟨w.heap.size + 2, 4, none⟩ = some (.slice ap np cp) := ok4 Ko2.out
      go_wp2_with fail
      refine (few_any h b m g ws false _ (HC.out.below W2.out) HG.out).mono ?_
      rintro e w3 ⟨rfl, hb3⟩
      clear qd0 qd1 qf0 qf1 qo0 qo1 qo2 qo3 qo4
      have W3 := Lib.hid (W2.out.trans (hb3.mono W2.out.size))
      have Kd3 := Lib.hid (Kd2.out.on hb3)
      have Kf3 := Lib.hid (Kf2.out.on hb3)
      have Ko3 := Lib.hid (Ko2.out.on hb3)
      clear hb3
      have qd0 : (w3).cell? ⟨w.heap.size, 0, none⟩ = some (.int .i64 k) := dk0 Kd3.out
      have qd1 : (w3).cell? ⟨w.heap.size, 1, none⟩ = some (.slice a n c) := dk1 Kd3.out
      have qf0 : (w3).cell? ⟨w.heap.size + 1, 0, none⟩ = some (.int .i64 h) := dk0 Kf3.out
      have qf1 : (w3).cell? ⟨w.heap.size + 1, 1, none⟩ = some (.slice b m g) := dk1 Kf3.out
      have qo0 : (w3).cell? ⟨w.heap.size + 2, 0, none⟩ = some (.int .i64 ok) := ok0 Ko3.out
      have qo1 : (w3).cell? ⟨w.heap.size + 2, 1, none⟩ = some (.int .i64 on) := ok1 Ko3.out
      have qo2 : (w3).cell? ⟨w.heap.size + 2, 2, none⟩ = some (.int .i64 oN) := ok2 Ko3.out
      have qo3 : (w3).cell? ⟨w.heap.size + 2, 3, none⟩ = some (.slice ad nd cd) := ok3 Ko3.out
      have qo4 : (w3).cell? ⟨w.heap.size + 2, 4, none⟩ = some (.slice ap np cp) := ok4 Ko3.out
      go_wp2_with fail
      refine (smallOp_any ok on oN ad nd cd ap np cp z0 _ HZ.out).mono ?_
      rintro e w4 ⟨rfl, hb4⟩
      clear qd0 qd1 qf0 qf1 qo0 qo1 qo2 qo3 qo4
      have W4 := Lib.hid (W3.out.trans (hb4.mono W3.out.size))
      have Kd4 := Lib.hid (Kd3.out.on hb4)
      have Kf4 := Lib.hid (Kf3.out.on hb4)
      have Ko4 := Lib.hid (Ko3.out.on hb4)
      clear hb4
      have qd0 : (w4).cell? ⟨w.heap.size, 0, none⟩ = some (.int .i64 k) := dk0 Kd4.out
      have qd1 : (w4).cell? ⟨w.heap.size, 1, none⟩ = some (.slice a n c) := dk1 Kd4.out
      have qf0 : (w4).cell? ⟨w.heap.size + 1, 0, none⟩ = some (.int .i64 h) := dk0 Kf4.out
      have qf1 : (w4).cell? ⟨w.heap.size + 1, 1, none⟩ = some (.slice b m g) := dk1 Kf4.out
      have qo0 : (w4).cell? ⟨w.heap.size + 2, 0, none⟩ = some (.int .i64 ok) := ok0 Ko4.out
      have qo1 : (w4).cell? ⟨w.heap.size + 2, 1, none⟩ = some (.int .i64 on) := ok1 Ko4.out
      have qo2 : (w4).cell? ⟨w.heap.size + 2, 2, none⟩ = some (.int .i64 oN) := ok2 Ko4.out
      have qo3 : (w4).cell? ⟨w.heap.size + 2, 3, none⟩ = some (.slice ad nd cd) := ok3 Ko4.out
      have qo4 : (w4).cell? ⟨w.heap.size + 2, 4, none⟩ = some (.slice ap np cp) := ok4 Ko4.out
      go_wp2
      go_ret
      exact ⟨rfl, W4.out⟩
  · have HF := Lib.hid (decide_eq_false hf)
    have HG := Lib.hid hz1
    have HZ := Lib.hid hz0
    clear hd hc ho hf hz0 hz1
    go_enter Try.func3, Try.ntmps3
    go_wp2_with fail
    refine (awake_any (obox (dbox (dbox w k a n c) h b m g) ok on oN ad nd cd ap np cp)).mono ?_
    rintro e w1 ⟨rfl, hb1⟩
    have W1 := Lib.hid (HBX.out.trans (hb1.mono HBX.out.size))
    have Kd1 : Hid (Blok w1 (w.heap.size) 24 #[.int .i64 k, .slice a n c]) := Lib.hid ((law3_d w k a n c h b m g ok on oN ad nd cd ap np cp).on hb1)
    have Kf1 : Hid (Blok w1 (w.heap.size + 1) 24 #[.int .i64 h, .slice b m g]) := Lib.hid ((law3_f w k a n c h b m g ok on oN ad nd cd ap np cp).on hb1)
    have Ko1 : Hid (Blok w1 (w.heap.size + 2) 28 #[.int .i64 ok, .int .i64 on, .int .i64 oN, .slice ad nd cd, .slice ap np cp]) := Lib.hid ((law3_o w k a n c h b m g ok on oN ad nd cd ap np cp).on hb1)
    clear hb1
    have qd0 : (w1).cell? ⟨w.heap.size, 0, none⟩ = some (.int .i64 k) := dk0 Kd1.out
    have qd1 : (w1).cell? ⟨w.heap.size, 1, none⟩ = some (.slice a n c) := dk1 Kd1.out
    have qf0 : (w1).cell? ⟨w.heap.size + 1, 0, none⟩ = some (.int .i64 h) := dk0 Kf1.out
    have qf1 : (w1).cell? ⟨w.heap.size + 1, 1, none⟩ = some (.slice b m g) := dk1 Kf1.out
    have qo0 : (w1).cell? ⟨w.heap.size + 2, 0, none⟩ = some (.int .i64 ok) := ok0 Ko1.out
    have qo1 : (w1).cell? ⟨w.heap.size + 2, 1, none⟩ = some (.int .i64 on) := ok1 Ko1.out
    have qo2 : (w1).cell? ⟨w.heap.size + 2, 2, none⟩ = some (.int .i64 oN) := ok2 Ko1.out
    have qo3 : (w1).cell? ⟨w.heap.size + 2, 3, none⟩ = some (.slice ad nd cd) := ok3 Ko1.out
    have qo4 : (w1).cell? ⟨w.heap.size + 2, 4, none⟩ = some (.slice ap np cp) := ok4 Ko1.out
    go_wp2_with fail
    refine (few_any k a n c xs false _ (HD.out.below W1.out) HF.out).mono ?_
    rintro e w2 ⟨rfl, hb2⟩
    clear qd0 qd1 qf0 qf1 qo0 qo1 qo2 qo3 qo4
    have W2 := Lib.hid (W1.out.trans (hb2.mono W1.out.size))
    have Kd2 := Lib.hid (Kd1.out.on hb2)
    have Kf2 := Lib.hid (Kf1.out.on hb2)
    have Ko2 := Lib.hid (Ko1.out.on hb2)
    clear hb2
    have qd0 : (w2).cell? ⟨w.heap.size, 0, none⟩ = some (.int .i64 k) := dk0 Kd2.out
    have qd1 : (w2).cell? ⟨w.heap.size, 1, none⟩ = some (.slice a n c) := dk1 Kd2.out
    have qf0 : (w2).cell? ⟨w.heap.size + 1, 0, none⟩ = some (.int .i64 h) := dk0 Kf2.out
    have qf1 : (w2).cell? ⟨w.heap.size + 1, 1, none⟩ = some (.slice b m g) := dk1 Kf2.out
    have qo0 : (w2).cell? ⟨w.heap.size + 2, 0, none⟩ = some (.int .i64 ok) := ok0 Ko2.out
    have qo1 : (w2).cell? ⟨w.heap.size + 2, 1, none⟩ = some (.int .i64 on) := ok1 Ko2.out
    have qo2 : (w2).cell? ⟨w.heap.size + 2, 2, none⟩ = some (.int .i64 oN) := ok2 Ko2.out
    have qo3 : (w2).cell? ⟨w.heap.size + 2, 3, none⟩ = some (.slice ad nd cd) := ok3 Ko2.out
    have qo4 : (w2).cell? ⟨w.heap.size + 2, 4, none⟩ = some (.slice ap np cp) := ok4 Ko2.out
    go_wp2_with fail
    refine (few_any h b m g ws z1 _ (HC.out.below W2.out) HG.out).mono ?_
    rintro e w3 ⟨rfl, hb3⟩
    clear qd0 qd1 qf0 qf1 qo0 qo1 qo2 qo3 qo4
    have W3 := Lib.hid (W2.out.trans (hb3.mono W2.out.size))
    have Kd3 := Lib.hid (Kd2.out.on hb3)
    have Kf3 := Lib.hid (Kf2.out.on hb3)
    have Ko3 := Lib.hid (Ko2.out.on hb3)
    clear hb3
    have qd0 : (w3).cell? ⟨w.heap.size, 0, none⟩ = some (.int .i64 k) := dk0 Kd3.out
    have qd1 : (w3).cell? ⟨w.heap.size, 1, none⟩ = some (.slice a n c) := dk1 Kd3.out
    have qf0 : (w3).cell? ⟨w.heap.size + 1, 0, none⟩ = some (.int .i64 h) := dk0 Kf3.out
    have qf1 : (w3).cell? ⟨w.heap.size + 1, 1, none⟩ = some (.slice b m g) := dk1 Kf3.out
    have qo0 : (w3).cell? ⟨w.heap.size + 2, 0, none⟩ = some (.int .i64 ok) := ok0 Ko3.out
    have qo1 : (w3).cell? ⟨w.heap.size + 2, 1, none⟩ = some (.int .i64 on) := ok1 Ko3.out
    have qo2 : (w3).cell? ⟨w.heap.size + 2, 2, none⟩ = some (.int .i64 oN) := ok2 Ko3.out
    have qo3 : (w3).cell? ⟨w.heap.size + 2, 3, none⟩ = some (.slice ad nd cd) := ok3 Ko3.out
    have qo4 : (w3).cell? ⟨w.heap.size + 2, 4, none⟩ = some (.slice ap np cp) := ok4 Ko3.out
    go_wp2_with fail
    refine (smallOp_any ok on oN ad nd cd ap np cp z0 _ HZ.out).mono ?_
    rintro e w4 ⟨rfl, hb4⟩
    clear qd0 qd1 qf0 qf1 qo0 qo1 qo2 qo3 qo4
    have W4 := Lib.hid (W3.out.trans (hb4.mono W3.out.size))
    have Kd4 := Lib.hid (Kd3.out.on hb4)
    have Kf4 := Lib.hid (Kf3.out.on hb4)
    have Ko4 := Lib.hid (Ko3.out.on hb4)
    clear hb4
    have qd0 : (w4).cell? ⟨w.heap.size, 0, none⟩ = some (.int .i64 k) := dk0 Kd4.out
    have qd1 : (w4).cell? ⟨w.heap.size, 1, none⟩ = some (.slice a n c) := dk1 Kd4.out
    have qf0 : (w4).cell? ⟨w.heap.size + 1, 0, none⟩ = some (.int .i64 h) := dk0 Kf4.out
    have qf1 : (w4).cell? ⟨w.heap.size + 1, 1, none⟩ = some (.slice b m g) := dk1 Kf4.out
    have qo0 : (w4).cell? ⟨w.heap.size + 2, 0, none⟩ = some (.int .i64 ok) := ok0 Ko4.out
    have qo1 : (w4).cell? ⟨w.heap.size + 2, 1, none⟩ = some (.int .i64 on) := ok1 Ko4.out
    have qo2 : (w4).cell? ⟨w.heap.size + 2, 2, none⟩ = some (.int .i64 oN) := ok2 Ko4.out
    have qo3 : (w4).cell? ⟨w.heap.size + 2, 3, none⟩ = some (.slice ad nd cd) := ok3 Ko4.out
    have qo4 : (w4).cell? ⟨w.heap.size + 2, 4, none⟩ = some (.slice ap np cp) := ok4 Ko4.out
    go_wp2
    go_ret
    exact ⟨rfl, W4.out⟩
end Go.Proofs.Ytcabhibbajkpkaa
