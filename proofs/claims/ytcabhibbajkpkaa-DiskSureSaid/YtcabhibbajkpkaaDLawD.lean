/-
  Walk of moorings/mooringslaw06.DiskSure: for every input it returns true.
-/
import Derived.Test.YtcabhibbajkpkaaDLawBase
import Derived.Test.YtcabhibbajkpkaaDLaws2
namespace Go.Proofs.Ytcabhibbajkpkaa
open Go.RowKit

set_option maxRecDepth 100000 in
set_option maxHeartbeats 2000000 in
theorem sure_in (k : Int) (a : Option Addr) (n c : Nat) (ok on oN : Int) (ad : Option Addr) (nd cd : Nat) (ap : Option Addr) (np cp : Nat) (no : Int) (xs : List FP) (bd ps : List Int) (w : World) (hd : DiskIn w a n c xs) (ho : OpIn w ad nd cd bd ap np cp ps) :
    Calls Try.prog 5 #[.agg #[.int .i64 k, .slice a n c], .agg #[.int .i64 ok, .int .i64 on, .int .i64 oN, .slice ad nd cd, .slice ap np cp], .int .i64 no] w fun e w' => e = .returned (.bool true) ∧ Below w.heap.size w w' := by
  have HBX : Hid (Below w.heap.size w (obox (dbox w k a n c) ok on oN ad nd cd ap np cp)) := Lib.hid (law2_below w k a n c ok on oN ad nd cd ap np cp)
  have HD := Lib.hid hd
  have HO := Lib.hid ho
  obtain ⟨z0, hz0⟩ : ∃ z, decide (nd ≤ 3000 ∧ np ≤ 60) = z := ⟨_, rfl⟩
  by_cases hf : D.few (FP.files xs)
  · by_cases hz : nd ≤ 3000 ∧ np ≤ 60
    · by_cases hm : D.may (k, FP.files xs)
      · have HF := Lib.hid (decide_eq_true hf)
        have HZ := Lib.hid (decide_eq_true hz)
        have HM := Lib.hid (decide_eq_true hm)
        have HSM := Lib.hid hf.small
        have HNP : Hid (np ≤ 1000) := Lib.hid (by omega)
        obtain ⟨⟨⟨q, l0⟩, e0⟩, hq⟩ : ∃ r, D.op ok on oN bd ps (k, FP.files xs) = r := ⟨_, rfl⟩
        have hqk : q = k := by have h1 := D.op_cap ok on oN bd ps (k, FP.files xs); rw [hq] at h1; exact h1
        subst hqk
        obtain ⟨fk, hfk⟩ : ∃ f, D.find (q, l0) no = f := ⟨_, rfl⟩
        have HQ := Lib.hid hq
        have HFK := Lib.hid hfk
        have hcap := hd.caps
        have hml : maxLen ≤ 9223372036854775807 := by decide
        have HXN : Hid (xs.length = n) := Lib.hid hd.1
        rcases D.find_of (no := no) hm with ⟨i, h1, h2, h3, h4⟩ | ⟨h1, h2⟩
        · by_cases hon : on = no ∧ (ok = 3 ∨ ok = 4)
          · by_cases hk3 : ok = 3
            · have HFN : Hid (D.find (q, FP.files xs) no = (i : Int)) := Lib.hid h2
              have hin : i < n := by have h5 := h3; simp only [FP.files_len] at h5; rw [hd.1] at h5; exact h5
              have hin2 : ¬ n ≤ i := by omega
              have e1 : (on == no) = true := by simpa using hon.1
              have e2 : (ok == 3) = true := by simpa using hk3
              clear hd ho hf hz hz0 hm hq hfk h1 h2 h3 h4 hon hk3
              go_enter Try.func5, Try.ntmps5
              go_wp2_with fail
              refine (awake_any (obox (dbox w q a n c) ok on oN ad nd cd ap np cp)).mono ?_
              rintro e w1 ⟨rfl, hb1⟩
              have W1 := Lib.hid (HBX.out.trans (hb1.mono HBX.out.size))
              have Kd1 : Hid (Blok w1 (w.heap.size) 24 #[.int .i64 q, .slice a n c]) := Lib.hid ((law2_d w q a n c ok on oN ad nd cd ap np cp).on hb1)
              have Ko1 : Hid (Blok w1 (w.heap.size + 1) 28 #[.int .i64 ok, .int .i64 on, .int .i64 oN, .slice ad nd cd, .slice ap np cp]) := Lib.hid ((law2_o w q a n c ok on oN ad nd cd ap np cp).on hb1)
              clear hb1
              have qd0 : (w1).cell? ⟨w.heap.size, 0, none⟩ = some (.int .i64 q) := dk0 Kd1.out
              have qd1 : (w1).cell? ⟨w.heap.size, 1, none⟩ = some (.slice a n c) := dk1 Kd1.out
              have qo0 : (w1).cell? ⟨w.heap.size + 1, 0, none⟩ = some (.int .i64 ok) := ok0 Ko1.out
              have qo1 : (w1).cell? ⟨w.heap.size + 1, 1, none⟩ = some (.int .i64 on) := ok1 Ko1.out
              have qo2 : (w1).cell? ⟨w.heap.size + 1, 2, none⟩ = some (.int .i64 oN) := ok2 Ko1.out
              have qo3 : (w1).cell? ⟨w.heap.size + 1, 3, none⟩ = some (.slice ad nd cd) := ok3 Ko1.out
              have qo4 : (w1).cell? ⟨w.heap.size + 1, 4, none⟩ = some (.slice ap np cp) := ok4 Ko1.out
              go_wp2_with fail
              refine (few_any q a n c xs true _ (HD.out.below W1.out) HF.out).mono ?_
              rintro e w2 ⟨rfl, hb2⟩
              clear qd0 qd1 qo0 qo1 qo2 qo3 qo4
              have W2 := Lib.hid (W1.out.trans (hb2.mono W1.out.size))
              have Kd2 := Lib.hid (Kd1.out.on hb2)
              have Ko2 := Lib.hid (Ko1.out.on hb2)
              clear hb2
              have qd0 : (w2).cell? ⟨w.heap.size, 0, none⟩ = some (.int .i64 q) := dk0 Kd2.out
              have qd1 : (w2).cell? ⟨w.heap.size, 1, none⟩ = some (.slice a n c) := dk1 Kd2.out
              have qo0 : (w2).cell? ⟨w.heap.size + 1, 0, none⟩ = some (.int .i64 ok) := ok0 Ko2.out
              have qo1 : (w2).cell? ⟨w.heap.size + 1, 1, none⟩ = some (.int .i64 on) := ok1 Ko2.out
              have qo2 : (w2).cell? ⟨w.heap.size + 1, 2, none⟩ = some (.int .i64 oN) := ok2 Ko2.out
              have qo3 : (w2).cell? ⟨w.heap.size + 1, 3, none⟩ = some (.slice ad nd cd) := ok3 Ko2.out
              have qo4 : (w2).cell? ⟨w.heap.size + 1, 4, none⟩ = some (.slice ap np cp) := ok4 Ko2.out
              go_wp2_with fail
              refine (smallOp_any ok on oN ad nd cd ap np cp true _ HZ.out).mono ?_
              rintro e w3 ⟨rfl, hb3⟩
              clear qd0 qd1 qo0 qo1 qo2 qo3 qo4
              have W3 := Lib.hid (W2.out.trans (hb3.mono W2.out.size))
              have Kd3 := Lib.hid (Kd2.out.on hb3)
              have Ko3 := Lib.hid (Ko2.out.on hb3)
              clear hb3
              have qd0 : (w3).cell? ⟨w.heap.size, 0, none⟩ = some (.int .i64 q) := dk0 Kd3.out
              have qd1 : (w3).cell? ⟨w.heap.size, 1, none⟩ = some (.slice a n c) := dk1 Kd3.out
              have qo0 : (w3).cell? ⟨w.heap.size + 1, 0, none⟩ = some (.int .i64 ok) := ok0 Ko3.out
              have qo1 : (w3).cell? ⟨w.heap.size + 1, 1, none⟩ = some (.int .i64 on) := ok1 Ko3.out
              have qo2 : (w3).cell? ⟨w.heap.size + 1, 2, none⟩ = some (.int .i64 oN) := ok2 Ko3.out
              have qo3 : (w3).cell? ⟨w.heap.size + 1, 3, none⟩ = some (.slice ad nd cd) := ok3 Ko3.out
              have qo4 : (w3).cell? ⟨w.heap.size + 1, 4, none⟩ = some (.slice ap np cp) := ok4 Ko3.out
              go_wp2_with fail
              refine (may_any q a n c xs true _ (HD.out.below W3.out) HM.out).mono ?_
              rintro e w4 ⟨rfl, hb4⟩
              clear qd0 qd1 qo0 qo1 qo2 qo3 qo4
              have W4 := Lib.hid (W3.out.trans (hb4.mono W3.out.size))
              have Kd4 := Lib.hid (Kd3.out.on hb4)
              have Ko4 := Lib.hid (Ko3.out.on hb4)
              clear hb4
              have qd0 : (w4).cell? ⟨w.heap.size, 0, none⟩ = some (.int .i64 q) := dk0 Kd4.out
              have qd1 : (w4).cell? ⟨w.heap.size, 1, none⟩ = some (.slice a n c) := dk1 Kd4.out
              have qo0 : (w4).cell? ⟨w.heap.size + 1, 0, none⟩ = some (.int .i64 ok) := ok0 Ko4.out
              have qo1 : (w4).cell? ⟨w.heap.size + 1, 1, none⟩ = some (.int .i64 on) := ok1 Ko4.out
              have qo2 : (w4).cell? ⟨w.heap.size + 1, 2, none⟩ = some (.int .i64 oN) := ok2 Ko4.out
              have qo3 : (w4).cell? ⟨w.heap.size + 1, 3, none⟩ = some (.slice ad nd cd) := ok3 Ko4.out
              have qo4 : (w4).cell? ⟨w.heap.size + 1, 4, none⟩ = some (.slice ap np cp) := ok4 Ko4.out
              go_wp2_with fail
              refine (find_any q a n c no xs (i : Int) _ (HD.out.below W4.out) HFN.out).mono ?_
              rintro e w5 ⟨rfl, hb5⟩
              clear qd0 qd1 qo0 qo1 qo2 qo3 qo4
              have W5 := Lib.hid (W4.out.trans (hb5.mono W4.out.size))
              have Kd5 := Lib.hid (Kd4.out.on hb5)
              have Ko5 := Lib.hid (Ko4.out.on hb5)
              clear hb5
              have qd0 : (w5).cell? ⟨w.heap.size, 0, none⟩ = some (.int .i64 q) := dk0 Kd5.out
              have qd1 : (w5).cell? ⟨w.heap.size, 1, none⟩ = some (.slice a n c) := dk1 Kd5.out
              have qo0 : (w5).cell? ⟨w.heap.size + 1, 0, none⟩ = some (.int .i64 ok) := ok0 Ko5.out
              have qo1 : (w5).cell? ⟨w.heap.size + 1, 1, none⟩ = some (.int .i64 on) := ok1 Ko5.out
              have qo2 : (w5).cell? ⟨w.heap.size + 1, 2, none⟩ = some (.int .i64 oN) := ok2 Ko5.out
              have qo3 : (w5).cell? ⟨w.heap.size + 1, 3, none⟩ = some (.slice ad nd cd) := ok3 Ko5.out
              have qo4 : (w5).cell? ⟨w.heap.size + 1, 4, none⟩ = some (.slice ap np cp) := ok4 Ko5.out
              go_wp2_with fail
              refine (do_any q a n c ok on oN ad nd cd ap np cp xs bd ps _ (HD.out.below W5.out) HSM.out (HO.out.below W5.out) HNP.out).mono ?_
              rw [HQ.out]
              rintro e w6 ⟨a6, n6, c6, ys, rfl, HE6, HY, _, hb6⟩
              clear qd0 qd1 qo0 qo1 qo2 qo3 qo4
              have hx6 := dbox_below w6 q a6 n6 c6
              have W6 := Lib.hid ((W5.out.trans (hb6.mono W5.out.size)).trans (hx6.mono (W5.out.trans (hb6.mono W5.out.size)).size))
              have Pd6 := Kd5.out.on hb6
              have Po6 := Ko5.out.on hb6
              have Kd6 := Lib.hid (Pd6.on hx6)
              have Ko6 := Lib.hid (Po6.on hx6)
              have HDx6 := Lib.hid (HE6.out.below hx6)
              have Kx6 := Lib.hid (dbox_blok w6 q a6 n6 c6)
              have qd0 : ∀ o, (w6.alloc o).cell? ⟨w.heap.size, 0, none⟩ = some (.int .i64 q) := fun o => dk0 (Pd6.alloc o)
              have qd1 : ∀ o, (w6.alloc o).cell? ⟨w.heap.size, 1, none⟩ = some (.slice a n c) := fun o => dk1 (Pd6.alloc o)
              have qo0 : ∀ o, (w6.alloc o).cell? ⟨w.heap.size + 1, 0, none⟩ = some (.int .i64 ok) := fun o => ok0 (Po6.alloc o)
              have qo1 : ∀ o, (w6.alloc o).cell? ⟨w.heap.size + 1, 1, none⟩ = some (.int .i64 on) := fun o => ok1 (Po6.alloc o)
              have qo2 : ∀ o, (w6.alloc o).cell? ⟨w.heap.size + 1, 2, none⟩ = some (.int .i64 oN) := fun o => ok2 (Po6.alloc o)
              have qo3 : ∀ o, (w6.alloc o).cell? ⟨w.heap.size + 1, 3, none⟩ = some (.slice ad nd cd) := fun o => ok3 (Po6.alloc o)
              have qo4 : ∀ o, (w6.alloc o).cell? ⟨w.heap.size + 1, 4, none⟩ = some (.slice ap np cp) := fun o => ok4 (Po6.alloc o)
              clear hb6 hx6 Pd6 Po6
              go_wp2_with fail
              refine (find_any q a6 n6 c6 no ys fk _ HDx6.out (by rw [HY.out]; exact HFK.out)).mono ?_
              rintro e w7 ⟨rfl, hb7⟩
              clear qd0 qd1 qo0 qo1 qo2 qo3 qo4
              have W7 := Lib.hid (W6.out.trans (hb7.mono W6.out.size))
              have Kd7 := Lib.hid (Kd6.out.on hb7)
              have Ko7 := Lib.hid (Ko6.out.on hb7)
              have Kx7 := Lib.hid (Kx6.out.on hb7)
              have HDx7 := Lib.hid (HDx6.out.below hb7)
              clear hb7
              have qd0 : (w7).cell? ⟨w.heap.size, 0, none⟩ = some (.int .i64 q) := dk0 Kd7.out
              have qd1 : (w7).cell? ⟨w.heap.size, 1, none⟩ = some (.slice a n c) := dk1 Kd7.out
              have qo0 : (w7).cell? ⟨w.heap.size + 1, 0, none⟩ = some (.int .i64 ok) := ok0 Ko7.out
              have qo1 : (w7).cell? ⟨w.heap.size + 1, 1, none⟩ = some (.int .i64 on) := ok1 Ko7.out
              have qo2 : (w7).cell? ⟨w.heap.size + 1, 2, none⟩ = some (.int .i64 oN) := ok2 Ko7.out
              have qo3 : (w7).cell? ⟨w.heap.size + 1, 3, none⟩ = some (.slice ad nd cd) := ok3 Ko7.out
              have qo4 : (w7).cell? ⟨w.heap.size + 1, 4, none⟩ = some (.slice ap np cp) := ok4 Ko7.out
              have qx0 : (w7).cell? ⟨w6.heap.size, 0, none⟩ = some (.int .i64 q) := dk0 Kx7.out
              have qx1 : (w7).cell? ⟨w6.heap.size, 1, none⟩ = some (.slice a6 n6 c6) := dk1 Kx7.out
              go_wp2
              go_ret
              exact ⟨rfl, W7.out⟩
            · have HFN : Hid (D.find (q, FP.files xs) no = (i : Int)) := Lib.hid h2
              have hin : i < n := by have h5 := h3; simp only [FP.files_len] at h5; rw [hd.1] at h5; exact h5
              have hin2 : ¬ n ≤ i := by omega
              have e1 : (on == no) = true := by simpa using hon.1
              have e2 : (ok == 3) = false := by simpa using hk3
              have e3 : (ok == 4) = true := by simpa using hon.2.resolve_left hk3
              clear hd ho hf hz hz0 hm hq hfk h1 h2 h3 h4 hon hk3
              go_enter Try.func5, Try.ntmps5
              go_wp2_with fail
              refine (awake_any (obox (dbox w q a n c) ok on oN ad nd cd ap np cp)).mono ?_
              rintro e w1 ⟨rfl, hb1⟩
              have W1 := Lib.hid (HBX.out.trans (hb1.mono HBX.out.size))
              have Kd1 : Hid (Blok w1 (w.heap.size) 24 #[.int .i64 q, .slice a n c]) := Lib.hid ((law2_d w q a n c ok on oN ad nd cd ap np cp).on hb1)
              have Ko1 : Hid (Blok w1 (w.heap.size + 1) 28 #[.int .i64 ok, .int .i64 on, .int .i64 oN, .slice ad nd cd, .slice ap np cp]) := Lib.hid ((law2_o w q a n c ok on oN ad nd cd ap np cp).on hb1)
              clear hb1
              have qd0 : (w1).cell? ⟨w.heap.size, 0, none⟩ = some (.int .i64 q) := dk0 Kd1.out
              have qd1 : (w1).cell? ⟨w.heap.size, 1, none⟩ = some (.slice a n c) := dk1 Kd1.out
              have qo0 : (w1).cell? ⟨w.heap.size + 1, 0, none⟩ = some (.int .i64 ok) := ok0 Ko1.out
              have qo1 : (w1).cell? ⟨w.heap.size + 1, 1, none⟩ = some (.int .i64 on) := ok1 Ko1.out
              have qo2 : (w1).cell? ⟨w.heap.size + 1, 2, none⟩ = some (.int .i64 oN) := ok2 Ko1.out
              have qo3 : (w1).cell? ⟨w.heap.size + 1, 3, none⟩ = some (.slice ad nd cd) := ok3 Ko1.out
              have qo4 : (w1).cell? ⟨w.heap.size + 1, 4, none⟩ = some (.slice ap np cp) := ok4 Ko1.out
              go_wp2_with fail
              refine (few_any q a n c xs true _ (HD.out.below W1.out) HF.out).mono ?_
              rintro e w2 ⟨rfl, hb2⟩
              clear qd0 qd1 qo0 qo1 qo2 qo3 qo4
              have W2 := Lib.hid (W1.out.trans (hb2.mono W1.out.size))
              have Kd2 := Lib.hid (Kd1.out.on hb2)
              have Ko2 := Lib.hid (Ko1.out.on hb2)
              clear hb2
              have qd0 : (w2).cell? ⟨w.heap.size, 0, none⟩ = some (.int .i64 q) := dk0 Kd2.out
              have qd1 : (w2).cell? ⟨w.heap.size, 1, none⟩ = some (.slice a n c) := dk1 Kd2.out
              have qo0 : (w2).cell? ⟨w.heap.size + 1, 0, none⟩ = some (.int .i64 ok) := ok0 Ko2.out
              have qo1 : (w2).cell? ⟨w.heap.size + 1, 1, none⟩ = some (.int .i64 on) := ok1 Ko2.out
              have qo2 : (w2).cell? ⟨w.heap.size + 1, 2, none⟩ = some (.int .i64 oN) := ok2 Ko2.out
              have qo3 : (w2).cell? ⟨w.heap.size + 1, 3, none⟩ = some (.slice ad nd cd) := ok3 Ko2.out
              have qo4 : (w2).cell? ⟨w.heap.size + 1, 4, none⟩ = some (.slice ap np cp) := ok4 Ko2.out
              go_wp2_with fail
              refine (smallOp_any ok on oN ad nd cd ap np cp true _ HZ.out).mono ?_
              rintro e w3 ⟨rfl, hb3⟩
              clear qd0 qd1 qo0 qo1 qo2 qo3 qo4
              have W3 := Lib.hid (W2.out.trans (hb3.mono W2.out.size))
              have Kd3 := Lib.hid (Kd2.out.on hb3)
              have Ko3 := Lib.hid (Ko2.out.on hb3)
              clear hb3
              have qd0 : (w3).cell? ⟨w.heap.size, 0, none⟩ = some (.int .i64 q) := dk0 Kd3.out
              have qd1 : (w3).cell? ⟨w.heap.size, 1, none⟩ = some (.slice a n c) := dk1 Kd3.out
              have qo0 : (w3).cell? ⟨w.heap.size + 1, 0, none⟩ = some (.int .i64 ok) := ok0 Ko3.out
              have qo1 : (w3).cell? ⟨w.heap.size + 1, 1, none⟩ = some (.int .i64 on) := ok1 Ko3.out
              have qo2 : (w3).cell? ⟨w.heap.size + 1, 2, none⟩ = some (.int .i64 oN) := ok2 Ko3.out
              have qo3 : (w3).cell? ⟨w.heap.size + 1, 3, none⟩ = some (.slice ad nd cd) := ok3 Ko3.out
              have qo4 : (w3).cell? ⟨w.heap.size + 1, 4, none⟩ = some (.slice ap np cp) := ok4 Ko3.out
              go_wp2_with fail
              refine (may_any q a n c xs true _ (HD.out.below W3.out) HM.out).mono ?_
              rintro e w4 ⟨rfl, hb4⟩
              clear qd0 qd1 qo0 qo1 qo2 qo3 qo4
              have W4 := Lib.hid (W3.out.trans (hb4.mono W3.out.size))
              have Kd4 := Lib.hid (Kd3.out.on hb4)
              have Ko4 := Lib.hid (Ko3.out.on hb4)
              clear hb4
              have qd0 : (w4).cell? ⟨w.heap.size, 0, none⟩ = some (.int .i64 q) := dk0 Kd4.out
              have qd1 : (w4).cell? ⟨w.heap.size, 1, none⟩ = some (.slice a n c) := dk1 Kd4.out
              have qo0 : (w4).cell? ⟨w.heap.size + 1, 0, none⟩ = some (.int .i64 ok) := ok0 Ko4.out
              have qo1 : (w4).cell? ⟨w.heap.size + 1, 1, none⟩ = some (.int .i64 on) := ok1 Ko4.out
              have qo2 : (w4).cell? ⟨w.heap.size + 1, 2, none⟩ = some (.int .i64 oN) := ok2 Ko4.out
              have qo3 : (w4).cell? ⟨w.heap.size + 1, 3, none⟩ = some (.slice ad nd cd) := ok3 Ko4.out
              have qo4 : (w4).cell? ⟨w.heap.size + 1, 4, none⟩ = some (.slice ap np cp) := ok4 Ko4.out
              go_wp2_with fail
              refine (find_any q a n c no xs (i : Int) _ (HD.out.below W4.out) HFN.out).mono ?_
              rintro e w5 ⟨rfl, hb5⟩
              clear qd0 qd1 qo0 qo1 qo2 qo3 qo4
              have W5 := Lib.hid (W4.out.trans (hb5.mono W4.out.size))
              have Kd5 := Lib.hid (Kd4.out.on hb5)
              have Ko5 := Lib.hid (Ko4.out.on hb5)
              clear hb5
              have qd0 : (w5).cell? ⟨w.heap.size, 0, none⟩ = some (.int .i64 q) := dk0 Kd5.out
              have qd1 : (w5).cell? ⟨w.heap.size, 1, none⟩ = some (.slice a n c) := dk1 Kd5.out
              have qo0 : (w5).cell? ⟨w.heap.size + 1, 0, none⟩ = some (.int .i64 ok) := ok0 Ko5.out
              have qo1 : (w5).cell? ⟨w.heap.size + 1, 1, none⟩ = some (.int .i64 on) := ok1 Ko5.out
              have qo2 : (w5).cell? ⟨w.heap.size + 1, 2, none⟩ = some (.int .i64 oN) := ok2 Ko5.out
              have qo3 : (w5).cell? ⟨w.heap.size + 1, 3, none⟩ = some (.slice ad nd cd) := ok3 Ko5.out
              have qo4 : (w5).cell? ⟨w.heap.size + 1, 4, none⟩ = some (.slice ap np cp) := ok4 Ko5.out
              go_wp2_with fail
              refine (do_any q a n c ok on oN ad nd cd ap np cp xs bd ps _ (HD.out.below W5.out) HSM.out (HO.out.below W5.out) HNP.out).mono ?_
              rw [HQ.out]
              rintro e w6 ⟨a6, n6, c6, ys, rfl, HE6, HY, _, hb6⟩
              clear qd0 qd1 qo0 qo1 qo2 qo3 qo4
              have hx6 := dbox_below w6 q a6 n6 c6
              have W6 := Lib.hid ((W5.out.trans (hb6.mono W5.out.size)).trans (hx6.mono (W5.out.trans (hb6.mono W5.out.size)).size))
              have Pd6 := Kd5.out.on hb6
              have Po6 := Ko5.out.on hb6
              have Kd6 := Lib.hid (Pd6.on hx6)
              have Ko6 := Lib.hid (Po6.on hx6)
              have HDx6 := Lib.hid (HE6.out.below hx6)
              have Kx6 := Lib.hid (dbox_blok w6 q a6 n6 c6)
              have qd0 : ∀ o, (w6.alloc o).cell? ⟨w.heap.size, 0, none⟩ = some (.int .i64 q) := fun o => dk0 (Pd6.alloc o)
              have qd1 : ∀ o, (w6.alloc o).cell? ⟨w.heap.size, 1, none⟩ = some (.slice a n c) := fun o => dk1 (Pd6.alloc o)
              have qo0 : ∀ o, (w6.alloc o).cell? ⟨w.heap.size + 1, 0, none⟩ = some (.int .i64 ok) := fun o => ok0 (Po6.alloc o)
              have qo1 : ∀ o, (w6.alloc o).cell? ⟨w.heap.size + 1, 1, none⟩ = some (.int .i64 on) := fun o => ok1 (Po6.alloc o)
              have qo2 : ∀ o, (w6.alloc o).cell? ⟨w.heap.size + 1, 2, none⟩ = some (.int .i64 oN) := fun o => ok2 (Po6.alloc o)
              have qo3 : ∀ o, (w6.alloc o).cell? ⟨w.heap.size + 1, 3, none⟩ = some (.slice ad nd cd) := fun o => ok3 (Po6.alloc o)
              have qo4 : ∀ o, (w6.alloc o).cell? ⟨w.heap.size + 1, 4, none⟩ = some (.slice ap np cp) := fun o => ok4 (Po6.alloc o)
              clear hb6 hx6 Pd6 Po6
              go_wp2_with fail
              refine (find_any q a6 n6 c6 no ys fk _ HDx6.out (by rw [HY.out]; exact HFK.out)).mono ?_
              rintro e w7 ⟨rfl, hb7⟩
              clear qd0 qd1 qo0 qo1 qo2 qo3 qo4
              have W7 := Lib.hid (W6.out.trans (hb7.mono W6.out.size))
              have Kd7 := Lib.hid (Kd6.out.on hb7)
              have Ko7 := Lib.hid (Ko6.out.on hb7)
              have Kx7 := Lib.hid (Kx6.out.on hb7)
              have HDx7 := Lib.hid (HDx6.out.below hb7)
              clear hb7
              have qd0 : (w7).cell? ⟨w.heap.size, 0, none⟩ = some (.int .i64 q) := dk0 Kd7.out
              have qd1 : (w7).cell? ⟨w.heap.size, 1, none⟩ = some (.slice a n c) := dk1 Kd7.out
              have qo0 : (w7).cell? ⟨w.heap.size + 1, 0, none⟩ = some (.int .i64 ok) := ok0 Ko7.out
              have qo1 : (w7).cell? ⟨w.heap.size + 1, 1, none⟩ = some (.int .i64 on) := ok1 Ko7.out
              have qo2 : (w7).cell? ⟨w.heap.size + 1, 2, none⟩ = some (.int .i64 oN) := ok2 Ko7.out
              have qo3 : (w7).cell? ⟨w.heap.size + 1, 3, none⟩ = some (.slice ad nd cd) := ok3 Ko7.out
              have qo4 : (w7).cell? ⟨w.heap.size + 1, 4, none⟩ = some (.slice ap np cp) := ok4 Ko7.out
              have qx0 : (w7).cell? ⟨w6.heap.size, 0, none⟩ = some (.int .i64 q) := dk0 Kx7.out
              have qx1 : (w7).cell? ⟨w6.heap.size, 1, none⟩ = some (.slice a6 n6 c6) := dk1 Kx7.out
              go_wp2
              go_ret
              exact ⟨rfl, W7.out⟩
          · by_cases hno : on = no
            · have HFN : Hid (D.find (q, FP.files xs) no = (i : Int)) := Lib.hid h2
              have hin : i < n := by have h5 := h3; simp only [FP.files_len] at h5; rw [hd.1] at h5; exact h5
              have hin2 : ¬ n ≤ i := by omega
              have hS := D.op_sure ok on oN bd ps hm h1 hon
              rw [hq] at hS
              obtain ⟨j, hj1, hj2, hK⟩ := hS
              rw [hfk] at hj1
              have hff : D.fine ((FP.files xs).getD i D.nof) := by rw [D.getD_lt h3]; exact hm.2.1 _ (List.getElem_mem h3)
              have HK := Lib.hid hK
              have HFF := Lib.hid hff
              have HJ2 := Lib.hid hj2
              have e1 : (on == no) = true := by simpa using hno
              have e2 : (ok == 3) = false := by simpa using fun h : ok = 3 => hon ⟨hno, .inl h⟩
              have e3 : (ok == 4) = false := by simpa using fun h : ok = 4 => hon ⟨hno, .inr h⟩
              clear hd ho hf hz hz0 hm hq hfk h1 h2 h3 h4 hon hj2 hK hff hno
              subst hj1
              go_enter Try.func5, Try.ntmps5
              go_wp2_with fail
              refine (awake_any (obox (dbox w q a n c) ok on oN ad nd cd ap np cp)).mono ?_
              rintro e w1 ⟨rfl, hb1⟩
              have W1 := Lib.hid (HBX.out.trans (hb1.mono HBX.out.size))
              have Kd1 : Hid (Blok w1 (w.heap.size) 24 #[.int .i64 q, .slice a n c]) := Lib.hid ((law2_d w q a n c ok on oN ad nd cd ap np cp).on hb1)
              have Ko1 : Hid (Blok w1 (w.heap.size + 1) 28 #[.int .i64 ok, .int .i64 on, .int .i64 oN, .slice ad nd cd, .slice ap np cp]) := Lib.hid ((law2_o w q a n c ok on oN ad nd cd ap np cp).on hb1)
              clear hb1
              have qd0 : (w1).cell? ⟨w.heap.size, 0, none⟩ = some (.int .i64 q) := dk0 Kd1.out
              have qd1 : (w1).cell? ⟨w.heap.size, 1, none⟩ = some (.slice a n c) := dk1 Kd1.out
              have qo0 : (w1).cell? ⟨w.heap.size + 1, 0, none⟩ = some (.int .i64 ok) := ok0 Ko1.out
              have qo1 : (w1).cell? ⟨w.heap.size + 1, 1, none⟩ = some (.int .i64 on) := ok1 Ko1.out
              have qo2 : (w1).cell? ⟨w.heap.size + 1, 2, none⟩ = some (.int .i64 oN) := ok2 Ko1.out
              have qo3 : (w1).cell? ⟨w.heap.size + 1, 3, none⟩ = some (.slice ad nd cd) := ok3 Ko1.out
              have qo4 : (w1).cell? ⟨w.heap.size + 1, 4, none⟩ = some (.slice ap np cp) := ok4 Ko1.out
              go_wp2_with fail
              refine (few_any q a n c xs true _ (HD.out.below W1.out) HF.out).mono ?_
              rintro e w2 ⟨rfl, hb2⟩
              clear qd0 qd1 qo0 qo1 qo2 qo3 qo4
              have W2 := Lib.hid (W1.out.trans (hb2.mono W1.out.size))
              have Kd2 := Lib.hid (Kd1.out.on hb2)
              have Ko2 := Lib.hid (Ko1.out.on hb2)
              clear hb2
              have qd0 : (w2).cell? ⟨w.heap.size, 0, none⟩ = some (.int .i64 q) := dk0 Kd2.out
              have qd1 : (w2).cell? ⟨w.heap.size, 1, none⟩ = some (.slice a n c) := dk1 Kd2.out
              have qo0 : (w2).cell? ⟨w.heap.size + 1, 0, none⟩ = some (.int .i64 ok) := ok0 Ko2.out
              have qo1 : (w2).cell? ⟨w.heap.size + 1, 1, none⟩ = some (.int .i64 on) := ok1 Ko2.out
              have qo2 : (w2).cell? ⟨w.heap.size + 1, 2, none⟩ = some (.int .i64 oN) := ok2 Ko2.out
              have qo3 : (w2).cell? ⟨w.heap.size + 1, 3, none⟩ = some (.slice ad nd cd) := ok3 Ko2.out
              have qo4 : (w2).cell? ⟨w.heap.size + 1, 4, none⟩ = some (.slice ap np cp) := ok4 Ko2.out
              go_wp2_with fail
              refine (smallOp_any ok on oN ad nd cd ap np cp true _ HZ.out).mono ?_
              rintro e w3 ⟨rfl, hb3⟩
              clear qd0 qd1 qo0 qo1 qo2 qo3 qo4
              have W3 := Lib.hid (W2.out.trans (hb3.mono W2.out.size))
              have Kd3 := Lib.hid (Kd2.out.on hb3)
              have Ko3 := Lib.hid (Ko2.out.on hb3)
              clear hb3
              have qd0 : (w3).cell? ⟨w.heap.size, 0, none⟩ = some (.int .i64 q) := dk0 Kd3.out
              have qd1 : (w3).cell? ⟨w.heap.size, 1, none⟩ = some (.slice a n c) := dk1 Kd3.out
              have qo0 : (w3).cell? ⟨w.heap.size + 1, 0, none⟩ = some (.int .i64 ok) := ok0 Ko3.out
              have qo1 : (w3).cell? ⟨w.heap.size + 1, 1, none⟩ = some (.int .i64 on) := ok1 Ko3.out
              have qo2 : (w3).cell? ⟨w.heap.size + 1, 2, none⟩ = some (.int .i64 oN) := ok2 Ko3.out
              have qo3 : (w3).cell? ⟨w.heap.size + 1, 3, none⟩ = some (.slice ad nd cd) := ok3 Ko3.out
              have qo4 : (w3).cell? ⟨w.heap.size + 1, 4, none⟩ = some (.slice ap np cp) := ok4 Ko3.out
              go_wp2_with fail
              refine (may_any q a n c xs true _ (HD.out.below W3.out) HM.out).mono ?_
              rintro e w4 ⟨rfl, hb4⟩
              clear qd0 qd1 qo0 qo1 qo2 qo3 qo4
              have W4 := Lib.hid (W3.out.trans (hb4.mono W3.out.size))
              have Kd4 := Lib.hid (Kd3.out.on hb4)
              have Ko4 := Lib.hid (Ko3.out.on hb4)
              clear hb4
              have qd0 : (w4).cell? ⟨w.heap.size, 0, none⟩ = some (.int .i64 q) := dk0 Kd4.out
              have qd1 : (w4).cell? ⟨w.heap.size, 1, none⟩ = some (.slice a n c) := dk1 Kd4.out
              have qo0 : (w4).cell? ⟨w.heap.size + 1, 0, none⟩ = some (.int .i64 ok) := ok0 Ko4.out
              have qo1 : (w4).cell? ⟨w.heap.size + 1, 1, none⟩ = some (.int .i64 on) := ok1 Ko4.out
              have qo2 : (w4).cell? ⟨w.heap.size + 1, 2, none⟩ = some (.int .i64 oN) := ok2 Ko4.out
              have qo3 : (w4).cell? ⟨w.heap.size + 1, 3, none⟩ = some (.slice ad nd cd) := ok3 Ko4.out
              have qo4 : (w4).cell? ⟨w.heap.size + 1, 4, none⟩ = some (.slice ap np cp) := ok4 Ko4.out
              go_wp2_with fail
              refine (find_any q a n c no xs (i : Int) _ (HD.out.below W4.out) HFN.out).mono ?_
              rintro e w5 ⟨rfl, hb5⟩
              clear qd0 qd1 qo0 qo1 qo2 qo3 qo4
              have W5 := Lib.hid (W4.out.trans (hb5.mono W4.out.size))
              have Kd5 := Lib.hid (Kd4.out.on hb5)
              have Ko5 := Lib.hid (Ko4.out.on hb5)
              clear hb5
              have qd0 : (w5).cell? ⟨w.heap.size, 0, none⟩ = some (.int .i64 q) := dk0 Kd5.out
              have qd1 : (w5).cell? ⟨w.heap.size, 1, none⟩ = some (.slice a n c) := dk1 Kd5.out
              have qo0 : (w5).cell? ⟨w.heap.size + 1, 0, none⟩ = some (.int .i64 ok) := ok0 Ko5.out
              have qo1 : (w5).cell? ⟨w.heap.size + 1, 1, none⟩ = some (.int .i64 on) := ok1 Ko5.out
              have qo2 : (w5).cell? ⟨w.heap.size + 1, 2, none⟩ = some (.int .i64 oN) := ok2 Ko5.out
              have qo3 : (w5).cell? ⟨w.heap.size + 1, 3, none⟩ = some (.slice ad nd cd) := ok3 Ko5.out
              have qo4 : (w5).cell? ⟨w.heap.size + 1, 4, none⟩ = some (.slice ap np cp) := ok4 Ko5.out
              go_wp2_with fail
              refine (do_any q a n c ok on oN ad nd cd ap np cp xs bd ps _ (HD.out.below W5.out) HSM.out (HO.out.below W5.out) HNP.out).mono ?_
              rw [HQ.out]
              rintro e w6 ⟨a6, n6, c6, ys, rfl, HE6, HY, _, hb6⟩
              clear qd0 qd1 qo0 qo1 qo2 qo3 qo4
              have hx6 := dbox_below w6 q a6 n6 c6
              have W6 := Lib.hid ((W5.out.trans (hb6.mono W5.out.size)).trans (hx6.mono (W5.out.trans (hb6.mono W5.out.size)).size))
              have Pd6 := Kd5.out.on hb6
              have Po6 := Ko5.out.on hb6
              have Kd6 := Lib.hid (Pd6.on hx6)
              have Ko6 := Lib.hid (Po6.on hx6)
              have HDx6 := Lib.hid (HE6.out.below hx6)
              have Kx6 := Lib.hid (dbox_blok w6 q a6 n6 c6)
              have qd0 : ∀ o, (w6.alloc o).cell? ⟨w.heap.size, 0, none⟩ = some (.int .i64 q) := fun o => dk0 (Pd6.alloc o)
              have qd1 : ∀ o, (w6.alloc o).cell? ⟨w.heap.size, 1, none⟩ = some (.slice a n c) := fun o => dk1 (Pd6.alloc o)
              have qo0 : ∀ o, (w6.alloc o).cell? ⟨w.heap.size + 1, 0, none⟩ = some (.int .i64 ok) := fun o => ok0 (Po6.alloc o)
              have qo1 : ∀ o, (w6.alloc o).cell? ⟨w.heap.size + 1, 1, none⟩ = some (.int .i64 on) := fun o => ok1 (Po6.alloc o)
              have qo2 : ∀ o, (w6.alloc o).cell? ⟨w.heap.size + 1, 2, none⟩ = some (.int .i64 oN) := fun o => ok2 (Po6.alloc o)
              have qo3 : ∀ o, (w6.alloc o).cell? ⟨w.heap.size + 1, 3, none⟩ = some (.slice ad nd cd) := fun o => ok3 (Po6.alloc o)
              have qo4 : ∀ o, (w6.alloc o).cell? ⟨w.heap.size + 1, 4, none⟩ = some (.slice ap np cp) := fun o => ok4 (Po6.alloc o)
              clear hb6 hx6 Pd6 Po6
              go_wp2_with fail
              refine (find_any q a6 n6 c6 no ys (j : Int) _ HDx6.out (by rw [HY.out]; exact HFK.out)).mono ?_
              rintro e w7 ⟨rfl, hb7⟩
              clear qd0 qd1 qo0 qo1 qo2 qo3 qo4
              have W7 := Lib.hid (W6.out.trans (hb7.mono W6.out.size))
              have Kd7 := Lib.hid (Kd6.out.on hb7)
              have Ko7 := Lib.hid (Ko6.out.on hb7)
              have Kx7 := Lib.hid (Kx6.out.on hb7)
              have HDx7 := Lib.hid (HDx6.out.below hb7)
              clear hb7
              have qd0 : (w7).cell? ⟨w.heap.size, 0, none⟩ = some (.int .i64 q) := dk0 Kd7.out
              have qd1 : (w7).cell? ⟨w.heap.size, 1, none⟩ = some (.slice a n c) := dk1 Kd7.out
              have qo0 : (w7).cell? ⟨w.heap.size + 1, 0, none⟩ = some (.int .i64 ok) := ok0 Ko7.out
              have qo1 : (w7).cell? ⟨w.heap.size + 1, 1, none⟩ = some (.int .i64 on) := ok1 Ko7.out
              have qo2 : (w7).cell? ⟨w.heap.size + 1, 2, none⟩ = some (.int .i64 oN) := ok2 Ko7.out
              have qo3 : (w7).cell? ⟨w.heap.size + 1, 3, none⟩ = some (.slice ad nd cd) := ok3 Ko7.out
              have qo4 : (w7).cell? ⟨w.heap.size + 1, 4, none⟩ = some (.slice ap np cp) := ok4 Ko7.out
              have qx0 : (w7).cell? ⟨w6.heap.size, 0, none⟩ = some (.int .i64 q) := dk0 Kx7.out
              have qx1 : (w7).cell? ⟨w6.heap.size, 1, none⟩ = some (.slice a6 n6 c6) := dk1 Kx7.out
              have hnx : ys.length = n6 := HDx7.out.1
              have hjx : j < n6 := by have h1 := HJ2.out; have h2 := congrArg List.length HY.out; rw [FP.files_len] at h2; omega
              have hjx2 : ¬ n6 ≤ j := by omega
              have hcx := HDx7.out.caps
              obtain ⟨b1, o1, no1, a1, n1, c1, B1, s1, he1, hb1, hx1, p0, p1, p2, hok1⟩ := ((HD.out.below W7.out).2.1).at (i := i) (by rw [HXN.out]; exact hin)
              obtain ⟨b2, o2, no2, a2, n2, c2, B2, s2, he2, hb2, hx2, r0, r1, r2, hok2⟩ := (HDx7.out.2.1).at (i := j) (by omega)
              have hk := HK.out
              rw [FP.files_at hx1, ← HY.out, FP.files_at hx2] at hk
              obtain ⟨hk1, hk2, hk3⟩ := hk
              have hfi := HFF.out
              rw [FP.files_at hx1] at hfi
              have hs0 := hfi.2.2.1
              have hs1 := hfi.2.2.2
              simp only [FP.file] at hk1 hk2 hk3 hs0 hs1
              have hl1 : B1.length = n1 := hok1.1
              have hl2 : B2.length = n2 := hok2.1
              obtain ⟨s, rfl⟩ : ∃ s : Nat, s1 = s := ⟨s1.toNat, by omega⟩
              rw [Int.toNat_natCast] at hk3
              have hsn1 : s ≤ n1 := by omega
              have hsn2 : s ≤ n2 := by omega
              have hcap1 : n1 ≤ c1 ∧ c1 ≤ maxLen := by have h1 := hok1.2.1.1; simp only at h1; omega
              have hcap2 : n2 ≤ c2 ∧ c2 ≤ maxLen := by have h1 := hok2.2.1.1; simp only at h1; omega
              have hsl1 : ∀ w, (Instr.sliceAt 25 (.slice a1 n1 c1) none (some (.int .i64 (s : Int))) none).run Try.prog w = .ok (.slice (sl a1 0 c1) s c1) w := fun w => sliceB_h a1 w (by omega)
              have hsl2 : ∀ w, (Instr.sliceAt 25 (.slice a2 n2 c2) none (some (.int .i64 (s : Int))) none).run Try.prog w = .ok (.slice (sl a2 0 c2) s c2) w := fun w => sliceB_h a2 w (by omega)
              obtain ⟨st, hst⟩ : ∃ st, strOf (B1.take s) = st := ⟨_, rfl⟩
              have hw1 : ∀ w', Below w7.heap.size w7 w' → RowIn .u8 w' (sl a1 0 c1) c1 (B1.take s) := fun w' hb => by
                have h1 := row_sliced (hok1.2.1.below hb) (l := 0) (h := s) (m := c1) (Nat.zero_le _) (by simp only; omega) (by omega) (by omega)
                simpa using h1
              have hw2 : ∀ w', Below w7.heap.size w7 w' → RowIn .u8 w' (sl a2 0 c2) c2 (B2.take s) := fun w' hb => by
                have h1 := row_sliced (hok2.2.1.below hb) (l := 0) (h := s) (m := c2) (Nat.zero_le _) (by simp only; omega) (by omega) (by omega)
                simpa using h1
              have two : ∀ o o' : Obj, Below w7.heap.size w7 ((w7.alloc o).alloc o') := fun o o' => ((Below.refl _ _).alloc (Nat.le_refl _) o).alloc (by simp) o'
              have cv1 : ∀ o o' m, (convert 25 9 (.slice (sl a1 0 c1) s c1)).run Try.prog (World.drewN ((w7.alloc o).alloc o') m) = .ok (.string st) (World.drewN ((w7.alloc o).alloc o') m) := fun o o' m => by
                rw [← hst]; exact conv_row (hw1 _ ((two o o').trans ((below_drewN _ _ m).mono (two o o').size))) (by simp; omega)
              have cv2 : ∀ o o' m, (convert 25 9 (.slice (sl a2 0 c2) s c2)).run Try.prog (World.drewN ((w7.alloc o).alloc o') m) = .ok (.string st) (World.drewN ((w7.alloc o).alloc o') m) := fun o o' m => by
                rw [← hst, ← hk3]; exact conv_row (hw2 _ ((two o o').trans ((below_drewN _ _ m).mono (two o o').size))) (by simp; omega)
              have dg : decide ((s : Int) ≤ s2) = true := by simpa using hk1
              have one : ∀ o, Below w7.heap.size w7 (w7.alloc o) := fun o => (Below.refl _ _).alloc (Nat.le_refl _) o
              have hbx : w6.heap.size < w7.heap.size := Kx7.out.lt
              have z1 : ∀ o, (w7.alloc o).cell? ⟨w6.heap.size, 1, none⟩ = some (.slice (some ⟨b2, o2, none⟩) n6 c6) := fun o => by have h1 := dk1 (Kx7.out.alloc o); rw [he2] at h1; exact h1
              have t0 : ∀ o, (w7.alloc o).cell? ⟨b2, o2 + j * 3, none⟩ = some (.int .i64 no2) := fun o => ((one o).cell (p := ⟨b2, o2 + j * 3, none⟩) hb2).trans r0
              have t1 : ∀ o, (w7.alloc o).cell? ⟨b2, o2 + j * 3 + 1, none⟩ = some (.slice a2 n2 c2) := fun o => ((one o).cell (p := ⟨b2, o2 + j * 3 + 1, none⟩) hb2).trans r1
              have t2 : ∀ o, (w7.alloc o).cell? ⟨b2, o2 + j * 3 + 2, none⟩ = some (.int .i64 s2) := fun o => ((one o).cell (p := ⟨b2, o2 + j * 3 + 2, none⟩) hb2).trans r2
              have Bz : Hid (∀ o o' m, Below w.heap.size w (World.drewN ((w7.alloc o).alloc o') m)) := Lib.hid (fun o o' m => W7.out.trans (((two o o').trans ((below_drewN _ _ m).mono (two o o').size)).mono W7.out.size))
              subst he1
              subst he2
              clear hx1 hx2 hok1 hok2 hk2 hk3 hs0 hs1 hl1 hl2 hfi hst hw1 hw2 two one hk1 hnx
              go_wp2_with fail
              go_quiet (fail)
              go_wp2
              go_ret
              exact ⟨rfl, Bz.out _ _ _⟩
            · have HFN : Hid (D.find (q, FP.files xs) no = (i : Int)) := Lib.hid h2
              have hin : i < n := by have h5 := h3; simp only [FP.files_len] at h5; rw [hd.1] at h5; exact h5
              have hin2 : ¬ n ≤ i := by omega
              have hS := D.op_sure ok on oN bd ps hm h1 hon
              rw [hq] at hS
              obtain ⟨j, hj1, hj2, hK⟩ := hS
              rw [hfk] at hj1
              have hff : D.fine ((FP.files xs).getD i D.nof) := by rw [D.getD_lt h3]; exact hm.2.1 _ (List.getElem_mem h3)
              have HK := Lib.hid hK
              have HFF := Lib.hid hff
              have HJ2 := Lib.hid hj2
              have e1 : (on == no) = false := by simpa using hno
              clear hd ho hf hz hz0 hm hq hfk h1 h2 h3 h4 hon hj2 hK hff hno
              subst hj1
              go_enter Try.func5, Try.ntmps5
              go_wp2_with fail
              refine (awake_any (obox (dbox w q a n c) ok on oN ad nd cd ap np cp)).mono ?_
              rintro e w1 ⟨rfl, hb1⟩
              have W1 := Lib.hid (HBX.out.trans (hb1.mono HBX.out.size))
              have Kd1 : Hid (Blok w1 (w.heap.size) 24 #[.int .i64 q, .slice a n c]) := Lib.hid ((law2_d w q a n c ok on oN ad nd cd ap np cp).on hb1)
              have Ko1 : Hid (Blok w1 (w.heap.size + 1) 28 #[.int .i64 ok, .int .i64 on, .int .i64 oN, .slice ad nd cd, .slice ap np cp]) := Lib.hid ((law2_o w q a n c ok on oN ad nd cd ap np cp).on hb1)
              clear hb1
              have qd0 : (w1).cell? ⟨w.heap.size, 0, none⟩ = some (.int .i64 q) := dk0 Kd1.out
              have qd1 : (w1).cell? ⟨w.heap.size, 1, none⟩ = some (.slice a n c) := dk1 Kd1.out
              have qo0 : (w1).cell? ⟨w.heap.size + 1, 0, none⟩ = some (.int .i64 ok) := ok0 Ko1.out
              have qo1 : (w1).cell? ⟨w.heap.size + 1, 1, none⟩ = some (.int .i64 on) := ok1 Ko1.out
              have qo2 : (w1).cell? ⟨w.heap.size + 1, 2, none⟩ = some (.int .i64 oN) := ok2 Ko1.out
              have qo3 : (w1).cell? ⟨w.heap.size + 1, 3, none⟩ = some (.slice ad nd cd) := ok3 Ko1.out
              have qo4 : (w1).cell? ⟨w.heap.size + 1, 4, none⟩ = some (.slice ap np cp) := ok4 Ko1.out
              go_wp2_with fail
              refine (few_any q a n c xs true _ (HD.out.below W1.out) HF.out).mono ?_
              rintro e w2 ⟨rfl, hb2⟩
              clear qd0 qd1 qo0 qo1 qo2 qo3 qo4
              have W2 := Lib.hid (W1.out.trans (hb2.mono W1.out.size))
              have Kd2 := Lib.hid (Kd1.out.on hb2)
              have Ko2 := Lib.hid (Ko1.out.on hb2)
              clear hb2
              have qd0 : (w2).cell? ⟨w.heap.size, 0, none⟩ = some (.int .i64 q) := dk0 Kd2.out
              have qd1 : (w2).cell? ⟨w.heap.size, 1, none⟩ = some (.slice a n c) := dk1 Kd2.out
              have qo0 : (w2).cell? ⟨w.heap.size + 1, 0, none⟩ = some (.int .i64 ok) := ok0 Ko2.out
              have qo1 : (w2).cell? ⟨w.heap.size + 1, 1, none⟩ = some (.int .i64 on) := ok1 Ko2.out
              have qo2 : (w2).cell? ⟨w.heap.size + 1, 2, none⟩ = some (.int .i64 oN) := ok2 Ko2.out
              have qo3 : (w2).cell? ⟨w.heap.size + 1, 3, none⟩ = some (.slice ad nd cd) := ok3 Ko2.out
              have qo4 : (w2).cell? ⟨w.heap.size + 1, 4, none⟩ = some (.slice ap np cp) := ok4 Ko2.out
              go_wp2_with fail
              refine (smallOp_any ok on oN ad nd cd ap np cp true _ HZ.out).mono ?_
              rintro e w3 ⟨rfl, hb3⟩
              clear qd0 qd1 qo0 qo1 qo2 qo3 qo4
              have W3 := Lib.hid (W2.out.trans (hb3.mono W2.out.size))
              have Kd3 := Lib.hid (Kd2.out.on hb3)
              have Ko3 := Lib.hid (Ko2.out.on hb3)
              clear hb3
              have qd0 : (w3).cell? ⟨w.heap.size, 0, none⟩ = some (.int .i64 q) := dk0 Kd3.out
              have qd1 : (w3).cell? ⟨w.heap.size, 1, none⟩ = some (.slice a n c) := dk1 Kd3.out
              have qo0 : (w3).cell? ⟨w.heap.size + 1, 0, none⟩ = some (.int .i64 ok) := ok0 Ko3.out
              have qo1 : (w3).cell? ⟨w.heap.size + 1, 1, none⟩ = some (.int .i64 on) := ok1 Ko3.out
              have qo2 : (w3).cell? ⟨w.heap.size + 1, 2, none⟩ = some (.int .i64 oN) := ok2 Ko3.out
              have qo3 : (w3).cell? ⟨w.heap.size + 1, 3, none⟩ = some (.slice ad nd cd) := ok3 Ko3.out
              have qo4 : (w3).cell? ⟨w.heap.size + 1, 4, none⟩ = some (.slice ap np cp) := ok4 Ko3.out
              go_wp2_with fail
              refine (may_any q a n c xs true _ (HD.out.below W3.out) HM.out).mono ?_
              rintro e w4 ⟨rfl, hb4⟩
              clear qd0 qd1 qo0 qo1 qo2 qo3 qo4
              have W4 := Lib.hid (W3.out.trans (hb4.mono W3.out.size))
              have Kd4 := Lib.hid (Kd3.out.on hb4)
              have Ko4 := Lib.hid (Ko3.out.on hb4)
              clear hb4
              have qd0 : (w4).cell? ⟨w.heap.size, 0, none⟩ = some (.int .i64 q) := dk0 Kd4.out
              have qd1 : (w4).cell? ⟨w.heap.size, 1, none⟩ = some (.slice a n c) := dk1 Kd4.out
              have qo0 : (w4).cell? ⟨w.heap.size + 1, 0, none⟩ = some (.int .i64 ok) := ok0 Ko4.out
              have qo1 : (w4).cell? ⟨w.heap.size + 1, 1, none⟩ = some (.int .i64 on) := ok1 Ko4.out
              have qo2 : (w4).cell? ⟨w.heap.size + 1, 2, none⟩ = some (.int .i64 oN) := ok2 Ko4.out
              have qo3 : (w4).cell? ⟨w.heap.size + 1, 3, none⟩ = some (.slice ad nd cd) := ok3 Ko4.out
              have qo4 : (w4).cell? ⟨w.heap.size + 1, 4, none⟩ = some (.slice ap np cp) := ok4 Ko4.out
              go_wp2_with fail
              refine (find_any q a n c no xs (i : Int) _ (HD.out.below W4.out) HFN.out).mono ?_
              rintro e w5 ⟨rfl, hb5⟩
              clear qd0 qd1 qo0 qo1 qo2 qo3 qo4
              have W5 := Lib.hid (W4.out.trans (hb5.mono W4.out.size))
              have Kd5 := Lib.hid (Kd4.out.on hb5)
              have Ko5 := Lib.hid (Ko4.out.on hb5)
              clear hb5
              have qd0 : (w5).cell? ⟨w.heap.size, 0, none⟩ = some (.int .i64 q) := dk0 Kd5.out
              have qd1 : (w5).cell? ⟨w.heap.size, 1, none⟩ = some (.slice a n c) := dk1 Kd5.out
              have qo0 : (w5).cell? ⟨w.heap.size + 1, 0, none⟩ = some (.int .i64 ok) := ok0 Ko5.out
              have qo1 : (w5).cell? ⟨w.heap.size + 1, 1, none⟩ = some (.int .i64 on) := ok1 Ko5.out
              have qo2 : (w5).cell? ⟨w.heap.size + 1, 2, none⟩ = some (.int .i64 oN) := ok2 Ko5.out
              have qo3 : (w5).cell? ⟨w.heap.size + 1, 3, none⟩ = some (.slice ad nd cd) := ok3 Ko5.out
              have qo4 : (w5).cell? ⟨w.heap.size + 1, 4, none⟩ = some (.slice ap np cp) := ok4 Ko5.out
              go_wp2_with fail
              refine (do_any q a n c ok on oN ad nd cd ap np cp xs bd ps _ (HD.out.below W5.out) HSM.out (HO.out.below W5.out) HNP.out).mono ?_
              rw [HQ.out]
              rintro e w6 ⟨a6, n6, c6, ys, rfl, HE6, HY, _, hb6⟩
              clear qd0 qd1 qo0 qo1 qo2 qo3 qo4
              have hx6 := dbox_below w6 q a6 n6 c6
              have W6 := Lib.hid ((W5.out.trans (hb6.mono W5.out.size)).trans (hx6.mono (W5.out.trans (hb6.mono W5.out.size)).size))
              have Pd6 := Kd5.out.on hb6
              have Po6 := Ko5.out.on hb6
              have Kd6 := Lib.hid (Pd6.on hx6)
              have Ko6 := Lib.hid (Po6.on hx6)
              have HDx6 := Lib.hid (HE6.out.below hx6)
              have Kx6 := Lib.hid (dbox_blok w6 q a6 n6 c6)
              have qd0 : ∀ o, (w6.alloc o).cell? ⟨w.heap.size, 0, none⟩ = some (.int .i64 q) := fun o => dk0 (Pd6.alloc o)
              have qd1 : ∀ o, (w6.alloc o).cell? ⟨w.heap.size, 1, none⟩ = some (.slice a n c) := fun o => dk1 (Pd6.alloc o)
              have qo0 : ∀ o, (w6.alloc o).cell? ⟨w.heap.size + 1, 0, none⟩ = some (.int .i64 ok) := fun o => ok0 (Po6.alloc o)
              have qo1 : ∀ o, (w6.alloc o).cell? ⟨w.heap.size + 1, 1, none⟩ = some (.int .i64 on) := fun o => ok1 (Po6.alloc o)
              have qo2 : ∀ o, (w6.alloc o).cell? ⟨w.heap.size + 1, 2, none⟩ = some (.int .i64 oN) := fun o => ok2 (Po6.alloc o)
              have qo3 : ∀ o, (w6.alloc o).cell? ⟨w.heap.size + 1, 3, none⟩ = some (.slice ad nd cd) := fun o => ok3 (Po6.alloc o)
              have qo4 : ∀ o, (w6.alloc o).cell? ⟨w.heap.size + 1, 4, none⟩ = some (.slice ap np cp) := fun o => ok4 (Po6.alloc o)
              clear hb6 hx6 Pd6 Po6
              go_wp2_with fail
              refine (find_any q a6 n6 c6 no ys (j : Int) _ HDx6.out (by rw [HY.out]; exact HFK.out)).mono ?_
              rintro e w7 ⟨rfl, hb7⟩
              clear qd0 qd1 qo0 qo1 qo2 qo3 qo4
              have W7 := Lib.hid (W6.out.trans (hb7.mono W6.out.size))
              have Kd7 := Lib.hid (Kd6.out.on hb7)
              have Ko7 := Lib.hid (Ko6.out.on hb7)
              have Kx7 := Lib.hid (Kx6.out.on hb7)
              have HDx7 := Lib.hid (HDx6.out.below hb7)
              clear hb7
              have qd0 : (w7).cell? ⟨w.heap.size, 0, none⟩ = some (.int .i64 q) := dk0 Kd7.out
              have qd1 : (w7).cell? ⟨w.heap.size, 1, none⟩ = some (.slice a n c) := dk1 Kd7.out
              have qo0 : (w7).cell? ⟨w.heap.size + 1, 0, none⟩ = some (.int .i64 ok) := ok0 Ko7.out
              have qo1 : (w7).cell? ⟨w.heap.size + 1, 1, none⟩ = some (.int .i64 on) := ok1 Ko7.out
              have qo2 : (w7).cell? ⟨w.heap.size + 1, 2, none⟩ = some (.int .i64 oN) := ok2 Ko7.out
              have qo3 : (w7).cell? ⟨w.heap.size + 1, 3, none⟩ = some (.slice ad nd cd) := ok3 Ko7.out
              have qo4 : (w7).cell? ⟨w.heap.size + 1, 4, none⟩ = some (.slice ap np cp) := ok4 Ko7.out
              have qx0 : (w7).cell? ⟨w6.heap.size, 0, none⟩ = some (.int .i64 q) := dk0 Kx7.out
              have qx1 : (w7).cell? ⟨w6.heap.size, 1, none⟩ = some (.slice a6 n6 c6) := dk1 Kx7.out
              have hnx : ys.length = n6 := HDx7.out.1
              have hjx : j < n6 := by have h1 := HJ2.out; have h2 := congrArg List.length HY.out; rw [FP.files_len] at h2; omega
              have hjx2 : ¬ n6 ≤ j := by omega
              have hcx := HDx7.out.caps
              obtain ⟨b1, o1, no1, a1, n1, c1, B1, s1, he1, hb1, hx1, p0, p1, p2, hok1⟩ := ((HD.out.below W7.out).2.1).at (i := i) (by rw [HXN.out]; exact hin)
              obtain ⟨b2, o2, no2, a2, n2, c2, B2, s2, he2, hb2, hx2, r0, r1, r2, hok2⟩ := (HDx7.out.2.1).at (i := j) (by omega)
              have hk := HK.out
              rw [FP.files_at hx1, ← HY.out, FP.files_at hx2] at hk
              obtain ⟨hk1, hk2, hk3⟩ := hk
              have hfi := HFF.out
              rw [FP.files_at hx1] at hfi
              have hs0 := hfi.2.2.1
              have hs1 := hfi.2.2.2
              simp only [FP.file] at hk1 hk2 hk3 hs0 hs1
              have hl1 : B1.length = n1 := hok1.1
              have hl2 : B2.length = n2 := hok2.1
              obtain ⟨s, rfl⟩ : ∃ s : Nat, s1 = s := ⟨s1.toNat, by omega⟩
              rw [Int.toNat_natCast] at hk3
              have hsn1 : s ≤ n1 := by omega
              have hsn2 : s ≤ n2 := by omega
              have hcap1 : n1 ≤ c1 ∧ c1 ≤ maxLen := by have h1 := hok1.2.1.1; simp only at h1; omega
              have hcap2 : n2 ≤ c2 ∧ c2 ≤ maxLen := by have h1 := hok2.2.1.1; simp only at h1; omega
              have hsl1 : ∀ w, (Instr.sliceAt 25 (.slice a1 n1 c1) none (some (.int .i64 (s : Int))) none).run Try.prog w = .ok (.slice (sl a1 0 c1) s c1) w := fun w => sliceB_h a1 w (by omega)
              have hsl2 : ∀ w, (Instr.sliceAt 25 (.slice a2 n2 c2) none (some (.int .i64 (s : Int))) none).run Try.prog w = .ok (.slice (sl a2 0 c2) s c2) w := fun w => sliceB_h a2 w (by omega)
              obtain ⟨st, hst⟩ : ∃ st, strOf (B1.take s) = st := ⟨_, rfl⟩
              have hw1 : ∀ w', Below w7.heap.size w7 w' → RowIn .u8 w' (sl a1 0 c1) c1 (B1.take s) := fun w' hb => by
                have h1 := row_sliced (hok1.2.1.below hb) (l := 0) (h := s) (m := c1) (Nat.zero_le _) (by simp only; omega) (by omega) (by omega)
                simpa using h1
              have hw2 : ∀ w', Below w7.heap.size w7 w' → RowIn .u8 w' (sl a2 0 c2) c2 (B2.take s) := fun w' hb => by
                have h1 := row_sliced (hok2.2.1.below hb) (l := 0) (h := s) (m := c2) (Nat.zero_le _) (by simp only; omega) (by omega) (by omega)
                simpa using h1
              have two : ∀ o o' : Obj, Below w7.heap.size w7 ((w7.alloc o).alloc o') := fun o o' => ((Below.refl _ _).alloc (Nat.le_refl _) o).alloc (by simp) o'
              have cv1 : ∀ o o' m, (convert 25 9 (.slice (sl a1 0 c1) s c1)).run Try.prog (World.drewN ((w7.alloc o).alloc o') m) = .ok (.string st) (World.drewN ((w7.alloc o).alloc o') m) := fun o o' m => by
                rw [← hst]; exact conv_row (hw1 _ ((two o o').trans ((below_drewN _ _ m).mono (two o o').size))) (by simp; omega)
              have cv2 : ∀ o o' m, (convert 25 9 (.slice (sl a2 0 c2) s c2)).run Try.prog (World.drewN ((w7.alloc o).alloc o') m) = .ok (.string st) (World.drewN ((w7.alloc o).alloc o') m) := fun o o' m => by
                rw [← hst, ← hk3]; exact conv_row (hw2 _ ((two o o').trans ((below_drewN _ _ m).mono (two o o').size))) (by simp; omega)
              have dg : decide ((s : Int) ≤ s2) = true := by simpa using hk1
              have one : ∀ o, Below w7.heap.size w7 (w7.alloc o) := fun o => (Below.refl _ _).alloc (Nat.le_refl _) o
              have hbx : w6.heap.size < w7.heap.size := Kx7.out.lt
              have z1 : ∀ o, (w7.alloc o).cell? ⟨w6.heap.size, 1, none⟩ = some (.slice (some ⟨b2, o2, none⟩) n6 c6) := fun o => by have h1 := dk1 (Kx7.out.alloc o); rw [he2] at h1; exact h1
              have t0 : ∀ o, (w7.alloc o).cell? ⟨b2, o2 + j * 3, none⟩ = some (.int .i64 no2) := fun o => ((one o).cell (p := ⟨b2, o2 + j * 3, none⟩) hb2).trans r0
              have t1 : ∀ o, (w7.alloc o).cell? ⟨b2, o2 + j * 3 + 1, none⟩ = some (.slice a2 n2 c2) := fun o => ((one o).cell (p := ⟨b2, o2 + j * 3 + 1, none⟩) hb2).trans r1
              have t2 : ∀ o, (w7.alloc o).cell? ⟨b2, o2 + j * 3 + 2, none⟩ = some (.int .i64 s2) := fun o => ((one o).cell (p := ⟨b2, o2 + j * 3 + 2, none⟩) hb2).trans r2
              have Bz : Hid (∀ o o' m, Below w.heap.size w (World.drewN ((w7.alloc o).alloc o') m)) := Lib.hid (fun o o' m => W7.out.trans (((two o o').trans ((below_drewN _ _ m).mono (two o o').size)).mono W7.out.size))
              subst he1
              subst he2
              clear hx1 hx2 hok1 hok2 hk2 hk3 hs0 hs1 hl1 hl2 hfi hst hw1 hw2 two one hk1 hnx
              go_wp2_with fail
              go_quiet (fail)
              go_wp2
              go_ret
              exact ⟨rfl, Bz.out _ _ _⟩
        · have HFN : Hid (D.find (q, FP.files xs) no = -1) := Lib.hid h2
          clear hd ho hf hz hz0 hm hq hfk h1 h2
          go_enter Try.func5, Try.ntmps5
          go_wp2_with fail
          refine (awake_any (obox (dbox w q a n c) ok on oN ad nd cd ap np cp)).mono ?_
          rintro e w1 ⟨rfl, hb1⟩
          have W1 := Lib.hid (HBX.out.trans (hb1.mono HBX.out.size))
          have Kd1 : Hid (Blok w1 (w.heap.size) 24 #[.int .i64 q, .slice a n c]) := Lib.hid ((law2_d w q a n c ok on oN ad nd cd ap np cp).on hb1)
          have Ko1 : Hid (Blok w1 (w.heap.size + 1) 28 #[.int .i64 ok, .int .i64 on, .int .i64 oN, .slice ad nd cd, .slice ap np cp]) := Lib.hid ((law2_o w q a n c ok on oN ad nd cd ap np cp).on hb1)
          clear hb1
          have qd0 : (w1).cell? ⟨w.heap.size, 0, none⟩ = some (.int .i64 q) := dk0 Kd1.out
          have qd1 : (w1).cell? ⟨w.heap.size, 1, none⟩ = some (.slice a n c) := dk1 Kd1.out
          have qo0 : (w1).cell? ⟨w.heap.size + 1, 0, none⟩ = some (.int .i64 ok) := ok0 Ko1.out
          have qo1 : (w1).cell? ⟨w.heap.size + 1, 1, none⟩ = some (.int .i64 on) := ok1 Ko1.out
          have qo2 : (w1).cell? ⟨w.heap.size + 1, 2, none⟩ = some (.int .i64 oN) := ok2 Ko1.out
          have qo3 : (w1).cell? ⟨w.heap.size + 1, 3, none⟩ = some (.slice ad nd cd) := ok3 Ko1.out
          have qo4 : (w1).cell? ⟨w.heap.size + 1, 4, none⟩ = some (.slice ap np cp) := ok4 Ko1.out
          go_wp2_with fail
          refine (few_any q a n c xs true _ (HD.out.below W1.out) HF.out).mono ?_
          rintro e w2 ⟨rfl, hb2⟩
          clear qd0 qd1 qo0 qo1 qo2 qo3 qo4
          have W2 := Lib.hid (W1.out.trans (hb2.mono W1.out.size))
          have Kd2 := Lib.hid (Kd1.out.on hb2)
          have Ko2 := Lib.hid (Ko1.out.on hb2)
          clear hb2
          have qd0 : (w2).cell? ⟨w.heap.size, 0, none⟩ = some (.int .i64 q) := dk0 Kd2.out
          have qd1 : (w2).cell? ⟨w.heap.size, 1, none⟩ = some (.slice a n c) := dk1 Kd2.out
          have qo0 : (w2).cell? ⟨w.heap.size + 1, 0, none⟩ = some (.int .i64 ok) := ok0 Ko2.out
          have qo1 : (w2).cell? ⟨w.heap.size + 1, 1, none⟩ = some (.int .i64 on) := ok1 Ko2.out
          have qo2 : (w2).cell? ⟨w.heap.size + 1, 2, none⟩ = some (.int .i64 oN) := ok2 Ko2.out
          have qo3 : (w2).cell? ⟨w.heap.size + 1, 3, none⟩ = some (.slice ad nd cd) := ok3 Ko2.out
          have qo4 : (w2).cell? ⟨w.heap.size + 1, 4, none⟩ = some (.slice ap np cp) := ok4 Ko2.out
          go_wp2_with fail
          refine (smallOp_any ok on oN ad nd cd ap np cp true _ HZ.out).mono ?_
          rintro e w3 ⟨rfl, hb3⟩
          clear qd0 qd1 qo0 qo1 qo2 qo3 qo4
          have W3 := Lib.hid (W2.out.trans (hb3.mono W2.out.size))
          have Kd3 := Lib.hid (Kd2.out.on hb3)
          have Ko3 := Lib.hid (Ko2.out.on hb3)
          clear hb3
          have qd0 : (w3).cell? ⟨w.heap.size, 0, none⟩ = some (.int .i64 q) := dk0 Kd3.out
          have qd1 : (w3).cell? ⟨w.heap.size, 1, none⟩ = some (.slice a n c) := dk1 Kd3.out
          have qo0 : (w3).cell? ⟨w.heap.size + 1, 0, none⟩ = some (.int .i64 ok) := ok0 Ko3.out
          have qo1 : (w3).cell? ⟨w.heap.size + 1, 1, none⟩ = some (.int .i64 on) := ok1 Ko3.out
          have qo2 : (w3).cell? ⟨w.heap.size + 1, 2, none⟩ = some (.int .i64 oN) := ok2 Ko3.out
          have qo3 : (w3).cell? ⟨w.heap.size + 1, 3, none⟩ = some (.slice ad nd cd) := ok3 Ko3.out
          have qo4 : (w3).cell? ⟨w.heap.size + 1, 4, none⟩ = some (.slice ap np cp) := ok4 Ko3.out
          go_wp2_with fail
          refine (may_any q a n c xs true _ (HD.out.below W3.out) HM.out).mono ?_
          rintro e w4 ⟨rfl, hb4⟩
          clear qd0 qd1 qo0 qo1 qo2 qo3 qo4
          have W4 := Lib.hid (W3.out.trans (hb4.mono W3.out.size))
          have Kd4 := Lib.hid (Kd3.out.on hb4)
          have Ko4 := Lib.hid (Ko3.out.on hb4)
          clear hb4
          have qd0 : (w4).cell? ⟨w.heap.size, 0, none⟩ = some (.int .i64 q) := dk0 Kd4.out
          have qd1 : (w4).cell? ⟨w.heap.size, 1, none⟩ = some (.slice a n c) := dk1 Kd4.out
          have qo0 : (w4).cell? ⟨w.heap.size + 1, 0, none⟩ = some (.int .i64 ok) := ok0 Ko4.out
          have qo1 : (w4).cell? ⟨w.heap.size + 1, 1, none⟩ = some (.int .i64 on) := ok1 Ko4.out
          have qo2 : (w4).cell? ⟨w.heap.size + 1, 2, none⟩ = some (.int .i64 oN) := ok2 Ko4.out
          have qo3 : (w4).cell? ⟨w.heap.size + 1, 3, none⟩ = some (.slice ad nd cd) := ok3 Ko4.out
          have qo4 : (w4).cell? ⟨w.heap.size + 1, 4, none⟩ = some (.slice ap np cp) := ok4 Ko4.out
          go_wp2_with fail
          refine (find_any q a n c no xs (-1) _ (HD.out.below W4.out) HFN.out).mono ?_
          rintro e w5 ⟨rfl, hb5⟩
          clear qd0 qd1 qo0 qo1 qo2 qo3 qo4
          have W5 := Lib.hid (W4.out.trans (hb5.mono W4.out.size))
          have Kd5 := Lib.hid (Kd4.out.on hb5)
          have Ko5 := Lib.hid (Ko4.out.on hb5)
          clear hb5
          have qd0 : (w5).cell? ⟨w.heap.size, 0, none⟩ = some (.int .i64 q) := dk0 Kd5.out
          have qd1 : (w5).cell? ⟨w.heap.size, 1, none⟩ = some (.slice a n c) := dk1 Kd5.out
          have qo0 : (w5).cell? ⟨w.heap.size + 1, 0, none⟩ = some (.int .i64 ok) := ok0 Ko5.out
          have qo1 : (w5).cell? ⟨w.heap.size + 1, 1, none⟩ = some (.int .i64 on) := ok1 Ko5.out
          have qo2 : (w5).cell? ⟨w.heap.size + 1, 2, none⟩ = some (.int .i64 oN) := ok2 Ko5.out
          have qo3 : (w5).cell? ⟨w.heap.size + 1, 3, none⟩ = some (.slice ad nd cd) := ok3 Ko5.out
          have qo4 : (w5).cell? ⟨w.heap.size + 1, 4, none⟩ = some (.slice ap np cp) := ok4 Ko5.out
          go_wp2_with fail
          refine (do_any q a n c ok on oN ad nd cd ap np cp xs bd ps _ (HD.out.below W5.out) HSM.out (HO.out.below W5.out) HNP.out).mono ?_
          rw [HQ.out]
          rintro e w6 ⟨a6, n6, c6, ys, rfl, HE6, HY, _, hb6⟩
          clear qd0 qd1 qo0 qo1 qo2 qo3 qo4
          have hx6 := dbox_below w6 q a6 n6 c6
          have W6 := Lib.hid ((W5.out.trans (hb6.mono W5.out.size)).trans (hx6.mono (W5.out.trans (hb6.mono W5.out.size)).size))
          have Pd6 := Kd5.out.on hb6
          have Po6 := Ko5.out.on hb6
          have Kd6 := Lib.hid (Pd6.on hx6)
          have Ko6 := Lib.hid (Po6.on hx6)
          have HDx6 := Lib.hid (HE6.out.below hx6)
          have Kx6 := Lib.hid (dbox_blok w6 q a6 n6 c6)
          have qd0 : ∀ o, (w6.alloc o).cell? ⟨w.heap.size, 0, none⟩ = some (.int .i64 q) := fun o => dk0 (Pd6.alloc o)
          have qd1 : ∀ o, (w6.alloc o).cell? ⟨w.heap.size, 1, none⟩ = some (.slice a n c) := fun o => dk1 (Pd6.alloc o)
          have qo0 : ∀ o, (w6.alloc o).cell? ⟨w.heap.size + 1, 0, none⟩ = some (.int .i64 ok) := fun o => ok0 (Po6.alloc o)
          have qo1 : ∀ o, (w6.alloc o).cell? ⟨w.heap.size + 1, 1, none⟩ = some (.int .i64 on) := fun o => ok1 (Po6.alloc o)
          have qo2 : ∀ o, (w6.alloc o).cell? ⟨w.heap.size + 1, 2, none⟩ = some (.int .i64 oN) := fun o => ok2 (Po6.alloc o)
          have qo3 : ∀ o, (w6.alloc o).cell? ⟨w.heap.size + 1, 3, none⟩ = some (.slice ad nd cd) := fun o => ok3 (Po6.alloc o)
          have qo4 : ∀ o, (w6.alloc o).cell? ⟨w.heap.size + 1, 4, none⟩ = some (.slice ap np cp) := fun o => ok4 (Po6.alloc o)
          clear hb6 hx6 Pd6 Po6
          go_wp2_with fail
          refine (find_any q a6 n6 c6 no ys fk _ HDx6.out (by rw [HY.out]; exact HFK.out)).mono ?_
          rintro e w7 ⟨rfl, hb7⟩
          clear qd0 qd1 qo0 qo1 qo2 qo3 qo4
          have W7 := Lib.hid (W6.out.trans (hb7.mono W6.out.size))
          have Kd7 := Lib.hid (Kd6.out.on hb7)
          have Ko7 := Lib.hid (Ko6.out.on hb7)
          have Kx7 := Lib.hid (Kx6.out.on hb7)
          have HDx7 := Lib.hid (HDx6.out.below hb7)
          clear hb7
          have qd0 : (w7).cell? ⟨w.heap.size, 0, none⟩ = some (.int .i64 q) := dk0 Kd7.out
          have qd1 : (w7).cell? ⟨w.heap.size, 1, none⟩ = some (.slice a n c) := dk1 Kd7.out
          have qo0 : (w7).cell? ⟨w.heap.size + 1, 0, none⟩ = some (.int .i64 ok) := ok0 Ko7.out
          have qo1 : (w7).cell? ⟨w.heap.size + 1, 1, none⟩ = some (.int .i64 on) := ok1 Ko7.out
          have qo2 : (w7).cell? ⟨w.heap.size + 1, 2, none⟩ = some (.int .i64 oN) := ok2 Ko7.out
          have qo3 : (w7).cell? ⟨w.heap.size + 1, 3, none⟩ = some (.slice ad nd cd) := ok3 Ko7.out
          have qo4 : (w7).cell? ⟨w.heap.size + 1, 4, none⟩ = some (.slice ap np cp) := ok4 Ko7.out
          have qx0 : (w7).cell? ⟨w6.heap.size, 0, none⟩ = some (.int .i64 q) := dk0 Kx7.out
          have qx1 : (w7).cell? ⟨w6.heap.size, 1, none⟩ = some (.slice a6 n6 c6) := dk1 Kx7.out
          go_wp2
          go_ret
          exact ⟨rfl, W7.out⟩
      · have HF := Lib.hid (decide_eq_true hf)
        have HZ := Lib.hid (decide_eq_true hz)
        have HM := Lib.hid (decide_eq_false hm)
        clear hd ho hf hz hz0 hm
        go_enter Try.func5, Try.ntmps5
        go_wp2_with fail
        refine (awake_any (obox (dbox w k a n c) ok on oN ad nd cd ap np cp)).mono ?_
        rintro e w1 ⟨rfl, hb1⟩
        have W1 := Lib.hid (HBX.out.trans (hb1.mono HBX.out.size))
        have Kd1 : Hid (Blok w1 (w.heap.size) 24 #[.int .i64 k, .slice a n c]) := Lib.hid ((law2_d w k a n c ok on oN ad nd cd ap np cp).on hb1)
        have Ko1 : Hid (Blok w1 (w.heap.size + 1) 28 #[.int .i64 ok, .int .i64 on, .int .i64 oN, .slice ad nd cd, .slice ap np cp]) := Lib.hid ((law2_o w k a n c ok on oN ad nd cd ap np cp).on hb1)
        clear hb1
        have qd0 : (w1).cell? ⟨w.heap.size, 0, none⟩ = some (.int .i64 k) := dk0 Kd1.out
        have qd1 : (w1).cell? ⟨w.heap.size, 1, none⟩ = some (.slice a n c) := dk1 Kd1.out
        have qo0 : (w1).cell? ⟨w.heap.size + 1, 0, none⟩ = some (.int .i64 ok) := ok0 Ko1.out
        have qo1 : (w1).cell? ⟨w.heap.size + 1, 1, none⟩ = some (.int .i64 on) := ok1 Ko1.out
        have qo2 : (w1).cell? ⟨w.heap.size + 1, 2, none⟩ = some (.int .i64 oN) := ok2 Ko1.out
        have qo3 : (w1).cell? ⟨w.heap.size + 1, 3, none⟩ = some (.slice ad nd cd) := ok3 Ko1.out
        have qo4 : (w1).cell? ⟨w.heap.size + 1, 4, none⟩ = some (.slice ap np cp) := ok4 Ko1.out
        go_wp2_with fail
        refine (few_any k a n c xs true _ (HD.out.below W1.out) HF.out).mono ?_
        rintro e w2 ⟨rfl, hb2⟩
        clear qd0 qd1 qo0 qo1 qo2 qo3 qo4
        have W2 := Lib.hid (W1.out.trans (hb2.mono W1.out.size))
        have Kd2 := Lib.hid (Kd1.out.on hb2)
        have Ko2 := Lib.hid (Ko1.out.on hb2)
        clear hb2
        have qd0 : (w2).cell? ⟨w.heap.size, 0, none⟩ = some (.int .i64 k) := dk0 Kd2.out
        have qd1 : (w2).cell? ⟨w.heap.size, 1, none⟩ = some (.slice a n c) := dk1 Kd2.out
        have qo0 : (w2).cell? ⟨w.heap.size + 1, 0, none⟩ = some (.int .i64 ok) := ok0 Ko2.out
        have qo1 : (w2).cell? ⟨w.heap.size + 1, 1, none⟩ = some (.int .i64 on) := ok1 Ko2.out
        have qo2 : (w2).cell? ⟨w.heap.size + 1, 2, none⟩ = some (.int .i64 oN) := ok2 Ko2.out
        have qo3 : (w2).cell? ⟨w.heap.size + 1, 3, none⟩ = some (.slice ad nd cd) := ok3 Ko2.out
        have qo4 : (w2).cell? ⟨w.heap.size + 1, 4, none⟩ = some (.slice ap np cp) := ok4 Ko2.out
        go_wp2_with fail
        refine (smallOp_any ok on oN ad nd cd ap np cp true _ HZ.out).mono ?_
        rintro e w3 ⟨rfl, hb3⟩
        clear qd0 qd1 qo0 qo1 qo2 qo3 qo4
        have W3 := Lib.hid (W2.out.trans (hb3.mono W2.out.size))
        have Kd3 := Lib.hid (Kd2.out.on hb3)
        have Ko3 := Lib.hid (Ko2.out.on hb3)
        clear hb3
        have qd0 : (w3).cell? ⟨w.heap.size, 0, none⟩ = some (.int .i64 k) := dk0 Kd3.out
        have qd1 : (w3).cell? ⟨w.heap.size, 1, none⟩ = some (.slice a n c) := dk1 Kd3.out
        have qo0 : (w3).cell? ⟨w.heap.size + 1, 0, none⟩ = some (.int .i64 ok) := ok0 Ko3.out
        have qo1 : (w3).cell? ⟨w.heap.size + 1, 1, none⟩ = some (.int .i64 on) := ok1 Ko3.out
        have qo2 : (w3).cell? ⟨w.heap.size + 1, 2, none⟩ = some (.int .i64 oN) := ok2 Ko3.out
        have qo3 : (w3).cell? ⟨w.heap.size + 1, 3, none⟩ = some (.slice ad nd cd) := ok3 Ko3.out
        have qo4 : (w3).cell? ⟨w.heap.size + 1, 4, none⟩ = some (.slice ap np cp) := ok4 Ko3.out
        go_wp2_with fail
        refine (may_any k a n c xs false _ (HD.out.below W3.out) HM.out).mono ?_
        rintro e w4 ⟨rfl, hb4⟩
        clear qd0 qd1 qo0 qo1 qo2 qo3 qo4
        have W4 := Lib.hid (W3.out.trans (hb4.mono W3.out.size))
        have Kd4 := Lib.hid (Kd3.out.on hb4)
        have Ko4 := Lib.hid (Ko3.out.on hb4)
        clear hb4
        have qd0 : (w4).cell? ⟨w.heap.size, 0, none⟩ = some (.int .i64 k) := dk0 Kd4.out
        have qd1 : (w4).cell? ⟨w.heap.size, 1, none⟩ = some (.slice a n c) := dk1 Kd4.out
        have qo0 : (w4).cell? ⟨w.heap.size + 1, 0, none⟩ = some (.int .i64 ok) := ok0 Ko4.out
        have qo1 : (w4).cell? ⟨w.heap.size + 1, 1, none⟩ = some (.int .i64 on) := ok1 Ko4.out
        have qo2 : (w4).cell? ⟨w.heap.size + 1, 2, none⟩ = some (.int .i64 oN) := ok2 Ko4.out
        have qo3 : (w4).cell? ⟨w.heap.size + 1, 3, none⟩ = some (.slice ad nd cd) := ok3 Ko4.out
        have qo4 : (w4).cell? ⟨w.heap.size + 1, 4, none⟩ = some (.slice ap np cp) := ok4 Ko4.out
        go_wp2
        go_ret
        exact ⟨rfl, W4.out⟩
    · have HF := Lib.hid (decide_eq_true hf)
      have HZ := Lib.hid (decide_eq_false hz)
      clear hd ho hf hz hz0
      go_enter Try.func5, Try.ntmps5
      go_wp2_with fail
      refine (awake_any (obox (dbox w k a n c) ok on oN ad nd cd ap np cp)).mono ?_
      rintro e w1 ⟨rfl, hb1⟩
      have W1 := Lib.hid (HBX.out.trans (hb1.mono HBX.out.size))
      have Kd1 : Hid (Blok w1 (w.heap.size) 24 #[.int .i64 k, .slice a n c]) := Lib.hid ((law2_d w k a n c ok on oN ad nd cd ap np cp).on hb1)
      have Ko1 : Hid (Blok w1 (w.heap.size + 1) 28 #[.int .i64 ok, .int .i64 on, .int .i64 oN, .slice ad nd cd, .slice ap np cp]) := Lib.hid ((law2_o w k a n c ok on oN ad nd cd ap np cp).on hb1)
      clear hb1
      have qd0 : (w1).cell? ⟨w.heap.size, 0, none⟩ = some (.int .i64 k) := dk0 Kd1.out
      have qd1 : (w1).cell? ⟨w.heap.size, 1, none⟩ = some (.slice a n c) := dk1 Kd1.out
      have qo0 : (w1).cell? ⟨w.heap.size + 1, 0, none⟩ = some (.int .i64 ok) := ok0 Ko1.out
      have qo1 : (w1).cell? ⟨w.heap.size + 1, 1, none⟩ = some (.int .i64 on) := ok1 Ko1.out
      have qo2 : (w1).cell? ⟨w.heap.size + 1, 2, none⟩ = some (.int .i64 oN) := ok2 Ko1.out
      have qo3 : (w1).cell? ⟨w.heap.size + 1, 3, none⟩ = some (.slice ad nd cd) := ok3 Ko1.out
      have qo4 : (w1).cell? ⟨w.heap.size + 1, 4, none⟩ = some (.slice ap np cp) := ok4 Ko1.out
      go_wp2_with fail
      refine (few_any k a n c xs true _ (HD.out.below W1.out) HF.out).mono ?_
      rintro e w2 ⟨rfl, hb2⟩
      clear qd0 qd1 qo0 qo1 qo2 qo3 qo4
      have W2 := Lib.hid (W1.out.trans (hb2.mono W1.out.size))
      have Kd2 := Lib.hid (Kd1.out.on hb2)
      have Ko2 := Lib.hid (Ko1.out.on hb2)
      clear hb2
      have qd0 : (w2).cell? ⟨w.heap.size, 0, none⟩ = some (.int .i64 k) := dk0 Kd2.out
      have qd1 : (w2).cell? ⟨w.heap.size, 1, none⟩ = some (.slice a n c) := dk1 Kd2.out
      have qo0 : (w2).cell? ⟨w.heap.size + 1, 0, none⟩ = some (.int .i64 ok) := ok0 Ko2.out
      have qo1 : (w2).cell? ⟨w.heap.size + 1, 1, none⟩ = some (.int .i64 on) := ok1 Ko2.out
      have qo2 : (w2).cell? ⟨w.heap.size + 1, 2, none⟩ = some (.int .i64 oN) := ok2 Ko2.out
      have qo3 : (w2).cell? ⟨w.heap.size + 1, 3, none⟩ = some (.slice ad nd cd) := ok3 Ko2.out
      have qo4 : (w2).cell? ⟨w.heap.size + 1, 4, none⟩ = some (.slice ap np cp) := ok4 Ko2.out
      go_wp2_with fail
      refine (smallOp_any ok on oN ad nd cd ap np cp false _ HZ.out).mono ?_
      rintro e w3 ⟨rfl, hb3⟩
      clear qd0 qd1 qo0 qo1 qo2 qo3 qo4
      have W3 := Lib.hid (W2.out.trans (hb3.mono W2.out.size))
      have Kd3 := Lib.hid (Kd2.out.on hb3)
      have Ko3 := Lib.hid (Ko2.out.on hb3)
      clear hb3
      have qd0 : (w3).cell? ⟨w.heap.size, 0, none⟩ = some (.int .i64 k) := dk0 Kd3.out
      have qd1 : (w3).cell? ⟨w.heap.size, 1, none⟩ = some (.slice a n c) := dk1 Kd3.out
      have qo0 : (w3).cell? ⟨w.heap.size + 1, 0, none⟩ = some (.int .i64 ok) := ok0 Ko3.out
      have qo1 : (w3).cell? ⟨w.heap.size + 1, 1, none⟩ = some (.int .i64 on) := ok1 Ko3.out
      have qo2 : (w3).cell? ⟨w.heap.size + 1, 2, none⟩ = some (.int .i64 oN) := ok2 Ko3.out
      have qo3 : (w3).cell? ⟨w.heap.size + 1, 3, none⟩ = some (.slice ad nd cd) := ok3 Ko3.out
      have qo4 : (w3).cell? ⟨w.heap.size + 1, 4, none⟩ = some (.slice ap np cp) := ok4 Ko3.out
      go_wp2
      go_ret
      exact ⟨rfl, W3.out⟩
  · have HF := Lib.hid (decide_eq_false hf)
    have HZ := Lib.hid hz0
    clear hd ho hf hz0
    go_enter Try.func5, Try.ntmps5
    go_wp2_with fail
    refine (awake_any (obox (dbox w k a n c) ok on oN ad nd cd ap np cp)).mono ?_
    rintro e w1 ⟨rfl, hb1⟩
    have W1 := Lib.hid (HBX.out.trans (hb1.mono HBX.out.size))
    have Kd1 : Hid (Blok w1 (w.heap.size) 24 #[.int .i64 k, .slice a n c]) := Lib.hid ((law2_d w k a n c ok on oN ad nd cd ap np cp).on hb1)
    have Ko1 : Hid (Blok w1 (w.heap.size + 1) 28 #[.int .i64 ok, .int .i64 on, .int .i64 oN, .slice ad nd cd, .slice ap np cp]) := Lib.hid ((law2_o w k a n c ok on oN ad nd cd ap np cp).on hb1)
    clear hb1
    have qd0 : (w1).cell? ⟨w.heap.size, 0, none⟩ = some (.int .i64 k) := dk0 Kd1.out
    have qd1 : (w1).cell? ⟨w.heap.size, 1, none⟩ = some (.slice a n c) := dk1 Kd1.out
    have qo0 : (w1).cell? ⟨w.heap.size + 1, 0, none⟩ = some (.int .i64 ok) := ok0 Ko1.out
    have qo1 : (w1).cell? ⟨w.heap.size + 1, 1, none⟩ = some (.int .i64 on) := ok1 Ko1.out
    have qo2 : (w1).cell? ⟨w.heap.size + 1, 2, none⟩ = some (.int .i64 oN) := ok2 Ko1.out
    have qo3 : (w1).cell? ⟨w.heap.size + 1, 3, none⟩ = some (.slice ad nd cd) := ok3 Ko1.out
    have qo4 : (w1).cell? ⟨w.heap.size + 1, 4, none⟩ = some (.slice ap np cp) := ok4 Ko1.out
    go_wp2_with fail
    refine (few_any k a n c xs false _ (HD.out.below W1.out) HF.out).mono ?_
    rintro e w2 ⟨rfl, hb2⟩
    clear qd0 qd1 qo0 qo1 qo2 qo3 qo4
    have W2 := Lib.hid (W1.out.trans (hb2.mono W1.out.size))
    have Kd2 := Lib.hid (Kd1.out.on hb2)
    have Ko2 := Lib.hid (Ko1.out.on hb2)
    clear hb2
    have qd0 : (w2).cell? ⟨w.heap.size, 0, none⟩ = some (.int .i64 k) := dk0 Kd2.out
    have qd1 : (w2).cell? ⟨w.heap.size, 1, none⟩ = some (.slice a n c) := dk1 Kd2.out
    have qo0 : (w2).cell? ⟨w.heap.size + 1, 0, none⟩ = some (.int .i64 ok) := ok0 Ko2.out
    have qo1 : (w2).cell? ⟨w.heap.size + 1, 1, none⟩ = some (.int .i64 on) := ok1 Ko2.out
    have qo2 : (w2).cell? ⟨w.heap.size + 1, 2, none⟩ = some (.int .i64 oN) := ok2 Ko2.out
    have qo3 : (w2).cell? ⟨w.heap.size + 1, 3, none⟩ = some (.slice ad nd cd) := ok3 Ko2.out
    have qo4 : (w2).cell? ⟨w.heap.size + 1, 4, none⟩ = some (.slice ap np cp) := ok4 Ko2.out
    go_wp2_with fail
    refine (smallOp_any ok on oN ad nd cd ap np cp z0 _ HZ.out).mono ?_
    rintro e w3 ⟨rfl, hb3⟩
    clear qd0 qd1 qo0 qo1 qo2 qo3 qo4
    have W3 := Lib.hid (W2.out.trans (hb3.mono W2.out.size))
    have Kd3 := Lib.hid (Kd2.out.on hb3)
    have Ko3 := Lib.hid (Ko2.out.on hb3)
    clear hb3
    have qd0 : (w3).cell? ⟨w.heap.size, 0, none⟩ = some (.int .i64 k) := dk0 Kd3.out
    have qd1 : (w3).cell? ⟨w.heap.size, 1, none⟩ = some (.slice a n c) := dk1 Kd3.out
    have qo0 : (w3).cell? ⟨w.heap.size + 1, 0, none⟩ = some (.int .i64 ok) := ok0 Ko3.out
    have qo1 : (w3).cell? ⟨w.heap.size + 1, 1, none⟩ = some (.int .i64 on) := ok1 Ko3.out
    have qo2 : (w3).cell? ⟨w.heap.size + 1, 2, none⟩ = some (.int .i64 oN) := ok2 Ko3.out
    have qo3 : (w3).cell? ⟨w.heap.size + 1, 3, none⟩ = some (.slice ad nd cd) := ok3 Ko3.out
    have qo4 : (w3).cell? ⟨w.heap.size + 1, 4, none⟩ = some (.slice ap np cp) := ok4 Ko3.out
    go_wp2
    go_ret
    exact ⟨rfl, W3.out⟩
end Go.Proofs.Ytcabhibbajkpkaa
