/-
  Walk of moorings/mooringslaw06.DiskRoom: for every input it returns true.
-/
import Derived.Test.YtcabhibbajkpkaaDLawBase
import Derived.Test.YtcabhibbajkpkaaDRefMay
namespace Go.Proofs.Ytcabhibbajkpkaa
open Go.RowKit

set_option maxRecDepth 100000 in
set_option maxHeartbeats 2000000 in
theorem room_in (k : Int) (a : Option Addr) (n c : Nat) (no : Int) (ab : Option Addr) (mb cb : Nat) (bb : List Int) (xs : List FP) (w : World) (hd : DiskIn w a n c xs) (hbl : bb.length = mb) (hbr : RowIn .u8 w ab cb bb) (hbz : ab = none → mb = 0 ∧ cb = 0) :
    Calls Try.prog 9 #[.agg #[.int .i64 k, .slice a n c], .int .i64 no, .slice ab mb cb] w fun e w' => e = .returned (.bool true) ∧ Below w.heap.size w w' := by
  have HBX : Hid (Below w.heap.size w (dbox w k a n c)) := Lib.hid (dbox_below w k a n c)
  have HD := Lib.hid hd
  have HBL := Lib.hid hbl
  have HBR := Lib.hid hbr
  have HBZ := Lib.hid hbz
  by_cases hf : D.few (FP.files xs)
  · by_cases h3 : 3000 < mb
    · have HF := Lib.hid (decide_eq_true hf)
      have d3 : decide ((3000 : Int) < (mb : Int)) = true := by simp; omega
      clear hd hbl hbr hbz hf h3
      go_enter Try.func9, Try.ntmps9
      go_wp2_with fail
      refine (awake_any (dbox w k a n c)).mono ?_
      rintro e w1 ⟨rfl, hb1⟩
      have W1 := Lib.hid (HBX.out.trans (hb1.mono HBX.out.size))
      have Kd1 : Hid (Blok w1 (w.heap.size) 24 #[.int .i64 k, .slice a n c]) := Lib.hid ((dbox_blok w k a n c).on hb1)
      clear hb1
      have qd0 : (w1).cell? ⟨w.heap.size, 0, none⟩ = some (.int .i64 k) := dk0 Kd1.out
      have qd1 : (w1).cell? ⟨w.heap.size, 1, none⟩ = some (.slice a n c) := dk1 Kd1.out
      go_wp2_with fail
      refine (few_any k a n c xs true _ (HD.out.below W1.out) HF.out).mono ?_
      rintro e w2 ⟨rfl, hb2⟩
      clear qd0 qd1
      have W2 := Lib.hid (W1.out.trans (hb2.mono W1.out.size))
      have Kd2 := Lib.hid (Kd1.out.on hb2)
      clear hb2
      have qd0 : (w2).cell? ⟨w.heap.size, 0, none⟩ = some (.int .i64 k) := dk0 Kd2.out
      have qd1 : (w2).cell? ⟨w.heap.size, 1, none⟩ = some (.slice a n c) := dk1 Kd2.out
      go_wp2
      go_ret
      exact ⟨rfl, W2.out⟩
    · by_cases hm : D.may (k, FP.files xs)
      · by_cases hi : D.find (k, FP.files xs) no < 0
        · have HF := Lib.hid (decide_eq_true hf)
          have d3 : decide ((3000 : Int) < (mb : Int)) = false := by simp; omega
          obtain ⟨fn, hfn⟩ : ∃ f, D.find (k, FP.files xs) no = f := ⟨_, rfl⟩
          have HFN := Lib.hid hfn
          have HM := Lib.hid (decide_eq_true hm)
          have d4 : decide (fn < 0) = true := by rw [← hfn]; simpa using hi
          clear hd hbl hbr hbz hf h3 hm hi hfn
          go_enter Try.func9, Try.ntmps9
          go_wp2_with fail
          refine (awake_any (dbox w k a n c)).mono ?_
          rintro e w1 ⟨rfl, hb1⟩
          have W1 := Lib.hid (HBX.out.trans (hb1.mono HBX.out.size))
          have Kd1 : Hid (Blok w1 (w.heap.size) 24 #[.int .i64 k, .slice a n c]) := Lib.hid ((dbox_blok w k a n c).on hb1)
          clear hb1
          have qd0 : (w1).cell? ⟨w.heap.size, 0, none⟩ = some (.int .i64 k) := dk0 Kd1.out
          have qd1 : (w1).cell? ⟨w.heap.size, 1, none⟩ = some (.slice a n c) := dk1 Kd1.out
          go_wp2_with fail
          refine (few_any k a n c xs true _ (HD.out.below W1.out) HF.out).mono ?_
          rintro e w2 ⟨rfl, hb2⟩
          clear qd0 qd1
          have W2 := Lib.hid (W1.out.trans (hb2.mono W1.out.size))
          have Kd2 := Lib.hid (Kd1.out.on hb2)
          clear hb2
          have qd0 : (w2).cell? ⟨w.heap.size, 0, none⟩ = some (.int .i64 k) := dk0 Kd2.out
          have qd1 : (w2).cell? ⟨w.heap.size, 1, none⟩ = some (.slice a n c) := dk1 Kd2.out
          go_wp2_with fail
          refine (may_any k a n c xs true _ (HD.out.below W2.out) HM.out).mono ?_
          rintro e w3 ⟨rfl, hb3⟩
          clear qd0 qd1
          have W3 := Lib.hid (W2.out.trans (hb3.mono W2.out.size))
          have Kd3 := Lib.hid (Kd2.out.on hb3)
          clear hb3
          have qd0 : (w3).cell? ⟨w.heap.size, 0, none⟩ = some (.int .i64 k) := dk0 Kd3.out
          have qd1 : (w3).cell? ⟨w.heap.size, 1, none⟩ = some (.slice a n c) := dk1 Kd3.out
          go_wp2_with fail
          refine (find_any k a n c no xs fn _ (HD.out.below W3.out) HFN.out).mono ?_
          rintro e w4 ⟨rfl, hb4⟩
          clear qd0 qd1
          have W4 := Lib.hid (W3.out.trans (hb4.mono W3.out.size))
          have Kd4 := Lib.hid (Kd3.out.on hb4)
          clear hb4
          have qd0 : (w4).cell? ⟨w.heap.size, 0, none⟩ = some (.int .i64 k) := dk0 Kd4.out
          have qd1 : (w4).cell? ⟨w.heap.size, 1, none⟩ = some (.slice a n c) := dk1 Kd4.out
          go_wp2
          go_ret
          exact ⟨rfl, W4.out⟩
        · have HF := Lib.hid (decide_eq_true hf)
          have d3 : decide ((3000 : Int) < (mb : Int)) = false := by simp; omega
          obtain ⟨fn, hfn⟩ : ∃ f, D.find (k, FP.files xs) no = f := ⟨_, rfl⟩
          have HFN := Lib.hid hfn
          have HM := Lib.hid (decide_eq_true hm)
          have HSM := Lib.hid hf.small
          have d4 : decide (fn < 0) = false := by rw [← hfn]; simpa using hi
          obtain ⟨j, hj⟩ : ∃ j, D.idx (FP.files xs) no = some j := by
            rcases D.find_of (no := no) hm with ⟨i, h1, _⟩ | ⟨_, h2⟩
            · exact ⟨i, h1⟩
            · rw [h2] at hi; exact absurd (by decide) hi
          obtain ⟨u, hu⟩ : ∃ u : Nat, D.used (FP.files xs) = u := ⟨_, rfl⟩
          have HUU : Hid ((if D.may (k, FP.files xs) then (D.used (FP.files xs) : Int) else 0) = (u : Int)) := Lib.hid (by rw [if_pos hm, hu])
          have hub : u ≤ 1000000 := by have h1 := D.used_small _ hf.small.2; have h2 := hf.1; omega
          have hmb : mb ≤ 3000 := by omega
          have hwr : IntKind.i64.wrap ((u : Int) + (mb : Int)) = (u : Int) + (mb : Int) := wrap_i64_small (by omega) (by omega)
          have hmw : D.may (D.write (k, FP.files xs) no bb).1 := by have h := (D.op_may 1 no 0 bb [] (k, FP.files xs)).2 hm; simpa [D.op] using h
          obtain ⟨⟨⟨q, l0⟩, e0⟩, hq⟩ : ∃ r, D.write (k, FP.files xs) no bb = r := ⟨_, rfl⟩
          have hqk : q = k := by have h1 := D.write_cap (k, FP.files xs) no bb; rw [hq] at h1; exact h1
          subst hqk
          rw [hq] at hmw
          have HM2 := Lib.hid (decide_eq_true hmw)
          have HQ := Lib.hid hq
          have HSL : Hid (D.small l0) := Lib.hid (by
            have h1 := hmw.1.2.2
            have h2 := hmw.2.2.2
            have h3 := hmw.1.2.1
            simp only at h1 h2 h3
            refine ⟨by omega, fun f hf => ?_⟩
            have h4 : f.2.1.length ≤ D.used l0 := by
              obtain ⟨s, t, rfl⟩ := List.append_of_mem hf
              rw [D.used_append, D.used_cons]; omega
            omega)
          have hee : e0 = if q < ((u + mb : Nat) : Int) then 9 else 0 := by
            by_cases h : q < ((u + mb : Nat) : Int)
            · rw [if_pos h]
              have h2 : D.write (q, FP.files xs) no bb = ((q, FP.files xs), 9) := by
                unfold D.write
                exact D.upd_err hm hj rfl (if_pos (by rw [hu, hbl]; exact h)) (by decide)
              rw [h2] at hq
              exact (congrArg Prod.snd hq).symm
            · rw [if_neg h]
              have h2 := D.upd_ok (d := (q, FP.files xs)) (no := no) (g := fun f => if q < ((D.used (FP.files xs) + bb.length : Nat) : Int) then (9, f) else (0, f.1, f.2.1 ++ bb, f.2.2)) hm hj rfl (if_neg (by rw [hu, hbl]; exact h))
              have h3 := hq
              unfold D.write at h3
              simp only at h3 h2
              rw [h2] at h3
              exact (congrArg Prod.snd h3).symm
          clear hd hbl hbr hbz hf hi hfn hj hu hmw hq h3
          by_cases hfull : q < ((u + mb : Nat) : Int)
          · have he : e0 = 9 := by rw [hee, if_pos hfull]
            subst he
            have dk : decide (q < (u : Int) + (mb : Int)) = true := by simp; omega
            clear hee hfull hm
            go_enter Try.func9, Try.ntmps9
            go_wp2_with fail
            refine (awake_any (dbox w q a n c)).mono ?_
            rintro e w1 ⟨rfl, hb1⟩
            have W1 := Lib.hid (HBX.out.trans (hb1.mono HBX.out.size))
            have Kd1 : Hid (Blok w1 (w.heap.size) 24 #[.int .i64 q, .slice a n c]) := Lib.hid ((dbox_blok w q a n c).on hb1)
            clear hb1
            have qd0 : (w1).cell? ⟨w.heap.size, 0, none⟩ = some (.int .i64 q) := dk0 Kd1.out
            have qd1 : (w1).cell? ⟨w.heap.size, 1, none⟩ = some (.slice a n c) := dk1 Kd1.out
            go_wp2_with fail
            refine (few_any q a n c xs true _ (HD.out.below W1.out) HF.out).mono ?_
            rintro e w2 ⟨rfl, hb2⟩
            clear qd0 qd1
            have W2 := Lib.hid (W1.out.trans (hb2.mono W1.out.size))
            have Kd2 := Lib.hid (Kd1.out.on hb2)
            clear hb2
            have qd0 : (w2).cell? ⟨w.heap.size, 0, none⟩ = some (.int .i64 q) := dk0 Kd2.out
            have qd1 : (w2).cell? ⟨w.heap.size, 1, none⟩ = some (.slice a n c) := dk1 Kd2.out
            go_wp2_with fail
            refine (may_any q a n c xs true _ (HD.out.below W2.out) HM.out).mono ?_
            rintro e w3 ⟨rfl, hb3⟩
            clear qd0 qd1
            have W3 := Lib.hid (W2.out.trans (hb3.mono W2.out.size))
            have Kd3 := Lib.hid (Kd2.out.on hb3)
            clear hb3
            have qd0 : (w3).cell? ⟨w.heap.size, 0, none⟩ = some (.int .i64 q) := dk0 Kd3.out
            have qd1 : (w3).cell? ⟨w.heap.size, 1, none⟩ = some (.slice a n c) := dk1 Kd3.out
            go_wp2_with fail
            refine (find_any q a n c no xs fn _ (HD.out.below W3.out) HFN.out).mono ?_
            rintro e w4 ⟨rfl, hb4⟩
            clear qd0 qd1
            have W4 := Lib.hid (W3.out.trans (hb4.mono W3.out.size))
            have Kd4 := Lib.hid (Kd3.out.on hb4)
            clear hb4
            have qd0 : (w4).cell? ⟨w.heap.size, 0, none⟩ = some (.int .i64 q) := dk0 Kd4.out
            have qd1 : (w4).cell? ⟨w.heap.size, 1, none⟩ = some (.slice a n c) := dk1 Kd4.out
            go_wp2_with fail
            refine (write_any q a n c no ab mb cb bb xs _ (HD.out.below W4.out) HSM.out HBL.out (HBR.out.below W4.out) HBZ.out).mono ?_
            rw [HQ.out]
            rintro e w5 ⟨a5, n5, c5, ya, rfl, HE5, HYA, _, hb5⟩
            clear qd0 qd1
            have hx5 := dbox_below w5 q a5 n5 c5
            have W5 := Lib.hid ((W4.out.trans (hb5.mono W4.out.size)).trans (hx5.mono (W4.out.trans (hb5.mono W4.out.size)).size))
            have Pd5 := Kd4.out.on hb5
            have Kd5 := Lib.hid (Pd5.on hx5)
            have HDx5 := Lib.hid (HE5.out.below hx5)
            have Kx5 := Lib.hid (dbox_blok w5 q a5 n5 c5)
            have qd0 : ∀ o, (w5.alloc o).cell? ⟨w.heap.size, 0, none⟩ = some (.int .i64 q) := fun o => dk0 (Pd5.alloc o)
            have qd1 : ∀ o, (w5.alloc o).cell? ⟨w.heap.size, 1, none⟩ = some (.slice a n c) := fun o => dk1 (Pd5.alloc o)
            clear hb5 hx5 Pd5
            go_wp2_with fail
            refine (refMay_any q a5 n5 c5 ya true _ HDx5.out (by rw [HYA.out]; exact HSL.out) (by rw [HYA.out]; exact HM2.out)).mono ?_
            rintro e w6 ⟨rfl, hb6⟩
            clear qd0 qd1
            have W6 := Lib.hid (W5.out.trans (hb6.mono W5.out.size))
            have Kd6 := Lib.hid (Kd5.out.on hb6)
            have Kx6 := Lib.hid (Kx5.out.on hb6)
            have HDx6 := Lib.hid (HDx5.out.below hb6)
            clear hb6
            have qd0 : (w6).cell? ⟨w.heap.size, 0, none⟩ = some (.int .i64 q) := dk0 Kd6.out
            have qd1 : (w6).cell? ⟨w.heap.size, 1, none⟩ = some (.slice a n c) := dk1 Kd6.out
            have qx0 : (w6).cell? ⟨w5.heap.size, 0, none⟩ = some (.int .i64 q) := dk0 Kx6.out
            have qx1 : (w6).cell? ⟨w5.heap.size, 1, none⟩ = some (.slice a5 n5 c5) := dk1 Kx6.out
            go_wp2_with fail
            refine wp_region_held (S := fun w' => Below (w6).heap.size (w6) w') (by kernel_rfl) ?_
            change wpAnyH _ _ _ _ _ _ _ _ (World.drew (w6))
            have HS0 : (fun w' => Below (w6).heap.size (w6) w') (World.drew (w6)) := below_drew _
            refine wpAnyH_take (i := 0) (v := (.bool true)) rfl (by kernel_rfl) (by kernel_rfl) (by kernel_rfl) (fun _ _ _ h => h) (.inl ⟨by kernel_rfl, fun w9 hS => by kernel_rfl⟩) HS0 ?_
            refine wpAnyH_take (i := 1) (v := (.bool true)) rfl (by kernel_rfl) (by kernel_rfl) (by kernel_rfl) (fun _ _ _ h => h) (.inl ⟨by kernel_rfl, fun w9 hS => by kernel_rfl⟩) HS0 ?_
            refine wpAnyH_take (i := 2) (v := (.int .i64 9)) rfl (by kernel_rfl) (by kernel_rfl) (by kernel_rfl) (fun _ _ _ h => h) (.inl ⟨by kernel_rfl, fun w9 hS => by kernel_rfl⟩) HS0 ?_
            refine wpAnyH_take (i := 3) (v := (.bool true)) rfl (by kernel_rfl) (by kernel_rfl) (by kernel_rfl) (fun _ _ _ h => h) (.inl ⟨by kernel_rfl, fun w9 hS => by kernel_rfl⟩) HS0 ?_
            refine wpAnyH_take (i := 4) (v := (.agg #[.int .i64 q, .slice a n c])) rfl (by kernel_rfl) (by kernel_rfl) (by kernel_rfl) (fun _ _ _ h => h) (.inl ⟨by kernel_rfl, fun w9 hS => by have c0 := dk0 (Kd6.out.on hS); have c1 := dk1 (Kd6.out.on hS); go_simp⟩) HS0 ?_
            refine wpAnyH_take (i := 6) (v := (.slice ab mb cb)) rfl (by kernel_rfl) (by kernel_rfl) (by kernel_rfl) (fun _ _ _ h => h) (.inl ⟨by kernel_rfl, fun w9 hS => by kernel_rfl⟩) HS0 ?_
            refine wpAnyH_take (i := 7) (v := (.int .i64 (mb : Int))) rfl (by kernel_rfl) (by kernel_rfl) (by kernel_rfl) (fun _ _ _ h => h) (.inl ⟨by kernel_rfl, fun w9 hS => by kernel_rfl⟩) HS0 ?_
            refine wpAnyH_take (i := 9) (v := (.pointer (some ⟨w.heap.size, 0, none⟩))) rfl (by kernel_rfl) (by kernel_rfl) (by kernel_rfl) (fun _ _ _ h => h) (.inl ⟨by kernel_rfl, fun w9 hS => by kernel_rfl⟩) HS0 ?_
            refine wpAnyH_take (i := 10) (v := (.int .i64 q)) rfl (by kernel_rfl) (by kernel_rfl) (by kernel_rfl) (fun _ _ _ h => h) (.inl ⟨by kernel_rfl, fun w9 hS => by have c := dk0 (Kd6.out.on hS); go_simp⟩) HS0 ?_
            refine wpAnyH_call (i := 5) (f := 23) (args := #[.agg #[.int .i64 q, .slice a n c]]) (by kernel_rfl) rfl (by kernel_rfl) (by kernel_rfl) (used_any q a n c xs (u : Int) _ (HD.out.below (Below.trans W6.out (Below.mono HS0 W6.out.size))) HUU.out) ?_
            rintro e wz1 ⟨rfl, hbwz1⟩
            have HS1 : (fun w' => Below (w6).heap.size (w6) w') wz1 := Below.trans HS0 (hbwz1.mono (Below.size HS0))
            refine ⟨_, rfl, HS1, ?_⟩
            refine wpAnyH_take (i := 8) (v := (.int .i64 ((u : Int) + (mb : Int)))) rfl (by kernel_rfl) (by kernel_rfl) (by kernel_rfl) (fun _ _ _ h => h) (.inl ⟨by kernel_rfl, fun w9 hS => (show _ = Result.ok (.value (.int .i64 (IntKind.i64.wrap ((u : Int) + (mb : Int))))) w9 by kernel_rfl).trans (by rw [hwr])⟩) HS1 ?_
            refine wpAnyH_take (i := 11) (v := (.bool true)) rfl (by kernel_rfl) (by kernel_rfl) (by kernel_rfl) (fun _ _ _ h => h) (.inl ⟨by kernel_rfl, fun w9 hS => (show _ = Result.ok (.value (.bool (decide (q < (u : Int) + (mb : Int))))) w9 by kernel_rfl).trans (by rw [dk])⟩) HS1 ?_
            refine wpAnyH_take (i := 12) (v := (.bool true)) rfl (by kernel_rfl) (by kernel_rfl) (by kernel_rfl) (fun _ _ _ h => h) (.inl ⟨by kernel_rfl, fun w9 hS => by kernel_rfl⟩) HS1 ?_
            refine wpAnyH_take (i := 13) (v := (.bool true)) rfl (by kernel_rfl) (by kernel_rfl) (by kernel_rfl) (fun _ _ _ h => h) (.inl ⟨by kernel_rfl, fun w9 hS => by kernel_rfl⟩) HS1 ?_
            refine wpAnyH_take (i := 14) (v := (.bool true)) rfl (by kernel_rfl) (by kernel_rfl) (by kernel_rfl) (fun _ _ _ h => h) (.inl ⟨by kernel_rfl, fun w9 hS => by kernel_rfl⟩) HS1 ?_
            refine wpAnyH_take (i := 15) (v := (.int .i64 9)) rfl (by kernel_rfl) (by kernel_rfl) (by kernel_rfl) (fun _ _ _ h => h) (.inl ⟨by kernel_rfl, fun w9 hS => by kernel_rfl⟩) HS1 ?_
            refine wpAnyH_take (i := 16) (v := (.bool false)) rfl (by kernel_rfl) (by kernel_rfl) (by kernel_rfl) (fun _ _ _ h => h) (.inl ⟨by kernel_rfl, fun w9 hS => by kernel_rfl⟩) HS1 ?_
            refine wpAnyH_take (i := 17) (v := (.bool false)) rfl (by kernel_rfl) (by kernel_rfl) (by kernel_rfl) (fun _ _ _ h => h) (.inl ⟨by kernel_rfl, fun w9 hS => by kernel_rfl⟩) HS1 ?_
            refine wpAnyH_take (i := 18) (v := (.int .i64 9)) rfl (by kernel_rfl) (by kernel_rfl) (by kernel_rfl) (fun _ _ _ h => h) (.inl ⟨by kernel_rfl, fun w9 hS => by kernel_rfl⟩) HS1 ?_
            refine wpAnyH_take (i := 19) (v := (.bool true)) rfl (by kernel_rfl) (by kernel_rfl) (by kernel_rfl) (fun _ _ _ h => h) (.inl ⟨by kernel_rfl, fun w9 hS => by kernel_rfl⟩) HS1 ?_
            refine wpAnyH_take (i := 20) (v := (.bool true)) rfl (by kernel_rfl) (by kernel_rfl) (by kernel_rfl) (fun _ _ _ h => h) (.inl ⟨by kernel_rfl, fun w9 hS => by kernel_rfl⟩) HS1 ?_
            refine wpAnyH_take (i := 21) (v := (.bool true)) rfl (by kernel_rfl) (by kernel_rfl) (by kernel_rfl) (fun _ _ _ h => h) (.inl ⟨by kernel_rfl, fun w9 hS => by kernel_rfl⟩) HS1 ?_
            refine wpAnyH_take (i := 22) (v := (.bool true)) rfl (by kernel_rfl) (by kernel_rfl) (by kernel_rfl) (fun _ _ _ h => h) (.inl ⟨by kernel_rfl, fun w9 hS => by kernel_rfl⟩) HS1 ?_
            refine wpAnyH_done (by kernel_rfl) ?_ _
            simp only [List.getElem_toArray, List.getElem_cons_succ, List.getElem_cons_zero, put_some, List.setIfInBounds_toArray, List.set_cons_succ, List.set_cons_zero]
            clear qd0 qd1 qx0 qx1
            have W7 := Lib.hid (W6.out.trans (Below.mono HS1 W6.out.size))
            have Kd7 := Lib.hid (Kd6.out.on HS1)
            have Kx7 := Lib.hid (Kx6.out.on HS1)
            have HDx7 := Lib.hid (HDx6.out.below HS1)
            go_wp2
            go_ret
            exact ⟨rfl, W7.out⟩
          · have he : e0 = 0 := by rw [hee, if_neg hfull]
            subst he
            have dk : decide (q < (u : Int) + (mb : Int)) = false := by simp; omega
            clear hee hfull hm
            go_enter Try.func9, Try.ntmps9
            go_wp2_with fail
            refine (awake_any (dbox w q a n c)).mono ?_
            rintro e w1 ⟨rfl, hb1⟩
            have W1 := Lib.hid (HBX.out.trans (hb1.mono HBX.out.size))
            have Kd1 : Hid (Blok w1 (w.heap.size) 24 #[.int .i64 q, .slice a n c]) := Lib.hid ((dbox_blok w q a n c).on hb1)
            clear hb1
            have qd0 : (w1).cell? ⟨w.heap.size, 0, none⟩ = some (.int .i64 q) := dk0 Kd1.out
            have qd1 : (w1).cell? ⟨w.heap.size, 1, none⟩ = some (.slice a n c) := dk1 Kd1.out
            go_wp2_with fail
            refine (few_any q a n c xs true _ (HD.out.below W1.out) HF.out).mono ?_
            rintro e w2 ⟨rfl, hb2⟩
            clear qd0 qd1
            have W2 := Lib.hid (W1.out.trans (hb2.mono W1.out.size))
            have Kd2 := Lib.hid (Kd1.out.on hb2)
            clear hb2
            have qd0 : (w2).cell? ⟨w.heap.size, 0, none⟩ = some (.int .i64 q) := dk0 Kd2.out
            have qd1 : (w2).cell? ⟨w.heap.size, 1, none⟩ = some (.slice a n c) := dk1 Kd2.out
            go_wp2_with fail
            refine (may_any q a n c xs true _ (HD.out.below W2.out) HM.out).mono ?_
            rintro e w3 ⟨rfl, hb3⟩
            clear qd0 qd1
            have W3 := Lib.hid (W2.out.trans (hb3.mono W2.out.size))
            have Kd3 := Lib.hid (Kd2.out.on hb3)
            clear hb3
            have qd0 : (w3).cell? ⟨w.heap.size, 0, none⟩ = some (.int .i64 q) := dk0 Kd3.out
            have qd1 : (w3).cell? ⟨w.heap.size, 1, none⟩ = some (.slice a n c) := dk1 Kd3.out
            go_wp2_with fail
            refine (find_any q a n c no xs fn _ (HD.out.below W3.out) HFN.out).mono ?_
            rintro e w4 ⟨rfl, hb4⟩
            clear qd0 qd1
            have W4 := Lib.hid (W3.out.trans (hb4.mono W3.out.size))
            have Kd4 := Lib.hid (Kd3.out.on hb4)
            clear hb4
            have qd0 : (w4).cell? ⟨w.heap.size, 0, none⟩ = some (.int .i64 q) := dk0 Kd4.out
            have qd1 : (w4).cell? ⟨w.heap.size, 1, none⟩ = some (.slice a n c) := dk1 Kd4.out
            go_wp2_with fail
            refine (write_any q a n c no ab mb cb bb xs _ (HD.out.below W4.out) HSM.out HBL.out (HBR.out.below W4.out) HBZ.out).mono ?_
            rw [HQ.out]
            rintro e w5 ⟨a5, n5, c5, ya, rfl, HE5, HYA, _, hb5⟩
            clear qd0 qd1
            have hx5 := dbox_below w5 q a5 n5 c5
            have W5 := Lib.hid ((W4.out.trans (hb5.mono W4.out.size)).trans (hx5.mono (W4.out.trans (hb5.mono W4.out.size)).size))
            have Pd5 := Kd4.out.on hb5
            have Kd5 := Lib.hid (Pd5.on hx5)
            have HDx5 := Lib.hid (HE5.out.below hx5)
            have Kx5 := Lib.hid (dbox_blok w5 q a5 n5 c5)
            have qd0 : ∀ o, (w5.alloc o).cell? ⟨w.heap.size, 0, none⟩ = some (.int .i64 q) := fun o => dk0 (Pd5.alloc o)
            have qd1 : ∀ o, (w5.alloc o).cell? ⟨w.heap.size, 1, none⟩ = some (.slice a n c) := fun o => dk1 (Pd5.alloc o)
            clear hb5 hx5 Pd5
            go_wp2_with fail
            refine (refMay_any q a5 n5 c5 ya true _ HDx5.out (by rw [HYA.out]; exact HSL.out) (by rw [HYA.out]; exact HM2.out)).mono ?_
            rintro e w6 ⟨rfl, hb6⟩
            clear qd0 qd1
            have W6 := Lib.hid (W5.out.trans (hb6.mono W5.out.size))
            have Kd6 := Lib.hid (Kd5.out.on hb6)
            have Kx6 := Lib.hid (Kx5.out.on hb6)
            have HDx6 := Lib.hid (HDx5.out.below hb6)
            clear hb6
            have qd0 : (w6).cell? ⟨w.heap.size, 0, none⟩ = some (.int .i64 q) := dk0 Kd6.out
            have qd1 : (w6).cell? ⟨w.heap.size, 1, none⟩ = some (.slice a n c) := dk1 Kd6.out
            have qx0 : (w6).cell? ⟨w5.heap.size, 0, none⟩ = some (.int .i64 q) := dk0 Kx6.out
            have qx1 : (w6).cell? ⟨w5.heap.size, 1, none⟩ = some (.slice a5 n5 c5) := dk1 Kx6.out
            go_wp2_with fail
            refine wp_region_held (S := fun w' => Below (w6).heap.size (w6) w') (by kernel_rfl) ?_
            change wpAnyH _ _ _ _ _ _ _ _ (World.drew (w6))
            have HS0 : (fun w' => Below (w6).heap.size (w6) w') (World.drew (w6)) := below_drew _
            refine wpAnyH_take (i := 0) (v := (.bool true)) rfl (by kernel_rfl) (by kernel_rfl) (by kernel_rfl) (fun _ _ _ h => h) (.inl ⟨by kernel_rfl, fun w9 hS => by kernel_rfl⟩) HS0 ?_
            refine wpAnyH_take (i := 1) (v := (.bool true)) rfl (by kernel_rfl) (by kernel_rfl) (by kernel_rfl) (fun _ _ _ h => h) (.inl ⟨by kernel_rfl, fun w9 hS => by kernel_rfl⟩) HS0 ?_
            refine wpAnyH_take (i := 2) (v := (.int .i64 0)) rfl (by kernel_rfl) (by kernel_rfl) (by kernel_rfl) (fun _ _ _ h => h) (.inl ⟨by kernel_rfl, fun w9 hS => by kernel_rfl⟩) HS0 ?_
            refine wpAnyH_take (i := 3) (v := (.bool false)) rfl (by kernel_rfl) (by kernel_rfl) (by kernel_rfl) (fun _ _ _ h => h) (.inl ⟨by kernel_rfl, fun w9 hS => by kernel_rfl⟩) HS0 ?_
            refine wpAnyH_take (i := 4) (v := (.agg #[.int .i64 q, .slice a n c])) rfl (by kernel_rfl) (by kernel_rfl) (by kernel_rfl) (fun _ _ _ h => h) (.inl ⟨by kernel_rfl, fun w9 hS => by have c0 := dk0 (Kd6.out.on hS); have c1 := dk1 (Kd6.out.on hS); go_simp⟩) HS0 ?_
            refine wpAnyH_take (i := 6) (v := (.slice ab mb cb)) rfl (by kernel_rfl) (by kernel_rfl) (by kernel_rfl) (fun _ _ _ h => h) (.inl ⟨by kernel_rfl, fun w9 hS => by kernel_rfl⟩) HS0 ?_
            refine wpAnyH_take (i := 7) (v := (.int .i64 (mb : Int))) rfl (by kernel_rfl) (by kernel_rfl) (by kernel_rfl) (fun _ _ _ h => h) (.inl ⟨by kernel_rfl, fun w9 hS => by kernel_rfl⟩) HS0 ?_
            refine wpAnyH_take (i := 9) (v := (.pointer (some ⟨w.heap.size, 0, none⟩))) rfl (by kernel_rfl) (by kernel_rfl) (by kernel_rfl) (fun _ _ _ h => h) (.inl ⟨by kernel_rfl, fun w9 hS => by kernel_rfl⟩) HS0 ?_
            refine wpAnyH_take (i := 10) (v := (.int .i64 q)) rfl (by kernel_rfl) (by kernel_rfl) (by kernel_rfl) (fun _ _ _ h => h) (.inl ⟨by kernel_rfl, fun w9 hS => by have c := dk0 (Kd6.out.on hS); go_simp⟩) HS0 ?_
            refine wpAnyH_call (i := 5) (f := 23) (args := #[.agg #[.int .i64 q, .slice a n c]]) (by kernel_rfl) rfl (by kernel_rfl) (by kernel_rfl) (used_any q a n c xs (u : Int) _ (HD.out.below (Below.trans W6.out (Below.mono HS0 W6.out.size))) HUU.out) ?_
            rintro e wz1 ⟨rfl, hbwz1⟩
            have HS1 : (fun w' => Below (w6).heap.size (w6) w') wz1 := Below.trans HS0 (hbwz1.mono (Below.size HS0))
            refine ⟨_, rfl, HS1, ?_⟩
            refine wpAnyH_take (i := 8) (v := (.int .i64 ((u : Int) + (mb : Int)))) rfl (by kernel_rfl) (by kernel_rfl) (by kernel_rfl) (fun _ _ _ h => h) (.inl ⟨by kernel_rfl, fun w9 hS => (show _ = Result.ok (.value (.int .i64 (IntKind.i64.wrap ((u : Int) + (mb : Int))))) w9 by kernel_rfl).trans (by rw [hwr])⟩) HS1 ?_
            refine wpAnyH_take (i := 11) (v := (.bool false)) rfl (by kernel_rfl) (by kernel_rfl) (by kernel_rfl) (fun _ _ _ h => h) (.inl ⟨by kernel_rfl, fun w9 hS => (show _ = Result.ok (.value (.bool (decide (q < (u : Int) + (mb : Int))))) w9 by kernel_rfl).trans (by rw [dk])⟩) HS1 ?_
            refine wpAnyH_take (i := 12) (v := (.bool true)) rfl (by kernel_rfl) (by kernel_rfl) (by kernel_rfl) (fun _ _ _ h => h) (.inl ⟨by kernel_rfl, fun w9 hS => by kernel_rfl⟩) HS1 ?_
            refine wpAnyH_take (i := 13) (v := (.bool true)) rfl (by kernel_rfl) (by kernel_rfl) (by kernel_rfl) (fun _ _ _ h => h) (.inl ⟨by kernel_rfl, fun w9 hS => by kernel_rfl⟩) HS1 ?_
            refine wpAnyH_take (i := 14) (v := (.bool true)) rfl (by kernel_rfl) (by kernel_rfl) (by kernel_rfl) (fun _ _ _ h => h) (.inl ⟨by kernel_rfl, fun w9 hS => by kernel_rfl⟩) HS1 ?_
            refine wpAnyH_take (i := 15) (v := (.int .i64 0)) rfl (by kernel_rfl) (by kernel_rfl) (by kernel_rfl) (fun _ _ _ h => h) (.inl ⟨by kernel_rfl, fun w9 hS => by kernel_rfl⟩) HS1 ?_
            refine wpAnyH_take (i := 16) (v := (.bool true)) rfl (by kernel_rfl) (by kernel_rfl) (by kernel_rfl) (fun _ _ _ h => h) (.inl ⟨by kernel_rfl, fun w9 hS => by kernel_rfl⟩) HS1 ?_
            refine wpAnyH_take (i := 17) (v := (.bool true)) rfl (by kernel_rfl) (by kernel_rfl) (by kernel_rfl) (fun _ _ _ h => h) (.inl ⟨by kernel_rfl, fun w9 hS => by kernel_rfl⟩) HS1 ?_
            refine wpAnyH_take (i := 18) (v := undef) rfl (by kernel_rfl) (by kernel_rfl) (by kernel_rfl) (fun _ _ _ h => h) (.inr ⟨by kernel_rfl, rfl⟩) HS1 ?_
            refine wpAnyH_take (i := 19) (v := undef) rfl (by kernel_rfl) (by kernel_rfl) (by kernel_rfl) (fun _ _ _ h => h) (.inr ⟨by kernel_rfl, rfl⟩) HS1 ?_
            refine wpAnyH_take (i := 20) (v := (.bool true)) rfl (by kernel_rfl) (by kernel_rfl) (by kernel_rfl) (fun _ _ _ h => h) (.inl ⟨by kernel_rfl, fun w9 hS => by kernel_rfl⟩) HS1 ?_
            refine wpAnyH_take (i := 21) (v := (.bool true)) rfl (by kernel_rfl) (by kernel_rfl) (by kernel_rfl) (fun _ _ _ h => h) (.inl ⟨by kernel_rfl, fun w9 hS => by kernel_rfl⟩) HS1 ?_
            refine wpAnyH_take (i := 22) (v := (.bool true)) rfl (by kernel_rfl) (by kernel_rfl) (by kernel_rfl) (fun _ _ _ h => h) (.inl ⟨by kernel_rfl, fun w9 hS => by kernel_rfl⟩) HS1 ?_
            refine wpAnyH_done (by kernel_rfl) ?_ _
            simp only [List.getElem_toArray, List.getElem_cons_succ, List.getElem_cons_zero, put_some, List.setIfInBounds_toArray, List.set_cons_succ, List.set_cons_zero]
            clear qd0 qd1 qx0 qx1
            have W7 := Lib.hid (W6.out.trans (Below.mono HS1 W6.out.size))
            have Kd7 := Lib.hid (Kd6.out.on HS1)
            have Kx7 := Lib.hid (Kx6.out.on HS1)
            have HDx7 := Lib.hid (HDx6.out.below HS1)
            go_wp2
            go_ret
            exact ⟨rfl, W7.out⟩
      · have HF := Lib.hid (decide_eq_true hf)
        have d3 : decide ((3000 : Int) < (mb : Int)) = false := by simp; omega
        have HM := Lib.hid (decide_eq_false hm)
        clear hd hbl hbr hbz hf h3 hm
        go_enter Try.func9, Try.ntmps9
        go_wp2_with fail
        refine (awake_any (dbox w k a n c)).mono ?_
        rintro e w1 ⟨rfl, hb1⟩
        have W1 := Lib.hid (HBX.out.trans (hb1.mono HBX.out.size))
        have Kd1 : Hid (Blok w1 (w.heap.size) 24 #[.int .i64 k, .slice a n c]) := Lib.hid ((dbox_blok w k a n c).on hb1)
        clear hb1
        have qd0 : (w1).cell? ⟨w.heap.size, 0, none⟩ = some (.int .i64 k) := dk0 Kd1.out
        have qd1 : (w1).cell? ⟨w.heap.size, 1, none⟩ = some (.slice a n c) := dk1 Kd1.out
        go_wp2_with fail
        refine (few_any k a n c xs true _ (HD.out.below W1.out) HF.out).mono ?_
        rintro e w2 ⟨rfl, hb2⟩
        clear qd0 qd1
        have W2 := Lib.hid (W1.out.trans (hb2.mono W1.out.size))
        have Kd2 := Lib.hid (Kd1.out.on hb2)
        clear hb2
        have qd0 : (w2).cell? ⟨w.heap.size, 0, none⟩ = some (.int .i64 k) := dk0 Kd2.out
        have qd1 : (w2).cell? ⟨w.heap.size, 1, none⟩ = some (.slice a n c) := dk1 Kd2.out
        go_wp2_with fail
        refine (may_any k a n c xs false _ (HD.out.below W2.out) HM.out).mono ?_
        rintro e w3 ⟨rfl, hb3⟩
        clear qd0 qd1
        have W3 := Lib.hid (W2.out.trans (hb3.mono W2.out.size))
        have Kd3 := Lib.hid (Kd2.out.on hb3)
        clear hb3
        have qd0 : (w3).cell? ⟨w.heap.size, 0, none⟩ = some (.int .i64 k) := dk0 Kd3.out
        have qd1 : (w3).cell? ⟨w.heap.size, 1, none⟩ = some (.slice a n c) := dk1 Kd3.out
        go_wp2
        go_ret
        exact ⟨rfl, W3.out⟩
  · have HF := Lib.hid (decide_eq_false hf)
    clear hd hbl hbr hbz hf
    go_enter Try.func9, Try.ntmps9
    go_wp2_with fail
    refine (awake_any (dbox w k a n c)).mono ?_
    rintro e w1 ⟨rfl, hb1⟩
    have W1 := Lib.hid (HBX.out.trans (hb1.mono HBX.out.size))
    have Kd1 : Hid (Blok w1 (w.heap.size) 24 #[.int .i64 k, .slice a n c]) := Lib.hid ((dbox_blok w k a n c).on hb1)
    clear hb1
    have qd0 : (w1).cell? ⟨w.heap.size, 0, none⟩ = some (.int .i64 k) := dk0 Kd1.out
    have qd1 : (w1).cell? ⟨w.heap.size, 1, none⟩ = some (.slice a n c) := dk1 Kd1.out
    go_wp2_with fail
    refine (few_any k a n c xs false _ (HD.out.below W1.out) HF.out).mono ?_
    rintro e w2 ⟨rfl, hb2⟩
    clear qd0 qd1
    have W2 := Lib.hid (W1.out.trans (hb2.mono W1.out.size))
    have Kd2 := Lib.hid (Kd1.out.on hb2)
    clear hb2
    have qd0 : (w2).cell? ⟨w.heap.size, 0, none⟩ = some (.int .i64 k) := dk0 Kd2.out
    have qd1 : (w2).cell? ⟨w.heap.size, 1, none⟩ = some (.slice a n c) := dk1 Kd2.out
    go_wp2
    go_ret
    exact ⟨rfl, W2.out⟩
end Go.Proofs.Ytcabhibbajkpkaa
