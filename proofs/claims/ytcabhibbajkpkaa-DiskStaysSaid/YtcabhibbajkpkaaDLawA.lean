/-
  Walk of moorings/mooringslaw06.DiskStays: for every input it returns true.
-/
import Derived.Test.YtcabhibbajkpkaaDLawBase
namespace Go.Proofs.Ytcabhibbajkpkaa
open Go.RowKit

set_option maxRecDepth 100000 in
set_option maxHeartbeats 2000000 in
theorem stays_in (k : Int) (a : Option Addr) (n c : Nat) (ok on oN : Int) (ad : Option Addr) (nd cd : Nat) (ap : Option Addr) (np cp : Nat) (xs : List FP) (bd ps : List Int) (w : World) (hd : DiskIn w a n c xs) (ho : OpIn w ad nd cd bd ap np cp ps) :
    Calls Try.prog 4 #[.agg #[.int .i64 k, .slice a n c], .agg #[.int .i64 ok, .int .i64 on, .int .i64 oN, .slice ad nd cd, .slice ap np cp]] w fun e w' => e = .returned (.bool true) ∧ Below w.heap.size w w' := by
  have HBX : Hid (Below w.heap.size w (obox (dbox w k a n c) ok on oN ad nd cd ap np cp)) := Lib.hid (law2_below w k a n c ok on oN ad nd cd ap np cp)
  have HD := Lib.hid hd
  have HO := Lib.hid ho
  obtain ⟨z0, hz0⟩ : ∃ z, decide (nd ≤ 3000 ∧ np ≤ 60) = z := ⟨_, rfl⟩
  by_cases hf : D.few (FP.files xs)
  · by_cases hz : nd ≤ 3000 ∧ np ≤ 60
    · have HF := Lib.hid (decide_eq_true hf)
      have HZ := Lib.hid (decide_eq_true hz)
      have HSM := Lib.hid hf.small
      have HNP : Hid (np ≤ 1000) := Lib.hid (by omega)
      obtain ⟨m, hm⟩ : ∃ m, decide (D.may (k, FP.files xs)) = m := ⟨_, rfl⟩
      obtain ⟨⟨⟨q, l0⟩, e0⟩, hq⟩ : ∃ r, D.op ok on oN bd ps (k, FP.files xs) = r := ⟨_, rfl⟩
      have hqk : q = k := by have h1 := D.op_cap ok on oN bd ps (k, FP.files xs); rw [hq] at h1; exact h1
      subst hqk
      have HM := Lib.hid hm
      have HQ := Lib.hid hq
      have HM2 : Hid (decide (D.may (q, l0)) = m) := Lib.hid (by
        have h1 := D.op_may ok on oN bd ps (q, FP.files xs)
        rw [hq] at h1
        rw [← hm, Bool.eq_iff_iff, decide_eq_true_iff, decide_eq_true_iff]
        exact h1)
      have HER : Hid (e0 ≠ 0 → l0 = FP.files xs) := Lib.hid (fun he => by
        have h1 := D.op_err ok on oN bd ps (q, FP.files xs) (by rw [hq]; exact he)
        rw [hq] at h1
        simpa using h1)
      by_cases he : e0 = 0
      · subst he
        clear hd ho hf hz hz0 hm hq
        go_enter Try.func4, Try.ntmps4
        go_wp2_with fail
        refine (awake_any (obox (dbox w q a n c) ok on oN ad nd cd ap np cp)).mono ?_
        rintro e w1 ⟨rfl, hb1⟩
        have W1 := Lib.hid (HBX.out.trans (hb1.mono HBX.out.size))
        have Kd1 : Hid (Blok w1 (w.heap.size) 24 #[.int .i64 q, .slice a n c]) := Lib.hid ((law2_d w q a n c ok on oN ad nd cd ap np cp).on hb1)
        have Ko1 : Hid (Blok w1 (w.heap.size + 1) 28 #[.int .i64 ok, .int .i64 on, .int .i64 oN, .slice ad nd cd, .slice ap np cp]) := Lib.hid ((law2_o w q a n c ok on oN ad nd cd ap np cp).on hb1)
        clear hb1
        have qd0 : (w1).cell? ⟨w.heap.size, 0, none⟩ = some (.int .i64 q) := dk0 Kd1.out
        have qd1 : (w1).cell? ⟨w.heap.size, 1, none⟩ = some (.slice a n c) := dk1 Kd1.out
        have qo0 : (w1).cell? ⟨w.heap.size + 1, 0, none⟩ = some (.int .i64 ok) := ok0 Ko1.out
        have qo1 : (w1).cell? ⟨w.heap.size + 1, 1, none⟩ = some (.int .i64 on) := ok1 Ko1.out
        have qo2 : (w1).cell? ⟨w.heap.size + 1, 2, none⟩ = some (.int .i64 oN) := ok2 Ko1.out
        have qo3 : (w1).cell? ⟨w.heap.size + 1, 3, none⟩ = some (.slice ad nd cd) := ok3 Ko1.out
        have qo4 : (w1).cell? ⟨w.heap.size + 1, 4, none⟩ = some (.slice ap np cp) := ok4 Ko1.out
        go_wp2_with fail
        refine (few_any q a n c xs true _ (HD.out.below W1.out) HF.out).mono ?_
        rintro e w2 ⟨rfl, hb2⟩
        clear qd0 qd1 qo0 qo1 qo2 qo3 qo4
        have W2 := Lib.hid (W1.out.trans (hb2.mono W1.out.size))
        have Kd2 := Lib.hid (Kd1.out.on hb2)
        have Ko2 := Lib.hid (Ko1.out.on hb2)
        clear hb2
        have qd0 : (w2).cell? ⟨w.heap.size, 0, none⟩ = some (.int .i64 q) := dk0 Kd2.out
        have qd1 : (w2).cell? ⟨w.heap.size, 1, none⟩ = some (.slice a n c) := dk1 Kd2.out
        have qo0 : (w2).cell? ⟨w.heap.size + 1, 0, none⟩ = some (.int .i64 ok) := ok0 Ko2.out
        have qo1 : (w2).cell? ⟨w.heap.size + 1, 1, none⟩ = some (.int .i64 on) := ok1 Ko2.out
        have qo2 : (w2).cell? ⟨w.heap.size + 1, 2, none⟩ = some (.int .i64 oN) := ok2 Ko2.out
        have qo3 : (w2).cell? ⟨w.heap.size + 1, 3, none⟩ = some (.slice ad nd cd) := ok3 Ko2.out
        have qo4 : (w2).cell? ⟨w.heap.size + 1, 4, none⟩ = some (.slice ap np cp) := ok4 Ko2.out
        go_wp2_with fail
        refine (smallOp_any ok on oN ad nd cd ap np cp true _ HZ.out).mono ?_
        rintro e w3 ⟨rfl, hb3⟩
        clear qd0 qd1 qo0 qo1 qo2 qo3 qo4
        have W3 := Lib.hid (W2.out.trans (hb3.mono W2.out.size))
        have Kd3 := Lib.hid (Kd2.out.on hb3)
        have Ko3 := Lib.hid (Ko2.out.on hb3)
        clear hb3
        have qd0 : (w3).cell? ⟨w.heap.size, 0, none⟩ = some (.int .i64 q) := dk0 Kd3.out
        have qd1 : (w3).cell? ⟨w.heap.size, 1, none⟩ = some (.slice a n c) := dk1 Kd3.out
        have qo0 : (w3).cell? ⟨w.heap.size + 1, 0, none⟩ = some (.int .i64 ok) := ok0 Ko3.out
        have qo1 : (w3).cell? ⟨w.heap.size + 1, 1, none⟩ = some (.int .i64 on) := ok1 Ko3.out
        have qo2 : (w3).cell? ⟨w.heap.size + 1, 2, none⟩ = some (.int .i64 oN) := ok2 Ko3.out
        have qo3 : (w3).cell? ⟨w.heap.size + 1, 3, none⟩ = some (.slice ad nd cd) := ok3 Ko3.out
        have qo4 : (w3).cell? ⟨w.heap.size + 1, 4, none⟩ = some (.slice ap np cp) := ok4 Ko3.out
        go_wp2_with fail
        refine (do_any q a n c ok on oN ad nd cd ap np cp xs bd ps _ (HD.out.below W3.out) HSM.out (HO.out.below W3.out) HNP.out).mono ?_
        rw [HQ.out]
        rintro e w4 ⟨a4, n4, c4, ys, rfl, HE4, HY, _, hb4⟩
        clear qd0 qd1 qo0 qo1 qo2 qo3 qo4
        have hx4 := dbox_below w4 q a4 n4 c4
        have W4 := Lib.hid ((W3.out.trans (hb4.mono W3.out.size)).trans (hx4.mono (W3.out.trans (hb4.mono W3.out.size)).size))
        have Pd4 := Kd3.out.on hb4
        have Po4 := Ko3.out.on hb4
        have Kd4 := Lib.hid (Pd4.on hx4)
        have Ko4 := Lib.hid (Po4.on hx4)
        have HDx4 := Lib.hid (HE4.out.below hx4)
        have Kx4 := Lib.hid (dbox_blok w4 q a4 n4 c4)
        have qd0 : ∀ o, (w4.alloc o).cell? ⟨w.heap.size, 0, none⟩ = some (.int .i64 q) := fun o => dk0 (Pd4.alloc o)
        have qd1 : ∀ o, (w4.alloc o).cell? ⟨w.heap.size, 1, none⟩ = some (.slice a n c) := fun o => dk1 (Pd4.alloc o)
        have qo0 : ∀ o, (w4.alloc o).cell? ⟨w.heap.size + 1, 0, none⟩ = some (.int .i64 ok) := fun o => ok0 (Po4.alloc o)
        have qo1 : ∀ o, (w4.alloc o).cell? ⟨w.heap.size + 1, 1, none⟩ = some (.int .i64 on) := fun o => ok1 (Po4.alloc o)
        have qo2 : ∀ o, (w4.alloc o).cell? ⟨w.heap.size + 1, 2, none⟩ = some (.int .i64 oN) := fun o => ok2 (Po4.alloc o)
        have qo3 : ∀ o, (w4.alloc o).cell? ⟨w.heap.size + 1, 3, none⟩ = some (.slice ad nd cd) := fun o => ok3 (Po4.alloc o)
        have qo4 : ∀ o, (w4.alloc o).cell? ⟨w.heap.size + 1, 4, none⟩ = some (.slice ap np cp) := fun o => ok4 (Po4.alloc o)
        clear hb4 hx4 Pd4 Po4
        go_wp2_with fail
        refine wp_region_held (S := fun w' => Below ((dbox w4 q a4 n4 c4)).heap.size ((dbox w4 q a4 n4 c4)) w') (by kernel_rfl) ?_
        change wpAnyH _ _ _ _ _ _ _ _ (World.drew ((dbox w4 q a4 n4 c4)))
        have HS0 : (fun w' => Below ((dbox w4 q a4 n4 c4)).heap.size ((dbox w4 q a4 n4 c4)) w') (World.drew ((dbox w4 q a4 n4 c4))) := below_drew _
        refine wpAnyH_take (i := 0) (v := (.agg #[.int .i64 q, .slice a4 n4 c4])) rfl (by kernel_rfl) (by kernel_rfl) (by kernel_rfl) (fun _ _ _ h => h) (.inl ⟨by kernel_rfl, fun w9 hS => by have c0 := dk0 (Kx4.out.on hS); have c1 := dk1 (Kx4.out.on hS); go_simp⟩) HS0 ?_
        refine wpAnyH_take (i := 2) (v := (.agg #[.int .i64 q, .slice a n c])) rfl (by kernel_rfl) (by kernel_rfl) (by kernel_rfl) (fun _ _ _ h => h) (.inl ⟨by kernel_rfl, fun w9 hS => by have c0 := dk0 (Kd4.out.on hS); have c1 := dk1 (Kd4.out.on hS); go_simp⟩) HS0 ?_
        refine wpAnyH_call (i := 1) (f := 19) (args := #[.agg #[.int .i64 q, .slice a4 n4 c4]]) (by kernel_rfl) rfl (by kernel_rfl) (by kernel_rfl) (may_any q a4 n4 c4 ys m _ (HDx4.out.below HS0) (by rw [HY.out]; exact HM2.out)) ?_
        rintro e wz1 ⟨rfl, hbwz1⟩
        have HS1 : (fun w' => Below ((dbox w4 q a4 n4 c4)).heap.size ((dbox w4 q a4 n4 c4)) w') wz1 := Below.trans HS0 (hbwz1.mono (Below.size HS0))
        refine ⟨_, rfl, HS1, ?_⟩
        refine wpAnyH_call (i := 3) (f := 19) (args := #[.agg #[.int .i64 q, .slice a n c]]) (by kernel_rfl) rfl (by kernel_rfl) (by kernel_rfl) (may_any q a n c xs m _ (HD.out.below (Below.trans W4.out (Below.mono HS1 W4.out.size))) HM.out) ?_
        rintro e wz2 ⟨rfl, hbwz2⟩
        have HS2 : (fun w' => Below ((dbox w4 q a4 n4 c4)).heap.size ((dbox w4 q a4 n4 c4)) w') wz2 := Below.trans HS1 (hbwz2.mono (Below.size HS1))
        refine ⟨_, rfl, HS2, ?_⟩
        refine wpAnyH_take (i := 4) (v := (.bool true)) rfl (by kernel_rfl) (by kernel_rfl) (by kernel_rfl) (fun _ _ _ h => h) (.inl ⟨by kernel_rfl, fun w9 hS => (show _ = Result.ok (.value (.bool (m == m))) w9 by kernel_rfl).trans (by rw [beq_self_eq_true])⟩) HS2 ?_
        refine wpAnyH_take (i := 5) (v := (.bool true)) rfl (by kernel_rfl) (by kernel_rfl) (by kernel_rfl) (fun _ _ _ h => h) (.inl ⟨by kernel_rfl, fun w9 hS => by kernel_rfl⟩) HS2 ?_
        refine wpAnyH_take (i := 6) (v := (.pointer (some ⟨w4.heap.size, 0, none⟩))) rfl (by kernel_rfl) (by kernel_rfl) (by kernel_rfl) (fun _ _ _ h => h) (.inl ⟨by kernel_rfl, fun w9 hS => by kernel_rfl⟩) HS2 ?_
        refine wpAnyH_take (i := 7) (v := (.int .i64 q)) rfl (by kernel_rfl) (by kernel_rfl) (by kernel_rfl) (fun _ _ _ h => h) (.inl ⟨by kernel_rfl, fun w9 hS => by have c := dk0 (Kx4.out.on hS); go_simp⟩) HS2 ?_
        refine wpAnyH_take (i := 8) (v := (.pointer (some ⟨w.heap.size, 0, none⟩))) rfl (by kernel_rfl) (by kernel_rfl) (by kernel_rfl) (fun _ _ _ h => h) (.inl ⟨by kernel_rfl, fun w9 hS => by kernel_rfl⟩) HS2 ?_
        refine wpAnyH_take (i := 9) (v := (.int .i64 q)) rfl (by kernel_rfl) (by kernel_rfl) (by kernel_rfl) (fun _ _ _ h => h) (.inl ⟨by kernel_rfl, fun w9 hS => by have c := dk0 (Kd4.out.on hS); go_simp⟩) HS2 ?_
        refine wpAnyH_take (i := 10) (v := (.bool true)) rfl (by kernel_rfl) (by kernel_rfl) (by kernel_rfl) (fun _ _ _ h => h) (.inl ⟨by kernel_rfl, fun w9 hS => (show _ = Result.ok (.value (.bool (q == q))) w9 by kernel_rfl).trans (by rw [beq_self_eq_true])⟩) HS2 ?_
        refine wpAnyH_take (i := 11) (v := (.bool true)) rfl (by kernel_rfl) (by kernel_rfl) (by kernel_rfl) (fun _ _ _ h => h) (.inl ⟨by kernel_rfl, fun w9 hS => by kernel_rfl⟩) HS2 ?_
        refine wpAnyH_take (i := 12) (v := (.bool true)) rfl (by kernel_rfl) (by kernel_rfl) (by kernel_rfl) (fun _ _ _ h => h) (.inl ⟨by kernel_rfl, fun w9 hS => by kernel_rfl⟩) HS2 ?_
        refine wpAnyH_done (by kernel_rfl) ?_ _
        simp only [List.getElem_toArray, List.getElem_cons_succ, List.getElem_cons_zero, put_some, List.setIfInBounds_toArray, List.set_cons_succ, List.set_cons_zero]
        clear qd0 qd1 qo0 qo1 qo2 qo3 qo4
        have W5 := Lib.hid (W4.out.trans (Below.mono HS2 W4.out.size))
        have Kd5 := Lib.hid (Kd4.out.on HS2)
        have Ko5 := Lib.hid (Ko4.out.on HS2)
        have Kx5 := Lib.hid (Kx4.out.on HS2)
        have HDx5 := Lib.hid (HDx4.out.below HS2)
        go_wp2
        go_ret
        exact ⟨rfl, W5.out⟩
      · have hne : (e0 != 0) = true := by simpa using he
        have HSA0 := Lib.hid (HER.out he)
        clear hd ho hf hz hz0 hm hq he
        go_enter Try.func4, Try.ntmps4
        go_wp2_with fail
        refine (awake_any (obox (dbox w q a n c) ok on oN ad nd cd ap np cp)).mono ?_
        rintro e w1 ⟨rfl, hb1⟩
        have W1 := Lib.hid (HBX.out.trans (hb1.mono HBX.out.size))
        have Kd1 : Hid (Blok w1 (w.heap.size) 24 #[.int .i64 q, .slice a n c]) := Lib.hid ((law2_d w q a n c ok on oN ad nd cd ap np cp).on hb1)
        have Ko1 : Hid (Blok w1 (w.heap.size + 1) 28 #[.int .i64 ok, .int .i64 on, .int .i64 oN, .slice ad nd cd, .slice ap np cp]) := Lib.hid ((law2_o w q a n c ok on oN ad nd cd ap np cp).on hb1)
        clear hb1
        have qd0 : (w1).cell? ⟨w.heap.size, 0, none⟩ = some (.int .i64 q) := dk0 Kd1.out
        have qd1 : (w1).cell? ⟨w.heap.size, 1, none⟩ = some (.slice a n c) := dk1 Kd1.out
        have qo0 : (w1).cell? ⟨w.heap.size + 1, 0, none⟩ = some (.int .i64 ok) := ok0 Ko1.out
        have qo1 : (w1).cell? ⟨w.heap.size + 1, 1, none⟩ = some (.int .i64 on) := ok1 Ko1.out
        have qo2 : (w1).cell? ⟨w.heap.size + 1, 2, none⟩ = some (.int .i64 oN) := ok2 Ko1.out
        have qo3 : (w1).cell? ⟨w.heap.size + 1, 3, none⟩ = some (.slice ad nd cd) := ok3 Ko1.out
        have qo4 : (w1).cell? ⟨w.heap.size + 1, 4, none⟩ = some (.slice ap np cp) := ok4 Ko1.out
        go_wp2_with fail
        refine (few_any q a n c xs true _ (HD.out.below W1.out) HF.out).mono ?_
        rintro e w2 ⟨rfl, hb2⟩
        clear qd0 qd1 qo0 qo1 qo2 qo3 qo4
        have W2 := Lib.hid (W1.out.trans (hb2.mono W1.out.size))
        have Kd2 := Lib.hid (Kd1.out.on hb2)
        have Ko2 := Lib.hid (Ko1.out.on hb2)
        clear hb2
        have qd0 : (w2).cell? ⟨w.heap.size, 0, none⟩ = some (.int .i64 q) := dk0 Kd2.out
        have qd1 : (w2).cell? ⟨w.heap.size, 1, none⟩ = some (.slice a n c) := dk1 Kd2.out
        have qo0 : (w2).cell? ⟨w.heap.size + 1, 0, none⟩ = some (.int .i64 ok) := ok0 Ko2.out
        have qo1 : (w2).cell? ⟨w.heap.size + 1, 1, none⟩ = some (.int .i64 on) := ok1 Ko2.out
        have qo2 : (w2).cell? ⟨w.heap.size + 1, 2, none⟩ = some (.int .i64 oN) := ok2 Ko2.out
        have qo3 : (w2).cell? ⟨w.heap.size + 1, 3, none⟩ = some (.slice ad nd cd) := ok3 Ko2.out
        have qo4 : (w2).cell? ⟨w.heap.size + 1, 4, none⟩ = some (.slice ap np cp) := ok4 Ko2.out
        go_wp2_with fail
        refine (smallOp_any ok on oN ad nd cd ap np cp true _ HZ.out).mono ?_
        rintro e w3 ⟨rfl, hb3⟩
        clear qd0 qd1 qo0 qo1 qo2 qo3 qo4
        have W3 := Lib.hid (W2.out.trans (hb3.mono W2.out.size))
        have Kd3 := Lib.hid (Kd2.out.on hb3)
        have Ko3 := Lib.hid (Ko2.out.on hb3)
        clear hb3
        have qd0 : (w3).cell? ⟨w.heap.size, 0, none⟩ = some (.int .i64 q) := dk0 Kd3.out
        have qd1 : (w3).cell? ⟨w.heap.size, 1, none⟩ = some (.slice a n c) := dk1 Kd3.out
        have qo0 : (w3).cell? ⟨w.heap.size + 1, 0, none⟩ = some (.int .i64 ok) := ok0 Ko3.out
        have qo1 : (w3).cell? ⟨w.heap.size + 1, 1, none⟩ = some (.int .i64 on) := ok1 Ko3.out
        have qo2 : (w3).cell? ⟨w.heap.size + 1, 2, none⟩ = some (.int .i64 oN) := ok2 Ko3.out
        have qo3 : (w3).cell? ⟨w.heap.size + 1, 3, none⟩ = some (.slice ad nd cd) := ok3 Ko3.out
        have qo4 : (w3).cell? ⟨w.heap.size + 1, 4, none⟩ = some (.slice ap np cp) := ok4 Ko3.out
        go_wp2_with fail
        refine (do_any q a n c ok on oN ad nd cd ap np cp xs bd ps _ (HD.out.below W3.out) HSM.out (HO.out.below W3.out) HNP.out).mono ?_
        rw [HQ.out]
        rintro e w4 ⟨a4, n4, c4, ys, rfl, HE4, HY, _, hb4⟩
        clear qd0 qd1 qo0 qo1 qo2 qo3 qo4
        have hx4 := dbox_below w4 q a4 n4 c4
        have W4 := Lib.hid ((W3.out.trans (hb4.mono W3.out.size)).trans (hx4.mono (W3.out.trans (hb4.mono W3.out.size)).size))
        have Pd4 := Kd3.out.on hb4
        have Po4 := Ko3.out.on hb4
        have Kd4 := Lib.hid (Pd4.on hx4)
        have Ko4 := Lib.hid (Po4.on hx4)
        have HDx4 := Lib.hid (HE4.out.below hx4)
        have Kx4 := Lib.hid (dbox_blok w4 q a4 n4 c4)
        have qd0 : ∀ o, (w4.alloc o).cell? ⟨w.heap.size, 0, none⟩ = some (.int .i64 q) := fun o => dk0 (Pd4.alloc o)
        have qd1 : ∀ o, (w4.alloc o).cell? ⟨w.heap.size, 1, none⟩ = some (.slice a n c) := fun o => dk1 (Pd4.alloc o)
        have qo0 : ∀ o, (w4.alloc o).cell? ⟨w.heap.size + 1, 0, none⟩ = some (.int .i64 ok) := fun o => ok0 (Po4.alloc o)
        have qo1 : ∀ o, (w4.alloc o).cell? ⟨w.heap.size + 1, 1, none⟩ = some (.int .i64 on) := fun o => ok1 (Po4.alloc o)
        have qo2 : ∀ o, (w4.alloc o).cell? ⟨w.heap.size + 1, 2, none⟩ = some (.int .i64 oN) := fun o => ok2 (Po4.alloc o)
        have qo3 : ∀ o, (w4.alloc o).cell? ⟨w.heap.size + 1, 3, none⟩ = some (.slice ad nd cd) := fun o => ok3 (Po4.alloc o)
        have qo4 : ∀ o, (w4.alloc o).cell? ⟨w.heap.size + 1, 4, none⟩ = some (.slice ap np cp) := fun o => ok4 (Po4.alloc o)
        clear hb4 hx4 Pd4 Po4
        have HSA : Hid (decide (((q, FP.files ys) : D.T) = (q, FP.files xs)) = true) := Lib.hid (by rw [HY.out, HSA0.out]; simp)
        go_wp2_with fail
        refine (same_any q a4 n4 c4 ys q a n c xs true _ (HDx4.out) (HD.out.below W4.out) HSA.out).mono ?_
        rintro e w5 ⟨rfl, hb5⟩
        clear qd0 qd1 qo0 qo1 qo2 qo3 qo4
        have W5 := Lib.hid (W4.out.trans (hb5.mono W4.out.size))
        have Kd5 := Lib.hid (Kd4.out.on hb5)
        have Ko5 := Lib.hid (Ko4.out.on hb5)
        have Kx5 := Lib.hid (Kx4.out.on hb5)
        have HDx5 := Lib.hid (HDx4.out.below hb5)
        clear hb5
        have qd0 : (w5).cell? ⟨w.heap.size, 0, none⟩ = some (.int .i64 q) := dk0 Kd5.out
        have qd1 : (w5).cell? ⟨w.heap.size, 1, none⟩ = some (.slice a n c) := dk1 Kd5.out
        have qo0 : (w5).cell? ⟨w.heap.size + 1, 0, none⟩ = some (.int .i64 ok) := ok0 Ko5.out
        have qo1 : (w5).cell? ⟨w.heap.size + 1, 1, none⟩ = some (.int .i64 on) := ok1 Ko5.out
        have qo2 : (w5).cell? ⟨w.heap.size + 1, 2, none⟩ = some (.int .i64 oN) := ok2 Ko5.out
        have qo3 : (w5).cell? ⟨w.heap.size + 1, 3, none⟩ = some (.slice ad nd cd) := ok3 Ko5.out
        have qo4 : (w5).cell? ⟨w.heap.size + 1, 4, none⟩ = some (.slice ap np cp) := ok4 Ko5.out
        have qx0 : (w5).cell? ⟨w4.heap.size, 0, none⟩ = some (.int .i64 q) := dk0 Kx5.out
        have qx1 : (w5).cell? ⟨w4.heap.size, 1, none⟩ = some (.slice a4 n4 c4) := dk1 Kx5.out
        go_wp2_with fail
        refine wp_region_held (S := fun w' => Below (w5).heap.size (w5) w') (by kernel_rfl) ?_
        change wpAnyH _ _ _ _ _ _ _ _ (World.drew (w5))
        have HS0 : (fun w' => Below (w5).heap.size (w5) w') (World.drew (w5)) := below_drew _
        refine wpAnyH_take (i := 0) (v := (.agg #[.int .i64 q, .slice a4 n4 c4])) rfl (by kernel_rfl) (by kernel_rfl) (by kernel_rfl) (fun _ _ _ h => h) (.inl ⟨by kernel_rfl, fun w9 hS => by have c0 := dk0 (Kx5.out.on hS); have c1 := dk1 (Kx5.out.on hS); go_simp⟩) HS0 ?_
        refine wpAnyH_take (i := 2) (v := (.agg #[.int .i64 q, .slice a n c])) rfl (by kernel_rfl) (by kernel_rfl) (by kernel_rfl) (fun _ _ _ h => h) (.inl ⟨by kernel_rfl, fun w9 hS => by have c0 := dk0 (Kd5.out.on hS); have c1 := dk1 (Kd5.out.on hS); go_simp⟩) HS0 ?_
        refine wpAnyH_call (i := 1) (f := 19) (args := #[.agg #[.int .i64 q, .slice a4 n4 c4]]) (by kernel_rfl) rfl (by kernel_rfl) (by kernel_rfl) (may_any q a4 n4 c4 ys m _ (HDx5.out.below HS0) (by rw [HY.out]; exact HM2.out)) ?_
        rintro e wz1 ⟨rfl, hbwz1⟩
        have HS1 : (fun w' => Below (w5).heap.size (w5) w') wz1 := Below.trans HS0 (hbwz1.mono (Below.size HS0))
        refine ⟨_, rfl, HS1, ?_⟩
        refine wpAnyH_call (i := 3) (f := 19) (args := #[.agg #[.int .i64 q, .slice a n c]]) (by kernel_rfl) rfl (by kernel_rfl) (by kernel_rfl) (may_any q a n c xs m _ (HD.out.below (Below.trans W5.out (Below.mono HS1 W5.out.size))) HM.out) ?_
        rintro e wz2 ⟨rfl, hbwz2⟩
        have HS2 : (fun w' => Below (w5).heap.size (w5) w') wz2 := Below.trans HS1 (hbwz2.mono (Below.size HS1))
        refine ⟨_, rfl, HS2, ?_⟩
        refine wpAnyH_take (i := 4) (v := (.bool true)) rfl (by kernel_rfl) (by kernel_rfl) (by kernel_rfl) (fun _ _ _ h => h) (.inl ⟨by kernel_rfl, fun w9 hS => (show _ = Result.ok (.value (.bool (m == m))) w9 by kernel_rfl).trans (by rw [beq_self_eq_true])⟩) HS2 ?_
        refine wpAnyH_take (i := 5) (v := (.bool true)) rfl (by kernel_rfl) (by kernel_rfl) (by kernel_rfl) (fun _ _ _ h => h) (.inl ⟨by kernel_rfl, fun w9 hS => by kernel_rfl⟩) HS2 ?_
        refine wpAnyH_take (i := 6) (v := (.pointer (some ⟨w4.heap.size, 0, none⟩))) rfl (by kernel_rfl) (by kernel_rfl) (by kernel_rfl) (fun _ _ _ h => h) (.inl ⟨by kernel_rfl, fun w9 hS => by kernel_rfl⟩) HS2 ?_
        refine wpAnyH_take (i := 7) (v := (.int .i64 q)) rfl (by kernel_rfl) (by kernel_rfl) (by kernel_rfl) (fun _ _ _ h => h) (.inl ⟨by kernel_rfl, fun w9 hS => by have c := dk0 (Kx5.out.on hS); go_simp⟩) HS2 ?_
        refine wpAnyH_take (i := 8) (v := (.pointer (some ⟨w.heap.size, 0, none⟩))) rfl (by kernel_rfl) (by kernel_rfl) (by kernel_rfl) (fun _ _ _ h => h) (.inl ⟨by kernel_rfl, fun w9 hS => by kernel_rfl⟩) HS2 ?_
        refine wpAnyH_take (i := 9) (v := (.int .i64 q)) rfl (by kernel_rfl) (by kernel_rfl) (by kernel_rfl) (fun _ _ _ h => h) (.inl ⟨by kernel_rfl, fun w9 hS => by have c := dk0 (Kd5.out.on hS); go_simp⟩) HS2 ?_
        refine wpAnyH_take (i := 10) (v := (.bool true)) rfl (by kernel_rfl) (by kernel_rfl) (by kernel_rfl) (fun _ _ _ h => h) (.inl ⟨by kernel_rfl, fun w9 hS => (show _ = Result.ok (.value (.bool (q == q))) w9 by kernel_rfl).trans (by rw [beq_self_eq_true])⟩) HS2 ?_
        refine wpAnyH_take (i := 11) (v := (.bool true)) rfl (by kernel_rfl) (by kernel_rfl) (by kernel_rfl) (fun _ _ _ h => h) (.inl ⟨by kernel_rfl, fun w9 hS => by kernel_rfl⟩) HS2 ?_
        refine wpAnyH_take (i := 12) (v := (.bool true)) rfl (by kernel_rfl) (by kernel_rfl) (by kernel_rfl) (fun _ _ _ h => h) (.inl ⟨by kernel_rfl, fun w9 hS => by kernel_rfl⟩) HS2 ?_
        refine wpAnyH_done (by kernel_rfl) ?_ _
        simp only [List.getElem_toArray, List.getElem_cons_succ, List.getElem_cons_zero, put_some, List.setIfInBounds_toArray, List.set_cons_succ, List.set_cons_zero]
        clear qd0 qd1 qo0 qo1 qo2 qo3 qo4 qx0 qx1
        have W6 := Lib.hid (W5.out.trans (Below.mono HS2 W5.out.size))
        have Kd6 := Lib.hid (Kd5.out.on HS2)
        have Ko6 := Lib.hid (Ko5.out.on HS2)
        have Kx6 := Lib.hid (Kx5.out.on HS2)
        have HDx6 := Lib.hid (HDx5.out.below HS2)
        go_wp2
        go_ret
        exact ⟨rfl, W6.out⟩
    · have HF := Lib.hid (decide_eq_true hf)
      have HZ := Lib.hid (decide_eq_false hz)
      clear hd ho hf hz hz0
      go_enter Try.func4, Try.ntmps4
      go_wp2_with fail
      refine (awake_any (obox (dbox w k a n c) ok on oN ad nd cd ap np cp)).mono ?_
      rintro e w1 ⟨rfl, hb1⟩
      have W1 := Lib.hid (HBX.out.trans (hb1.mono HBX.out.size))
      have Kd1 : Hid (Blok w1 (w.heap.size) 24 #[.int .i64 k, .slice a n c]) := Lib.hid ((law2_d w k a n c ok on oN ad nd cd ap np cp).on hb1)
      have Ko1 : Hid (Blok w1 (w.heap.size + 1) 28 #[.int .i64 ok, .int .i64 on, .int .i64 oN, .slice ad nd cd, .slice ap np cp]) := Lib.hid ((law2_o w k a n c ok on oN ad nd cd ap np cp).on hb1)
      clear hb1
      have qd0 : (w1).cell? ⟨w.heap.size, 0, none⟩ = some (.int .i64 k) := dk0 Kd1.out
      have qd1 : (w1).cell? ⟨w.heap.size, 1, none⟩ = some (.slice a n c) := dk1 Kd1.out
      have qo0 : (w1).cell? ⟨w.heap.size + 1, 0, none⟩ = some (.int .i64 ok) := ok0 Ko1.out
      have qo1 : (w1).cell? ⟨w.heap.size + 1, 1, none⟩ = some (.int .i64 on) := ok1 Ko1.out
      have qo2 : (w1).cell? ⟨w.heap.size + 1, 2, none⟩ = some (.int .i64 oN) := ok2 Ko1.out
      have qo3 : (w1).cell? ⟨w.heap.size + 1, 3, none⟩ = some (.slice ad nd cd) := ok3 Ko1.out
      have qo4 : (w1).cell? ⟨w.heap.size + 1, 4, none⟩ = some (.slice ap np cp) := ok4 Ko1.out
      go_wp2_with fail
      refine (few_any k a n c xs true _ (HD.out.below W1.out) HF.out).mono ?_
      rintro e w2 ⟨rfl, hb2⟩
      clear qd0 qd1 qo0 qo1 qo2 qo3 qo4
      have W2 := Lib.hid (W1.out.trans (hb2.mono W1.out.size))
      have Kd2 := Lib.hid (Kd1.out.on hb2)
      have Ko2 := Lib.hid (Ko1.out.on hb2)
      clear hb2
      have qd0 : (w2).cell? ⟨w.heap.size, 0, none⟩ = some (.int .i64 k) := dk0 Kd2.out
      have qd1 : (w2).cell? ⟨w.heap.size, 1, none⟩ = some (.slice a n c) := dk1 Kd2.out
      have qo0 : (w2).cell? ⟨w.heap.size + 1, 0, none⟩ = some (.int .i64 ok) := ok0 Ko2.out
      have qo1 : (w2).cell? ⟨w.heap.size + 1, 1, none⟩ = some (.int .i64 on) := ok1 Ko2.out
      have qo2 : (w2).cell? ⟨w.heap.size + 1, 2, none⟩ = some (.int .i64 oN) := ok2 Ko2.out
      have qo3 : (w2).cell? ⟨w.heap.size + 1, 3, none⟩ = some (.slice ad nd cd) := ok3 Ko2.out
      have qo4 : (w2).cell? ⟨w.heap.size + 1, 4, none⟩ = some (.slice ap np cp) := ok4 Ko2.out
      go_wp2_with fail
      refine (smallOp_any ok on oN ad nd cd ap np cp false _ HZ.out).mono ?_
      rintro e w3 ⟨rfl, hb3⟩
      clear qd0 qd1 qo0 qo1 qo2 qo3 qo4
      have W3 := Lib.hid (W2.out.trans (hb3.mono W2.out.size))
      have Kd3 := Lib.hid (Kd2.out.on hb3)
      have Ko3 := Lib.hid (Ko2.out.on hb3)
      clear hb3
      have qd0 : (w3).cell? ⟨w.heap.size, 0, none⟩ = some (.int .i64 k) := dk0 Kd3.out
      have qd1 : (w3).cell? ⟨w.heap.size, 1, none⟩ = some (.slice a n c) := dk1 Kd3.out
      have qo0 : (w3).cell? ⟨w.heap.size + 1, 0, none⟩ = some (.int .i64 ok) := ok0 Ko3.out
      have qo1 : (w3).cell? ⟨w.heap.size + 1, 1, none⟩ = some (.int .i64 on) := ok1 Ko3.out
      have qo2 : (w3).cell? ⟨w.heap.size + 1, 2, none⟩ = some (.int .i64 oN) := ok2 Ko3.out
      have qo3 : (w3).cell? ⟨w.heap.size + 1, 3, none⟩ = some (.slice ad nd cd) := ok3 Ko3.out
      have qo4 : (w3).cell? ⟨w.heap.size + 1, 4, none⟩ = some (.slice ap np cp) := ok4 Ko3.out
      go_wp2
      go_ret
      exact ⟨rfl, W3.out⟩
  · have HF := Lib.hid (decide_eq_false hf)
    have HZ := Lib.hid hz0
    clear hd ho hf hz0
    go_enter Try.func4, Try.ntmps4
    go_wp2_with fail
    refine (awake_any (obox (dbox w k a n c) ok on oN ad nd cd ap np cp)).mono ?_
    rintro e w1 ⟨rfl, hb1⟩
    have W1 := Lib.hid (HBX.out.trans (hb1.mono HBX.out.size))
    have Kd1 : Hid (Blok w1 (w.heap.size) 24 #[.int .i64 k, .slice a n c]) := Lib.hid ((law2_d w k a n c ok on oN ad nd cd ap np cp).on hb1)
    have Ko1 : Hid (Blok w1 (w.heap.size + 1) 28 #[.int .i64 ok, .int .i64 on, .int .i64 oN, .slice ad nd cd, .slice ap np cp]) := Lib.hid ((law2_o w k a n c ok on oN ad nd cd ap np cp).on hb1)
    clear hb1
    have qd0 : (w1).cell? ⟨w.heap.size, 0, none⟩ = some (.int .i64 k) := dk0 Kd1.out
    have qd1 : (w1).cell? ⟨w.heap.size, 1, none⟩ = some (.slice a n c) := dk1 Kd1.out
    have qo0 : (w1).cell? ⟨w.heap.size + 1, 0, none⟩ = some (.int .i64 ok) := ok0 Ko1.out
    have qo1 : (w1).cell? ⟨w.heap.size + 1, 1, none⟩ = some (.int .i64 on) := ok1 Ko1.out
    have qo2 : (w1).cell? ⟨w.heap.size + 1, 2, none⟩ = some (.int .i64 oN) := ok2 Ko1.out
    have qo3 : (w1).cell? ⟨w.heap.size + 1, 3, none⟩ = some (.slice ad nd cd) := ok3 Ko1.out
    have qo4 : (w1).cell? ⟨w.heap.size + 1, 4, none⟩ = some (.slice ap np cp) := ok4 Ko1.out
    go_wp2_with fail
    refine (few_any k a n c xs false _ (HD.out.below W1.out) HF.out).mono ?_
    rintro e w2 ⟨rfl, hb2⟩
    clear qd0 qd1 qo0 qo1 qo2 qo3 qo4
    have W2 := Lib.hid (W1.out.trans (hb2.mono W1.out.size))
    have Kd2 := Lib.hid (Kd1.out.on hb2)
    have Ko2 := Lib.hid (Ko1.out.on hb2)
    clear hb2
    have qd0 : (w2).cell? ⟨w.heap.size, 0, none⟩ = some (.int .i64 k) := dk0 Kd2.out
    have qd1 : (w2).cell? ⟨w.heap.size, 1, none⟩ = some (.slice a n c) := dk1 Kd2.out
    have qo0 : (w2).cell? ⟨w.heap.size + 1, 0, none⟩ = some (.int .i64 ok) := ok0 Ko2.out
    have qo1 : (w2).cell? ⟨w.heap.size + 1, 1, none⟩ = some (.int .i64 on) := ok1 Ko2.out
    have qo2 : (w2).cell? ⟨w.heap.size + 1, 2, none⟩ = some (.int .i64 oN) := ok2 Ko2.out
    have qo3 : (w2).cell? ⟨w.heap.size + 1, 3, none⟩ = some (.slice ad nd cd) := ok3 Ko2.out
    have qo4 : (w2).cell? ⟨w.heap.size + 1, 4, none⟩ = some (.slice ap np cp) := ok4 Ko2.out
    go_wp2_with fail
    refine (smallOp_any ok on oN ad nd cd ap np cp z0 _ HZ.out).mono ?_
    rintro e w3 ⟨rfl, hb3⟩
    clear qd0 qd1 qo0 qo1 qo2 qo3 qo4
    have W3 := Lib.hid (W2.out.trans (hb3.mono W2.out.size))
    have Kd3 := Lib.hid (Kd2.out.on hb3)
    have Ko3 := Lib.hid (Ko2.out.on hb3)
    clear hb3
    have qd0 : (w3).cell? ⟨w.heap.size, 0, none⟩ = some (.int .i64 k) := dk0 Kd3.out
    have qd1 : (w3).cell? ⟨w.heap.size, 1, none⟩ = some (.slice a n c) := dk1 Kd3.out
    have qo0 : (w3).cell? ⟨w.heap.size + 1, 0, none⟩ = some (.int .i64 ok) := ok0 Ko3.out
    have qo1 : (w3).cell? ⟨w.heap.size + 1, 1, none⟩ = some (.int .i64 on) := ok1 Ko3.out
    have qo2 : (w3).cell? ⟨w.heap.size + 1, 2, none⟩ = some (.int .i64 oN) := ok2 Ko3.out
    have qo3 : (w3).cell? ⟨w.heap.size + 1, 3, none⟩ = some (.slice ad nd cd) := ok3 Ko3.out
    have qo4 : (w3).cell? ⟨w.heap.size + 1, 4, none⟩ = some (.slice ap np cp) := ok4 Ko3.out
    go_wp2
    go_ret
    exact ⟨rfl, W3.out⟩
end Go.Proofs.Ytcabhibbajkpkaa
