/-
  EventJoins.
-/
import Derived.Test.YtebiogadkamgcaaNAwake
import Derived.Test.YtebiogadkamgcaaSl
namespace Go.Proofs.Ytebiogadkamgcaa
open Go.RowKit
theorem VIn.part {α : Type} [V.Rec α] {w : World} {a : Option Addr} {n c lo hi m : Nat} {l : List α} (h : VIn w a n c l) (h1 : lo ≤ hi) (h2 : hi ≤ n) (h3 : hi ≤ m) (h4 : m ≤ c) : VIn w (slk (V.Rec.k α) a lo m) (hi - lo) (m - lo) ((l.take hi).drop lo) := by
  have hl := h.1
  refine ⟨by simp; omega, ⟨by omega, by have := h.2.1.2; omega⟩, fun hn => by have := h.2.2.1 (slk_none hn); omega, ?_⟩
  by_cases hlh : lo = hi
  · exact .inl (List.drop_eq_nil_of_le (by simp; omega))
  · rcases h.2.2.2 with rfl | ⟨b, off, rfl, hb, hc⟩
    · simp at hl; omega
    · refine .inr ⟨b, off + lo * V.Rec.k α, ?_, hb, fun i x hi' j u hj => ?_⟩
      · unfold slk
        rw [if_neg (by omega)]
        simp [WideShapes.add_plain]
      · rw [List.getElem?_drop, List.getElem?_take] at hi'
        split at hi'
        · rw [show off + lo * V.Rec.k α + i * V.Rec.k α + j = off + (lo + i) * V.Rec.k α + j by rw [Nat.add_mul]; omega]
          exact hc (lo + i) x hi' j u hj
        · cases hi'
theorem N.parts {w : World} {a : Option Addr} {n c k : Nat} {l : List Y.Ev} (h : VIn w a n c l) (hk : k ≤ n) : VIn w (slk 9 a 0 c) k c (l.take k) ∧ VIn w (slk 9 a k c) (n - k) (c - k) (l.drop k) := by
  have hc := h.2.1.1
  have h1 := h.part (lo := 0) (hi := k) (m := c) (by omega) hk (by omega) (Nat.le_refl _)
  have h2 := h.part (lo := k) (hi := n) (m := c) hk (Nat.le_refl _) hc (Nat.le_refl _)
  rw [List.take_of_length_le (by rw [h.1]; omega)] at h2
  rw [Nat.sub_zero, Nat.sub_zero, List.drop_zero] at h1
  exact ⟨h1, h2⟩
set_option maxRecDepth 100000 in
set_option maxHeartbeats 600000 in
theorem EventJoins_in (t k : Int) (a : Option Addr) (n c : Nat) (l : List Y.Ev) (w : World) (h : VIn w a n c l) : Calls Try.prog 6 #[.int .i64 t, .slice a n c, .int .i64 k] w fun x w' => x = .returned (.bool true) ∧ Below w.heap.size w w' := by
  have HV0 := Lib.hid h
  clear h
  go_enter Try.func6, Try.ntmps6
  go_wp2_with fail
  refine (nawake_any w).mono ?_
  rintro e w1 ⟨rfl, hb⟩
  have HB1 := Lib.hid hb
  have HV1 := Lib.hid (HV0.out.below hb)
  clear hb
  by_cases hn : 60 < n
  · have d1 : decide (60 < (n : Int)) = true := by simp; omega
    go_wp2_with fail
    go_ret
    exact ⟨rfl, HB1.out⟩
  have d1 : decide (60 < (n : Int)) = false := by simp; omega
  by_cases hk0 : k < 0
  · have d2 : decide (k < 0) = true := decide_eq_true hk0
    go_wp2_with fail
    go_ret
    exact ⟨rfl, HB1.out⟩
  have d2 : decide (k < 0) = false := decide_eq_false hk0
  by_cases hkn : (n : Int) < k
  · have d3 : decide ((n : Int) < k) = true := decide_eq_true hkn
    go_wp2_with fail
    go_ret
    exact ⟨rfl, HB1.out⟩
  have d3 : decide ((n : Int) < k) = false := decide_eq_false hkn
  obtain ⟨j, rfl⟩ : ∃ j : Nat, k = (j : Int) := ⟨k.toNat, by omega⟩
  have hj : j ≤ n := by omega
  have hc := HV0.out.2.1.1
  have s1 : ∀ w, (Instr.sliceAt 22 (.slice a n c) none (some (.int .i64 (j : Int))) none).run Try.prog w = .ok (.slice (slk 9 a 0 c) j c) w := fun w => slice_h (a := a) (len := n) (cap := c) (k := 9) Try.underlying22 (fun _ => rfl) w (h := j) (by omega)
  have s2 : ∀ w, (Instr.sliceAt 22 (.slice a n c) (some (.int .i64 (j : Int))) none none).run Try.prog w = .ok (.slice (slk 9 a j c) (n - j) (c - j)) w := fun w => slice_l (a := a) (len := n) (cap := c) (k := 9) Try.underlying22 (fun _ => rfl) w (q := j) hj
  have HJ := Lib.hid (N.joins (t := t) (l := l) j (by rw [HV0.out.1]; omega))
  obtain ⟨lt, hlt⟩ : ∃ z, l.take j = z := ⟨_, rfl⟩
  obtain ⟨ld, hld⟩ : ∃ z, l.drop j = z := ⟨_, rfl⟩
  have HLT := Lib.hid hlt
  have HLD := Lib.hid hld
  rw [hlt, hld] at HJ
  clear hlt hld
  go_wp2_with fail
  refine (evPut_any t a n c l w1 HV1.out (by omega)).mono ?_
  rintro e w2 ⟨a2, c2, n2, rfl, h1, h2, hb⟩
  have HB2 := Zt HB1 hb
  have HV2 := Lib.hid (HV1.out.below hb)
  clear hb
  have HN2 := h1
  have HR2 := h2
  clear h1 h2
  go_wp2_with fail
  refine (evPut_any t (slk 9 a 0 c) j c lt w2 (by rw [← HLT.out]; exact (N.parts HV2.out hj).1) (by omega)).mono ?_
  rintro e w3 ⟨a3, c3, n3, rfl, h1, h2, hb⟩
  have HB3 := Zt HB2 hb
  have HV3 := Lib.hid (HV2.out.below hb)
  have HR3 := Lib.hid (HR2.out.below hb)
  clear hb
  have HN3 := h1
  have HS3 := h2
  clear h1 h2 s1
  obtain ⟨u, hu⟩ : ∃ u, N.last t lt = u := ⟨_, rfl⟩
  rw [hu] at HJ
  cases j with
  | zero =>
    obtain rfl : t = u := by rw [← HLT.out] at hu; exact hu
    have d4 : decide ((0 : Int) < ((0 : Nat) : Int)) = false := rfl
    clear hu
    go_wp2_with fail
    refine (evPut_any t a n c ld w3 (by rw [← HLD.out]; exact HV3.out) (by omega)).mono ?_
    rintro e w4 ⟨a4, c4, n4, rfl, h1, h2, hb⟩
    have HB4 := Zt HB3 hb
    have HR4 := Lib.hid (HR3.out.below hb)
    have HS4 := Lib.hid (HS3.out.below hb)
    clear hb
    have HN4 := h1
    have HT4 := h2
    clear h1 h2
    cases h1 : N.put t (lt) with
    | none =>
      rw [h1] at HJ
      simp only at HJ
      rw [HJ.out]
      simp only [Option.isSome_none]
      clear h1
      go_wp2_with fail
      go_ret
      exact ⟨rfl, HB4.out⟩
    | some x =>
    cases h2 : N.put t (ld) with
    | none =>
      rw [h1, h2] at HJ
      simp only at HJ
      rw [HJ.out]
      simp only [Option.isSome_none, Option.isSome_some]
      clear h1 h2
      go_wp2_with fail
      go_ret
      exact ⟨rfl, HB4.out⟩
    | some y =>
      rw [h1, h2] at HJ
      simp only at HJ
      rw [HJ.out] at HN2 HR4 ⊢
      rw [h1] at HN3 HS4
      rw [h2] at HN4 HT4
      simp only [Option.getD_some, Option.isSome_some] at HN2 HR4 HN3 HS4 HN4 HT4 ⊢
      have p1 := conv_row HR4.out HN2.out
      have p2 := conv_row HS4.out HN3.out
      have p3 := conv_row HT4.out HN4.out
      rw [← strOf_append] at p1
      have z1 : (strOf x).size ≤ 2400 := by have := strOf_all (N.flat t (lt)) (N.put_some.1 h1).2.2.1; rw [← (show N.put t _ = _ from if_pos ⟨(N.put_some.1 h1).1, (N.put_some.1 h1).2.1⟩), h1] at this; exact this
      have z2 : (strOf y).size ≤ 2400 := by have := strOf_all (N.flat t (ld)) (N.put_some.1 h2).2.2.1; rw [← (show N.put t _ = _ from if_pos ⟨(N.put_some.1 h2).1, (N.put_some.1 h2).2.1⟩), h2] at this; exact this
      obtain ⟨sx, hsx⟩ : ∃ z, strOf x = z := ⟨_, rfl⟩
      obtain ⟨sy, hsy⟩ : ∃ z, strOf y = z := ⟨_, rfl⟩
      rw [hsx] at p1 p2 z1
      rw [hsy] at p1 p3 z2
      clear h1 h2 hsx hsy
      go_wp2_with fail
      all_goals (go_ret; exact ⟨by first | rfl | simp_all, HB4.out⟩)
  | succ j =>
    obtain ⟨b, off, x, rfl, hb, hx, pc⟩ := HV3.out.at (show j < n by omega)
    obtain ⟨xk, xt, xa, xb, xc, ⟨xq, xi, xh, xp⟩⟩ := x
    have p1 : w3.cell? ⟨b, off + j * 9 + 1, none⟩ = some (.int .i64 xt) := pc 1 _ rfl
    obtain rfl : xt = u := by rw [← hu, ← HLT.out, N.take_ok hx, N.last_append]; rfl
    have z : wrap64 ((j : Int) + 1 - 1) = (j : Int) := (IntWalk.wrap64_in _ ⟨by omega, by omega⟩).trans (by omega)
    have g0 : (0 : Int) ≤ j := by omega
    have g1 : (j : Int) < n := by omega
    have d4 : decide ((0 : Int) < (j : Int) + 1) = true := decide_eq_true (by omega)
    clear pc hx hu
    have hpt := (N.parts HV3.out hj).2
    rw [HLD.out] at hpt
    by_cases hcj : c = j + 1
    · subst hcj
      have hv : VIn w3 (some ⟨b, off, none⟩) 0 0 ld := by
        rw [show n - (j + 1) = 0 by omega] at hpt
        simpa [slk] using hpt
      have HVV := Lib.hid hv
      clear hpt hv
      go_wp2_with fail
      refine (evPut_any xt (some ⟨b, off, none⟩) 0 0 ld w3 HVV.out (by omega)).mono ?_
      rintro e w4 ⟨a4, c4, n4, rfl, h1, h2, hb⟩
      have HB4 := Zt HB3 hb
      have HR4 := Lib.hid (HR3.out.below hb)
      have HS4 := Lib.hid (HS3.out.below hb)
      clear hb
      have HN4 := h1
      have HT4 := h2
      clear h1 h2
      cases h1 : N.put t (lt) with
      | none =>
        rw [h1] at HJ
        simp only at HJ
        rw [HJ.out]
        simp only [Option.isSome_none]
        clear h1
        go_wp2_with fail
        go_ret
        exact ⟨rfl, HB4.out⟩
      | some x =>
      cases h2 : N.put xt (ld) with
      | none =>
        rw [h1, h2] at HJ
        simp only at HJ
        rw [HJ.out]
        simp only [Option.isSome_none, Option.isSome_some]
        clear h1 h2
        go_wp2_with fail
        go_ret
        exact ⟨rfl, HB4.out⟩
      | some y =>
        rw [h1, h2] at HJ
        simp only at HJ
        rw [HJ.out] at HN2 HR4 ⊢
        rw [h1] at HN3 HS4
        rw [h2] at HN4 HT4
        simp only [Option.getD_some, Option.isSome_some] at HN2 HR4 HN3 HS4 HN4 HT4 ⊢
        have p1 := conv_row HR4.out HN2.out
        have p2 := conv_row HS4.out HN3.out
        have p3 := conv_row HT4.out HN4.out
        rw [← strOf_append] at p1
        have z1 : (strOf x).size ≤ 2400 := by have := strOf_all (N.flat t (lt)) (N.put_some.1 h1).2.2.1; rw [← (show N.put t _ = _ from if_pos ⟨(N.put_some.1 h1).1, (N.put_some.1 h1).2.1⟩), h1] at this; exact this
        have z2 : (strOf y).size ≤ 2400 := by have := strOf_all (N.flat xt (ld)) (N.put_some.1 h2).2.2.1; rw [← (show N.put xt _ = _ from if_pos ⟨(N.put_some.1 h2).1, (N.put_some.1 h2).2.1⟩), h2] at this; exact this
        obtain ⟨sx, hsx⟩ : ∃ z, strOf x = z := ⟨_, rfl⟩
        obtain ⟨sy, hsy⟩ : ∃ z, strOf y = z := ⟨_, rfl⟩
        rw [hsx] at p1 p2 z1
        rw [hsy] at p1 p3 z2
        clear h1 h2 hsx hsy
        go_wp2_with fail
        all_goals (go_ret; exact ⟨by first | rfl | simp_all, HB4.out⟩)
    · have hv : VIn w3 (some ⟨b, off + (j + 1) * 9, none⟩) (n - (j + 1)) (c - (j + 1)) ld := by
        unfold slk at hpt
        rw [if_neg hcj] at hpt
        simpa [WideShapes.add_plain] using hpt
      have HVV := Lib.hid hv
      clear hpt hv
      go_wp2_with fail
      refine (evPut_any xt (some ⟨b, off + (j + 1) * 9, none⟩) (n - (j + 1)) (c - (j + 1)) ld w3 HVV.out (by omega)).mono ?_
      rintro e w4 ⟨a4, c4, n4, rfl, h1, h2, hb⟩
      have HB4 := Zt HB3 hb
      have HR4 := Lib.hid (HR3.out.below hb)
      have HS4 := Lib.hid (HS3.out.below hb)
      clear hb
      have HN4 := h1
      have HT4 := h2
      clear h1 h2
      cases h1 : N.put t (lt) with
      | none =>
        rw [h1] at HJ
        simp only at HJ
        rw [HJ.out]
        simp only [Option.isSome_none]
        clear h1
        go_wp2_with fail
        go_ret
        exact ⟨rfl, HB4.out⟩
      | some x =>
      cases h2 : N.put xt (ld) with
      | none =>
        rw [h1, h2] at HJ
        simp only at HJ
        rw [HJ.out]
        simp only [Option.isSome_none, Option.isSome_some]
        clear h1 h2
        go_wp2_with fail
        go_ret
        exact ⟨rfl, HB4.out⟩
      | some y =>
        rw [h1, h2] at HJ
        simp only at HJ
        rw [HJ.out] at HN2 HR4 ⊢
        rw [h1] at HN3 HS4
        rw [h2] at HN4 HT4
        simp only [Option.getD_some, Option.isSome_some] at HN2 HR4 HN3 HS4 HN4 HT4 ⊢
        have p1 := conv_row HR4.out HN2.out
        have p2 := conv_row HS4.out HN3.out
        have p3 := conv_row HT4.out HN4.out
        rw [← strOf_append] at p1
        have z1 : (strOf x).size ≤ 2400 := by have := strOf_all (N.flat t (lt)) (N.put_some.1 h1).2.2.1; rw [← (show N.put t _ = _ from if_pos ⟨(N.put_some.1 h1).1, (N.put_some.1 h1).2.1⟩), h1] at this; exact this
        have z2 : (strOf y).size ≤ 2400 := by have := strOf_all (N.flat xt (ld)) (N.put_some.1 h2).2.2.1; rw [← (show N.put xt _ = _ from if_pos ⟨(N.put_some.1 h2).1, (N.put_some.1 h2).2.1⟩), h2] at this; exact this
        obtain ⟨sx, hsx⟩ : ∃ z, strOf x = z := ⟨_, rfl⟩
        obtain ⟨sy, hsy⟩ : ∃ z, strOf y = z := ⟨_, rfl⟩
        rw [hsx] at p1 p2 z1
        rw [hsy] at p1 p3 z2
        clear h1 h2 hsx hsy
        go_wp2_with fail
        all_goals (go_ret; exact ⟨by first | rfl | simp_all, HB4.out⟩)
end Go.Proofs.Ytebiogadkamgcaa
