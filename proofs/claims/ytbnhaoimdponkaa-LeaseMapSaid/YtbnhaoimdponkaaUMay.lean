/-
  Walk of moorings/bitmap.May.
-/
import Derived.Test.YtbnhaoimdponkaaBlok
import Derived.Test.YtbnhaoimdponkaaUMath
import Derived.Lib.QuietBelow
namespace Go.Proofs.Ytbnhaoimdponkaa
open Go.RowKit

/-- A map lies in a box. -/
def ubox (w : World) (n u : Int) : World := w.alloc (.cells #[.int .i64 n, .int .i64 u] 42)
theorem ubox_below (w : World) (n u : Int) : Below w.heap.size w (ubox w n u) := (Below.refl _ w).alloc (Nat.le_refl _) _
theorem ubox_size (w : World) (n u : Int) : (ubox w n u).heap.size = w.heap.size + 1 := by simp [ubox]
theorem ubox_blok (w : World) (n u : Int) : Blok (ubox w n u) w.heap.size 42 #[.int .i64 n, .int .i64 u] := Blok.new w _ _
theorem u0 {w : World} {g : Nat} {n u : Int} (h : Blok w g 42 #[.int .i64 n, .int .i64 u]) : w.cell? ⟨g, 0, none⟩ = some (.int .i64 n) := h.cell 0
theorem u1 {w : World} {g : Nat} {n u : Int} (h : Blok w g 42 #[.int .i64 n, .int .i64 u]) : w.cell? ⟨g, 1, none⟩ = some (.int .i64 u) := h.cell 1
/-- What the walk reckons of 1 << n. -/
theorem U.shl_of {m : Nat} (h : m ≤ 8) : wrap64 (2 ^ m) = 2 ^ m := by
  have h1 : 2 ^ m ≤ 2 ^ 8 := Nat.pow_le_pow_right (by decide) h
  have e : ((2 : Int) ^ m) = ((2 ^ m : Nat) : Int) := by simp
  rw [e]
  generalize 2 ^ m = q at h1
  exact IntWalk.wrap64_in _ (by omega)

set_option maxHeartbeats 400000 in
theorem umay_any (n u : Int) (b : Bool) (w : World) (h : U.may n u = b) : Calls Try.prog 19 #[.agg #[.int .i64 n, .int .i64 u]] w fun e w' => e = .returned (.bool b) ∧ Below w.heap.size w w' := by
  have HB := Lib.hid (ubox_below w n u)
  have HH := Lib.hid h
  have k0 := fun d os => cell_regrown (u0 (ubox_blok w n u)) d os
  have k1 := fun d os => cell_regrown (u1 (ubox_blok w n u)) d os
  unfold ubox at k0 k1
  clear h
  by_cases h0 : 0 ≤ n
  · by_cases h1 : n ≤ 8
    · obtain ⟨m, rfl⟩ := Int.eq_ofNat_of_zero_le h0
      have HM : Hid (U.may m u = (decide (0 ≤ u) && decide (u < wrap64 (2 ^ m)))) := Lib.hid (by
        rw [U.shl_of (by omega)]
        unfold U.may
        simp [h1])
      clear h0
      by_cases g0 : 0 ≤ u
      · have G0 : Hid (U.may m u = decide (u < wrap64 (2 ^ m))) := Lib.hid (by rw [HM.out]; simp [g0])
        go_enter Try.func19, Try.ntmps19
        go_wp2_with fail
        refine wp_region_quiet_below (by kernel_rfl) (by kernel_rfl) ?_
        repeat (go_big_quiet_step (fail))
        refine wpQuiet_nil ?_
        intro _ hw'
        obtain ⟨⟨dq, osq⟩, hw''⟩ := hw'
        subst hw''
        go_wp2
        go_ret
        exact ⟨by rw [← HH.out]; rw [G0.out]; rfl, HB.out.trans ((below_regrown _ dq osq).mono HB.out.size)⟩
      · have G0 : Hid (U.may m u = false) := Lib.hid (by rw [HM.out]; simp [g0])
        have g1 : decide (0 ≤ u) = false := decide_eq_false g0
        go_enter Try.func19, Try.ntmps19
        go_wp2_with fail
        refine wp_region_quiet_below (by kernel_rfl) (by kernel_rfl) ?_
        repeat (go_big_quiet_step (fail))
        refine wpQuiet_nil ?_
        intro _ hw'
        obtain ⟨⟨dq, osq⟩, hw''⟩ := hw'
        subst hw''
        go_wp2
        go_ret
        exact ⟨by rw [← HH.out]; rw [G0.out]; rfl, HB.out.trans ((below_regrown _ dq osq).mono HB.out.size)⟩
    · have G0 : Hid (U.may n u = false) := Lib.hid (by unfold U.may; simp; omega)
      have g1 : decide (n ≤ 8) = false := decide_eq_false h1
      clear h1
      go_enter Try.func19, Try.ntmps19
      go_wp2_with fail
      refine wp_region_quiet_below (by kernel_rfl) (by kernel_rfl) ?_
      repeat (go_big_quiet_step (fail))
      refine wpQuiet_nil ?_
      intro _ hw'
      obtain ⟨⟨dq, osq⟩, hw''⟩ := hw'
      subst hw''
      go_wp2
      go_ret
      exact ⟨by rw [← HH.out]; rw [G0.out]; rfl, HB.out.trans ((below_regrown _ dq osq).mono HB.out.size)⟩
  · have G0 : Hid (U.may n u = false) := Lib.hid (by unfold U.may; simp; omega)
    have g1 : decide (0 ≤ n) = false := decide_eq_false h0
    clear h0
    go_enter Try.func19, Try.ntmps19
    go_wp2_with fail
    refine wp_region_quiet_below (by kernel_rfl) (by kernel_rfl) ?_
    repeat (go_big_quiet_step (fail))
    refine wpQuiet_nil ?_
    intro _ hw'
    obtain ⟨⟨dq, osq⟩, hw''⟩ := hw'
    subst hw''
    go_wp2
    go_ret
    exact ⟨by rw [← HH.out]; rw [G0.out]; rfl, HB.out.trans ((below_regrown _ dq osq).mono HB.out.size)⟩
end Go.Proofs.Ytbnhaoimdponkaa
