/-
  What one pool has: pool.has, pool.isBelow; the document's Has, fits.
-/
import Derived.Test.YtejckbnapcdhpaaORows
namespace Go.Proofs.Ytejckbnapcdhpaa
open Go.RowKit

set_option maxHeartbeats 400000 in
theorem ohas_any (x : O.Pl) (y : Int) (v : Bool) (w : World) (hv : O.has x y = v) :
    Calls Try.prog 39 #[O.val x, .int .i64 y] w fun e w' => e = .returned (.bool v) ∧ Below w.heap.size w w' := by
  have HB := Lib.hid (O.box_below w x)
  unfold O.box at HB
  unfold O.val
  go_enter Try.func39, Try.ntmps39
  by_cases k1 : x.f < 0
  · have d1 : decide (x.f < 0) = true := by simpa using k1
    have HE : Hid (v = false) := Lib.hid (by rw [← hv]; simp [O.has]; omega)
    go_wp2
    go_ret
    exact ⟨by rw [HE.out]; rfl, HB.out⟩
  · have d1 : decide (x.f < 0) = false := by simpa using k1
    by_cases k2 : 4 < x.f
    · have d2 : decide (4 < x.f) = true := by simpa using k2
      have HE : Hid (v = false) := Lib.hid (by rw [← hv]; simp [O.has]; omega)
      go_wp2
      go_ret
      exact ⟨by rw [HE.out]; rfl, HB.out⟩
    · have d2 : decide (4 < x.f) = false := by simpa using k2
      by_cases k3 : x.n < 1
      · have d3 : decide (x.n < 1) = true := by simpa using k3
        have HE : Hid (v = false) := Lib.hid (by rw [← hv]; simp [O.has]; omega)
        go_wp2
        go_ret
        exact ⟨by rw [HE.out]; rfl, HB.out⟩
      · have d3 : decide (x.n < 1) = false := by simpa using k3
        by_cases k4 : 4 < x.n
        · have d4 : decide (4 < x.n) = true := by simpa using k4
          have HE : Hid (v = false) := Lib.hid (by rw [← hv]; simp [O.has]; omega)
          go_wp2
          go_ret
          exact ⟨by rw [HE.out]; rfl, HB.out⟩
        · have d4 : decide (4 < x.n) = false := by simpa using k4
          have hw : IntKind.i64.wrap (x.f + x.n) = x.f + x.n := IntWalk.i64_in _ (by omega)
          by_cases k5 : x.f ≤ y
          · have d5 : decide (x.f ≤ y) = true := by simpa using k5
            by_cases k6 : y < x.f + x.n
            · have d6 : decide (y < x.f + x.n) = true := by simpa using k6
              have HE : Hid (v = true) := Lib.hid (by rw [← hv]; simp [O.has]; omega)
              go_wp2
              go_ret
              exact ⟨by rw [HE.out]; rfl, HB.out⟩
            · have d6 : decide (y < x.f + x.n) = false := by simpa using k6
              have HE : Hid (v = false) := Lib.hid (by rw [← hv]; simp [O.has]; omega)
              go_wp2
              go_ret
              exact ⟨by rw [HE.out]; rfl, HB.out⟩
          · have d5 : decide (x.f ≤ y) = false := by simpa using k5
            have HE : Hid (v = false) := Lib.hid (by rw [← hv]; simp [O.has]; omega)
            go_wp2
            go_ret
            exact ⟨by rw [HE.out]; rfl, HB.out⟩

set_option maxHeartbeats 400000 in
theorem obelow_any (x : O.Pl) (out : Int) (v : Bool) (w : World) (hv : O.below x out = v) (ho : 0 ≤ out ∧ out ≤ 4) (hx : x.f ≤ 9223372036854775807) :
    Calls Try.prog 27 #[O.val x, .int .i64 out] w fun e w' => e = .returned (.bool v) ∧ Below w.heap.size w w' := by
  have HB := Lib.hid (O.box_below w x)
  unfold O.box at HB
  unfold O.val
  go_enter Try.func27, Try.ntmps27
  by_cases k1 : 0 ≤ x.f
  · have d1 : decide (0 ≤ x.f) = true := by simpa using k1
    by_cases k2 : 1 ≤ x.n
    · have d2 : decide (1 ≤ x.n) = true := by simpa using k2
      have hw : IntKind.i64.wrap (out - x.f) = out - x.f := IntWalk.i64_in _ (by omega)
      by_cases k3 : x.n ≤ out - x.f
      · have d3 : decide (x.n ≤ out - x.f) = true := by simpa using k3
        have HE : Hid (v = true) := Lib.hid (by rw [← hv]; simp [O.below]; omega)
        go_wp2
        go_ret
        exact ⟨by rw [HE.out]; rfl, HB.out⟩
      · have d3 : decide (x.n ≤ out - x.f) = false := by simpa using k3
        have HE : Hid (v = false) := Lib.hid (by rw [← hv]; simp [O.below]; omega)
        go_wp2
        go_ret
        exact ⟨by rw [HE.out]; rfl, HB.out⟩
    · have d2 : decide (1 ≤ x.n) = false := by simpa using k2
      have HE : Hid (v = false) := Lib.hid (by rw [← hv]; simp [O.below]; omega)
      go_wp2
      go_ret
      exact ⟨by rw [HE.out]; rfl, HB.out⟩
  · have d1 : decide (0 ≤ x.f) = false := by simpa using k1
    have HE : Hid (v = false) := Lib.hid (by rw [← hv]; simp [O.below]; omega)
    go_wp2
    go_ret
    exact ⟨by rw [HE.out]; rfl, HB.out⟩

set_option maxHeartbeats 400000 in
theorem refHas_any (x : O.Pl) (y : Int) (v : Bool) (w : World) (hv : O.has x y = v) :
    Calls Try.prog 36 #[O.val x, .int .i64 y] w fun e w' => e = .returned (.bool v) ∧ Below w.heap.size w w' := by
  have HB := Lib.hid (O.box_below w x)
  unfold O.box at HB
  unfold O.val
  go_enter Try.func36, Try.ntmps36
  by_cases k1 : 0 ≤ x.f
  · have d1 : decide (0 ≤ x.f) = true := by simpa using k1
    by_cases k2 : x.f ≤ 4
    · have d2 : decide (x.f ≤ 4) = true := by simpa using k2
      by_cases k3 : 1 ≤ x.n
      · have d3 : decide (1 ≤ x.n) = true := by simpa using k3
        by_cases k4 : x.n ≤ 4
        · have d4 : decide (x.n ≤ 4) = true := by simpa using k4
          have hw : IntKind.i64.wrap (x.f + x.n) = x.f + x.n := IntWalk.i64_in _ (by omega)
          by_cases k5 : x.f ≤ y
          · have d5 : decide (x.f ≤ y) = true := by simpa using k5
            by_cases k6 : y < x.f + x.n
            · have d6 : decide (y < x.f + x.n) = true := by simpa using k6
              have HE : Hid (v = true) := Lib.hid (by rw [← hv]; simp [O.has]; omega)
              go_wp2
              go_ret
              exact ⟨by rw [HE.out]; rfl, HB.out⟩
            · have d6 : decide (y < x.f + x.n) = false := by simpa using k6
              have HE : Hid (v = false) := Lib.hid (by rw [← hv]; simp [O.has]; omega)
              go_wp2
              go_ret
              exact ⟨by rw [HE.out]; rfl, HB.out⟩
          · have d5 : decide (x.f ≤ y) = false := by simpa using k5
            have HE : Hid (v = false) := Lib.hid (by rw [← hv]; simp [O.has]; omega)
            go_wp2
            go_ret
            exact ⟨by rw [HE.out]; rfl, HB.out⟩
        · have d4 : decide (x.n ≤ 4) = false := by simpa using k4
          have HE : Hid (v = false) := Lib.hid (by rw [← hv]; simp [O.has]; omega)
          go_wp2
          go_ret
          exact ⟨by rw [HE.out]; rfl, HB.out⟩
      · have d3 : decide (1 ≤ x.n) = false := by simpa using k3
        have HE : Hid (v = false) := Lib.hid (by rw [← hv]; simp [O.has]; omega)
        go_wp2
        go_ret
        exact ⟨by rw [HE.out]; rfl, HB.out⟩
    · have d2 : decide (x.f ≤ 4) = false := by simpa using k2
      have HE : Hid (v = false) := Lib.hid (by rw [← hv]; simp [O.has]; omega)
      go_wp2
      go_ret
      exact ⟨by rw [HE.out]; rfl, HB.out⟩
  · have d1 : decide (0 ≤ x.f) = false := by simpa using k1
    have HE : Hid (v = false) := Lib.hid (by rw [← hv]; simp [O.has]; omega)
    go_wp2
    go_ret
    exact ⟨by rw [HE.out]; rfl, HB.out⟩

set_option maxHeartbeats 400000 in
theorem refFits_any (x : O.Pl) (out : Int) (v : Bool) (w : World) (hv : O.fits x out = v) (ho : out ≤ 9223372036854775807) :
    Calls Try.prog 32 #[O.val x, .int .i64 out] w fun e w' => e = .returned (.bool v) ∧ Below w.heap.size w w' := by
  have HB := Lib.hid (O.box_below w x)
  unfold O.box at HB
  unfold O.val
  go_enter Try.func32, Try.ntmps32
  by_cases k1 : 0 ≤ x.f
  · have d1 : decide (0 ≤ x.f) = true := by simpa using k1
    by_cases k2 : 1 ≤ x.n
    · have d2 : decide (1 ≤ x.n) = true := by simpa using k2
      by_cases k3 : x.f < out
      · have d3 : decide (x.f < out) = true := by simpa using k3
        have hw : IntKind.i64.wrap (out - x.f) = out - x.f := IntWalk.i64_in _ (by omega)
        by_cases k4 : x.n ≤ out - x.f
        · have d4 : decide (x.n ≤ out - x.f) = true := by simpa using k4
          by_cases k5 : 0 ≤ x.s
          · have d5 : decide (0 ≤ x.s) = true := by simpa using k5
            by_cases k6 : x.s < 2
            · have d6 : decide (x.s < 2) = true := by simpa using k6
              have HE : Hid (v = true) := Lib.hid (by rw [← hv]; simp [O.fits]; omega)
              go_wp2
              go_ret
              exact ⟨by rw [HE.out]; rfl, HB.out⟩
            · have d6 : decide (x.s < 2) = false := by simpa using k6
              have HE : Hid (v = false) := Lib.hid (by rw [← hv]; simp [O.fits]; omega)
              go_wp2
              go_ret
              exact ⟨by rw [HE.out]; rfl, HB.out⟩
          · have d5 : decide (0 ≤ x.s) = false := by simpa using k5
            have HE : Hid (v = false) := Lib.hid (by rw [← hv]; simp [O.fits]; omega)
            go_wp2
            go_ret
            exact ⟨by rw [HE.out]; rfl, HB.out⟩
        · have d4 : decide (x.n ≤ out - x.f) = false := by simpa using k4
          have HE : Hid (v = false) := Lib.hid (by rw [← hv]; simp [O.fits]; omega)
          go_wp2
          go_ret
          exact ⟨by rw [HE.out]; rfl, HB.out⟩
      · have d3 : decide (x.f < out) = false := by simpa using k3
        have HE : Hid (v = false) := Lib.hid (by rw [← hv]; simp [O.fits]; omega)
        go_wp2
        go_ret
        exact ⟨by rw [HE.out]; rfl, HB.out⟩
    · have d2 : decide (1 ≤ x.n) = false := by simpa using k2
      have HE : Hid (v = false) := Lib.hid (by rw [← hv]; simp [O.fits]; omega)
      go_wp2
      go_ret
      exact ⟨by rw [HE.out]; rfl, HB.out⟩
  · have d1 : decide (0 ≤ x.f) = false := by simpa using k1
    have HE : Hid (v = false) := Lib.hid (by rw [← hv]; simp [O.fits]; omega)
    go_wp2
    go_ret
    exact ⟨by rw [HE.out]; rfl, HB.out⟩

end Go.Proofs.Ytejckbnapcdhpaa
