/-
  alloc.MayPolicy.
-/
import Derived.Test.YtebiogadkamgcaaYRows
namespace Go.Proofs.Ytebiogadkamgcaa
open Go.RowKit

set_option maxHeartbeats 400000 in
theorem ypol_any (p : Y.Po) (v : Bool) (hv : decide (Y.MayP p) = v) (w : World) :
    Calls Try.prog 32 #[Y.pval p] w fun e w' => e = .returned (.bool v) ∧ Below w.heap.size w w' := by
  have HV := Lib.hid hv
  have HB := Lib.hid (((Below.refl w.heap.size w).alloc (Nat.le_refl _) (.cells #[.int .i64 p.q, .int .i64 p.i, .int .i64 p.h, .bool p.pair] 32)))
  clear hv
  unfold Y.pval
  go_enter Try.func32, Try.ntmps32
  by_cases k0 : 1 ≤ p.q
  · have d0 : decide (1 ≤ p.q) = true := decide_eq_true k0
    by_cases k1 : p.q ≤ 8
    · have d1 : decide (p.q ≤ 8) = true := decide_eq_true k1
      by_cases k2 : 1 ≤ p.i
      · have d2 : decide (1 ≤ p.i) = true := decide_eq_true k2
        by_cases k3 : p.i ≤ 1048576
        · have d3 : decide (p.i ≤ 1048576) = true := decide_eq_true k3
          by_cases k4 : 0 ≤ p.h
          · have d4 : decide (0 ≤ p.h) = true := decide_eq_true k4
            by_cases k5 : p.h ≤ 1048576
            · have d5 : decide (p.h ≤ 1048576) = true := decide_eq_true k5
              have HE : Hid (v = true) := Lib.hid (by rw [← HV.out]; exact decide_eq_true ⟨k0, k1, k2, k3, k4, k5⟩)
              go_wp2
              go_ret
              exact ⟨by rw [HE.out]; rfl, HB.out⟩
            · have d5 : decide (p.h ≤ 1048576) = false := decide_eq_false k5
              have HE : Hid (v = false) := Lib.hid (by rw [← HV.out]; exact decide_eq_false fun h => k5 h.2.2.2.2.2)
              go_wp2
              go_ret
              exact ⟨by rw [HE.out]; rfl, HB.out⟩
          · have d4 : decide (0 ≤ p.h) = false := decide_eq_false k4
            have HE : Hid (v = false) := Lib.hid (by rw [← HV.out]; exact decide_eq_false fun h => k4 h.2.2.2.2.1)
            go_wp2
            go_ret
            exact ⟨by rw [HE.out]; rfl, HB.out⟩
        · have d3 : decide (p.i ≤ 1048576) = false := decide_eq_false k3
          have HE : Hid (v = false) := Lib.hid (by rw [← HV.out]; exact decide_eq_false fun h => k3 h.2.2.2.1)
          go_wp2
          go_ret
          exact ⟨by rw [HE.out]; rfl, HB.out⟩
      · have d2 : decide (1 ≤ p.i) = false := decide_eq_false k2
        have HE : Hid (v = false) := Lib.hid (by rw [← HV.out]; exact decide_eq_false fun h => k2 h.2.2.1)
        go_wp2
        go_ret
        exact ⟨by rw [HE.out]; rfl, HB.out⟩
    · have d1 : decide (p.q ≤ 8) = false := decide_eq_false k1
      have HE : Hid (v = false) := Lib.hid (by rw [← HV.out]; exact decide_eq_false fun h => k1 h.2.1)
      go_wp2
      go_ret
      exact ⟨by rw [HE.out]; rfl, HB.out⟩
  · have d0 : decide (1 ≤ p.q) = false := decide_eq_false k0
    have HE : Hid (v = false) := Lib.hid (by rw [← HV.out]; exact decide_eq_false fun h => k0 h.1)
    go_wp2
    go_ret
    exact ⟨by rw [HE.out]; rfl, HB.out⟩

end Go.Proofs.Ytebiogadkamgcaa
