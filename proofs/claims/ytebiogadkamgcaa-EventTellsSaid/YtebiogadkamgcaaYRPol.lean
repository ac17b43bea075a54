/-
  The document's MayPolicy.
-/
import Derived.Test.YtebiogadkamgcaaYEv
import Derived.Test.YtebiogadkamgcaaBlok
namespace Go.Proofs.Ytebiogadkamgcaa
open Go.RowKit
set_option maxRecDepth 100000 in
set_option maxHeartbeats 1000000 in
theorem refMayP_any (p : Y.Po) (v : Bool) (hv : decide (Y.MayP p) = v) (w : World) :
    Calls Try.prog 30 #[.agg #[.int .i64 p.q, .int .i64 p.i, .int .i64 p.h, .bool p.pair]] w fun e w' => e = .returned (.bool v) ∧ Below w.heap.size w w' := by
  obtain ⟨w1, hw1, hb, hk⟩ := Zn w 32 #[.int .i64 p.q, .int .i64 p.i, .int .i64 p.h, .bool p.pair]
  have HB := Lib.hid hb
  have c0 := Zv hk 0 (.int .i64 p.q)
  have c1 := Zv hk 1 (.int .i64 p.i)
  have c2 := Zv hk 2 (.int .i64 p.h)
  have HV := Lib.hid hv
  clear hb hk hv
  go_enter Try.func30, Try.ntmps30
  go_wp2_with fail
  all_goals (go_ret; refine ⟨?_, HB.out⟩; rw [← HV.out]; first | (rw [decide_eq_true (show Y.MayP p by unfold Y.MayP; omega)]; rfl) | (rw [decide_eq_false (show ¬ Y.MayP p by unfold Y.MayP; omega)]; rfl) | (rw [show decide (Y.MayP p) = decide (p.h ≤ 1048576) from decide_eq_decide.2 (by unfold Y.MayP; omega)]; rfl))
end Go.Proofs.Ytebiogadkamgcaa
