/-
  event.isTick, limits, May.
-/
import Derived.Test.YtebiogadkamgcaaNMath
import Derived.Test.YtebiogadkamgcaaYAPol
import Derived.Test.YtebiogadkamgcaaNRet
namespace Go.Proofs.Ytebiogadkamgcaa
open Go.RowKit
set_option maxHeartbeats 400000 in
theorem isTick_any (t : Int) (v : Bool) (hv : decide (N.tick t) = v) (w : World) :
    Calls Try.prog 19 #[.int .i64 t] w fun e w' => e = .returned (.bool v) ∧ w' = w := by
  have HV := Lib.hid hv
  clear hv
  go_enter Try.func19, Try.ntmps19
  go_wp2_with fail
  all_goals (go_ret; refine ⟨?_, rfl⟩; rw [← HV.out]; first | (rw [decide_eq_false (show ¬ N.tick t by unfold N.tick; omega)]; rfl) | (rw [show decide (N.tick t) = decide (t ≤ 1073741824) from decide_eq_decide.2 (by unfold N.tick; omega)]; rfl))
set_option maxRecDepth 100000 in
set_option maxHeartbeats 400000 in
theorem limits_any (k : Int) (h : 0 ≤ k ∧ k ≤ 6) (w : World) :
    Calls Try.prog 31 #[.int .i64 k] w fun e w' => e = .returned (.tuple #[.agg #[.int .i64 0, .int .i64 (N.low k), .int .i64 0], .agg #[.int .i64 (N.hiA k), .int .i64 (N.hiB k), .int .i64 (N.hiC k)]]) ∧ Below w.heap.size w w' := by
  have hk : k = 0 ∨ k = 1 ∨ k = 2 ∨ k = 3 ∨ k = 4 ∨ k = 5 ∨ k = 6 := by omega
  clear h
  rcases hk with rfl | rfl | rfl | rfl | rfl | rfl | rfl
  all_goals
    go_enter Try.func31, Try.ntmps31
    go_wp2_with fail
    go_region
    all_goals
      go_wp2
      refine bodyPost_ret (ret_cells rfl w.heap.size (w.heap.size + 1) _ _ rfl rfl ((Blok.new w _ _).alloc _).drew (show Blok (World.drew (World.alloc (w.alloc _) _)) (w.heap.size + 1) _ _ from by simpa using (Blok.new (w.alloc _) _ _).drew) Try.underlying55 rfl (by kernel_rfl) Try.underlying55 rfl (by kernel_rfl)) (by kernel_rfl) ?_
      exact ⟨rfl, (((Below.refl _ w).alloc (Nat.le_refl _) _).alloc (by simp) _).drew⟩
def N.ecs (e : Y.Ev) : Array Value := #[.int .i64 e.k, .int .i64 e.t, .int .i64 e.a, .int .i64 e.b, .int .i64 e.c, .int .i64 e.p.q, .int .i64 e.p.i, .int .i64 e.p.h, .bool e.p.pair]
end Go.Proofs.Ytebiogadkamgcaa
