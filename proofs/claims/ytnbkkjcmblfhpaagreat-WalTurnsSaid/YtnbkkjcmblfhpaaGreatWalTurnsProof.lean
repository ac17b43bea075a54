/-
  A log is turned just if its file has 300 bytes at least, and there is room; with fewer it is as it was (at most 14 files of 3000 bytes, 6 pools, 40 leases, and that are held).
-/
import Derived.Test.YtnbkkjcmblfhpaaGreatGLTurns
import Derived.Test.YtnbkkjcmblfhpaaGreatGShell
import Derived.Test.YtnbkkjcmblfhpaaGreatRows
import Derived.WalkKit
import Derived.ProofKit
import Derived.OpenShut
import Derived.ShutString
import Derived.ChangeOld
import Derived.Below
namespace Go.Proofs.YtnbkkjcmblfhpaaGreat.walTurns
open Go.ChangeShapes Go.WideShapes Go.ChangeAt Go.RowKit
set_option linter.unusedVariables false

theorem own : ownKnob Tryz.prog.godebug = none := by kernel_rfl
theorem laidOut : laidOutB Tryz.prog = true := by kernel_rfl

theorem walk (k0 : Int) (a0 : Option Addr) (n0 c0 : Nat) (wn0 wt0 : Int) (x0 : List FP) (st1 : Y.St) (A1 : Y.A9) (w : World) (dd0 : zf0 w a0 n0 c0 x0) (qs1 : Y.SIn w A1 st1) (ms1 : O.Sm st1.ps) (bs1 : st1.d.b ≤ 9223372036854775807) (cs1 : st1.d.c ≤ 9223372036854775807) :
    Calls Tryz.prog 8 #[.agg #[.int .i64 k0, .slice a0 n0 c0, .int .i64 wn0, .int .i64 wt0], Y.val st1 A1] w fun e w' => e = .returned (.bool true) ∧ Below w.heap.size w w' := by
  exact WalTurns_in k0 a0 n0 c0 wn0 wt0 x0 st1 A1.ap A1.np A1.cp A1.al A1.nl A1.cl A1.ah A1.nh A1.ch w dd0 qs1 ms1 bs1 cs1

set_option maxRecDepth 100000 in
theorem lifted (os : Os) (started : os.Started) (H : Type) (enc : TypeId × Value → H) :
    ReturnsInHanded {} Tryz.checked os 8 .any (Rows.walTurnsSpec.pre6 enc Tryz.prog Tryz.f8 Rows.walTurnsRow.domain false) (Rows.walTurnsSpec.post enc Tryz.prog Tryz.f8 false true false false) := by
  refine returnsInHanded_of_change (C := Tryz.checked) own started (by kernel_rfl) Tryz.func8
    (ChangeSpec.witness6 (enc := enc) (C := Tryz.checked) false ⟨#[], #[.agg #[.int .i64 0, .slice none 0 0, .int .i64 0, .int .i64 0], .agg #[.int .i64 0, .int .i64 0, .int .i64 0, .int .i64 0, .int .i64 0, .int .i64 0, .int .i64 0, .int .i64 0, .int .i64 0, .int .i64 0, .int .i64 0, .bool false, .int .i64 0, .slice none 0 0, .slice none 0 0, .slice none 0 0]], []⟩ 8 (by kernel_rfl) (by kernel_rfl) (by kernel_rfl) (by kernel_rfl)) ?_
  intro W base args ds gs before hval0 hW hcnd _
  have hval : ∀ (j : Nat) t v, Tryz.f8.params[j]? = some t → args[j]? = some v → Value.okWide Tryz.prog W .any base t v := hval0
  have hW' := hW
  obtain ⟨p, q, hA0, hV, rfl, hfz, hnd⟩ := hW
  have hA : DataW.TrodAll enc Tryz.prog W 0 (fun _ => true) true Tryz.f8.params.toList args.toList ds p := hA0
  rw [Tryz.params8] at hA hval
  obtain ⟨v0, vs0, d0, ds0, p0, q0, hargs, rfl, rfl, h0, r0⟩ := trodAll_cons hA
  obtain ⟨v1, vs1, d1, ds1, p1, q1, rfl, rfl, rfl, h1, r1⟩ := trodAll_cons r0
  obtain ⟨rfl, rfl, rfl⟩ := trodAll_nil r1
  obtain rfl : args = #[v0, v1] := by cases args; simp_all
  obtain ⟨rfl, rfl⟩ := trodVars_none hV
  have k0' := h0
  have lt0 : ∀ x ∈ p0, x.block < W.heap.size := by obtain ⟨m, hm⟩ := k0'; exact DataW.trod_lt m _ _ _ hm
  obtain ⟨k0, a0, n0, c0, wn0, wt0, x0, rfl, dd0⟩ := open_wal (hval 0 26 v0 rfl rfl) h0
  have k1' := h1
  have lt1 : ∀ x ∈ p1, x.block < W.heap.size := by obtain ⟨m, hm⟩ := k1'; exact DataW.trod_lt m _ _ _ hm
  obtain ⟨st1, A1, rfl, qs1, ms1, bs1, cs1⟩ := open_state (hval 1 37 v1 rfl rfl) h1
  clear hA0 hval0
  refine (walk k0 a0 n0 c0 wn0 wt0 x0 st1 A1 W dd0 qs1 ms1 bs1 cs1).mono fun e W' ⟨he, bel⟩ => ?_
  subst he
  exact ⟨_, rfl, _, _, _, [], _, [], hW', trodAll_mk1 (shut_bool Tryz.underlying4 _), (trodAll_cons_mk (Below.trod laidOut (by kernel_rfl) (of_decide_eq_true (by kernel_rfl)) k0' bel lt0) (trodAll_cons_mk (Below.trod laidOut (by kernel_rfl) (of_decide_eq_true (by kernel_rfl)) k1' bel lt1) trodAll_mk0)), rfl, bel.frame _, fun h => by cases h⟩

set_option maxHeartbeats 4000000 in
theorem over : Rows.walTurnsRow.holds Tryz.pinned (OpenSpec.ofChange Rows.walTurnsSpec) :=
  OpenClaim.holds_of_wide 8 Tryz.f8 rfl rfl rfl rfl rfl rfl rfl ⟨rfl, rfl, rfl, rfl, rfl⟩ rfl rfl rfl rfl rfl (by as_aux_lemma => kernel_rfl) Tryz.func8 (by as_aux_lemma => kernel_rfl)
    (of_decide_eq_true (by as_aux_lemma => kernel_rfl)) (by as_aux_lemma => unfold Func.isWrapper; first | (rw [if_pos (by decide +kernel)]; kernel_rfl) | (rw [if_neg (by decide +kernel)]; exact ⟨rfl, rfl⟩))
    (fun os started H enc _ => lifted os started H enc)

/-- A log is turned just if its file has 300 bytes at least, and there is room; with fewer it is as it was (at most 14 files of 3000 bytes, 6 pools, 40 leases, and that are held). -/
theorem proved : Rows.WalTurnsSaid := over
#print axioms proved
end Go.Proofs.YtnbkkjcmblfhpaaGreat.walTurns
