/-
  For every disk, and whatever is done to it, moorings/mooringslaw06.DiskStays returns true: what may be stays so, and with an error nothing changes. Conditions: none beyond the given statement's own.
-/
import Derived.Test.YtcabhibbajkpkaaDLawA
import Derived.Test.YtcabhibbajkpkaaDShell
import Derived.Test.YtcabhibbajkpkaaRows
import Derived.WalkKit
import Derived.ProofKit
import Derived.OpenShut
import Derived.ShutString
import Derived.ChangeOld
import Derived.Below
namespace Go.Proofs.Ytcabhibbajkpkaa.diskStays
open Go.ChangeShapes Go.WideShapes Go.ChangeAt Go.RowKit
set_option linter.unusedVariables false

theorem own : ownKnob Try.prog.godebug = none := by kernel_rfl
theorem laidOut : laidOutB Try.prog = true := by kernel_rfl

theorem walk (k0 : Int) (a0 : Option Addr) (n0 c0 : Nat) (x0 : List FP) (ok1 on1 oN1 : Int) (ad1 : Option Addr) (nd1 cd1 : Nat) (ap1 : Option Addr) (np1 cp1 : Nat) (bd1 ps1 : List Int) (w : World) (w0 : DiskIn w a0 n0 c0 x0) (w1 : OpIn w ad1 nd1 cd1 bd1 ap1 np1 cp1 ps1) :
    Calls Try.prog 4 #[.agg #[.int .i64 k0, .slice a0 n0 c0], .agg #[.int .i64 ok1, .int .i64 on1, .int .i64 oN1, .slice ad1 nd1 cd1, .slice ap1 np1 cp1]] w fun e w' => e = .returned (.bool true) ∧ Below w.heap.size w w' := by
  exact stays_in k0 a0 n0 c0 ok1 on1 oN1 ad1 nd1 cd1 ap1 np1 cp1 x0 bd1 ps1 w w0 w1

set_option maxRecDepth 100000 in
theorem lifted (os : Os) (started : os.Started) (H : Type) (enc : TypeId × Value → H) :
    ReturnsInHanded {} Try.checked os 4 .any (Rows.diskStaysSpec.pre6 enc Try.prog Try.f4 Rows.diskStaysRow.domain false) (Rows.diskStaysSpec.post enc Try.prog Try.f4 false true false false) := by
  refine returnsInHanded_of_change (C := Try.checked) own started (by kernel_rfl) Try.func4
    (ChangeSpec.witness6 (enc := enc) (C := Try.checked) false ⟨#[], #[.agg #[.int .i64 0, .slice none 0 0], .agg #[.int .i64 0, .int .i64 0, .int .i64 0, .slice none 0 0, .slice none 0 0]], []⟩ 8 (by kernel_rfl) (by kernel_rfl) (by kernel_rfl) (by kernel_rfl)) ?_
  intro W base args ds gs before hval0 hW hcnd _
  have hval : ∀ (j : Nat) t v, Try.f4.params[j]? = some t → args[j]? = some v → Value.okWide Try.prog W .any base t v := hval0
  have hW' := hW
  obtain ⟨p, q, hA0, hV, rfl, hfz, hnd⟩ := hW
  have hA : DataW.TrodAll enc Try.prog W 0 (fun _ => true) true Try.f4.params.toList args.toList ds p := hA0
  rw [Try.params4] at hA hval
  obtain ⟨v0, vs0, d0, ds0, p0, q0, hargs, rfl, rfl, h0, r0⟩ := trodAll_cons hA
  obtain ⟨v1, vs1, d1, ds1, p1, q1, rfl, rfl, rfl, h1, r1⟩ := trodAll_cons r0
  obtain ⟨rfl, rfl, rfl⟩ := trodAll_nil r1
  obtain rfl : args = #[v0, v1] := by cases args; simp_all
  obtain ⟨rfl, rfl⟩ := trodVars_none hV
  have k0' := h0
  have lt0 : ∀ x ∈ p0, x.block < W.heap.size := by obtain ⟨m, hm⟩ := k0'; exact DataW.trod_lt m _ _ _ hm
  obtain ⟨k0, a0, n0, c0, x0, rfl, w0⟩ := open_disk (hval 0 24 v0 rfl rfl) h0
  have k1' := h1
  have lt1 : ∀ x ∈ p1, x.block < W.heap.size := by obtain ⟨m, hm⟩ := k1'; exact DataW.trod_lt m _ _ _ hm
  obtain ⟨ok1, on1, oN1, ad1, nd1, cd1, ap1, np1, cp1, bd1, ps1, rfl, w1⟩ := open_op (hval 1 28 v1 rfl rfl) h1
  clear hA0 hval0
  refine (walk k0 a0 n0 c0 x0 ok1 on1 oN1 ad1 nd1 cd1 ap1 np1 cp1 bd1 ps1 W w0 w1).mono fun e W' ⟨he, bel⟩ => ?_
  subst he
  exact ⟨_, rfl, _, _, _, [], _, [], hW', trodAll_mk1 (shut_bool Try.underlying4 _), (trodAll_cons_mk (Below.trod laidOut (by kernel_rfl) (of_decide_eq_true (by kernel_rfl)) k0' bel lt0) (trodAll_cons_mk (Below.trod laidOut (by kernel_rfl) (of_decide_eq_true (by kernel_rfl)) k1' bel lt1) trodAll_mk0)), rfl, bel.frame _, fun h => by cases h⟩

theorem over : Rows.diskStaysRow.holds Try.pinned (OpenSpec.ofChange Rows.diskStaysSpec) :=
  OpenClaim.holds_of_wide 4 Try.f4 rfl rfl rfl rfl rfl rfl rfl ⟨rfl, rfl, rfl, rfl, rfl⟩ rfl rfl rfl rfl rfl (by kernel_rfl) Try.func4 (by kernel_rfl)
    (of_decide_eq_true (by kernel_rfl)) (by unfold Func.isWrapper; first | (rw [if_pos (by decide +kernel)]; kernel_rfl) | (rw [if_neg (by decide +kernel)]; exact ⟨rfl, rfl⟩))
    (fun os started H enc _ => lifted os started H enc)

/-- For every disk, and whatever is done to it, moorings/mooringslaw06.DiskStays returns true: what may be stays so, and with an error nothing changes. Conditions: none beyond the given statement's own. -/
theorem proved : Rows.DiskStaysSaid := over
#print axioms proved
end Go.Proofs.Ytcabhibbajkpkaa.diskStays
