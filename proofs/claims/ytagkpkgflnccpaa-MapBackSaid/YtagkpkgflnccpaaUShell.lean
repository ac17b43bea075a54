/-
  What a map reads as that comes in.
-/
import Derived.Test.YtagkpkgflnccpaaUMay
import Derived.OpenShut
import Derived.ChangeOld
import Derived.Lib.SmallJoins
namespace Go.Proofs.Ytagkpkgflnccpaa
open Go.RowKit

open Go.ChangeShapes Go.WideShapes Go.Joins
theorem array2 {cs : Array Value} (h : cs.size = 2) : ∃ c0 c1, cs = #[c0, c1] := by
  obtain ⟨l⟩ := cs
  simp at h
  match l, h with
  | [c0, c1], _ => exact ⟨c0, c1, rfl⟩
section
variable {H : Type} {enc : TypeId × Value → H} {W : World} {held : Bool}
theorem uone_int {fuel : Nat} {v : Value} {y : DataW H × List MemPlace} (h : DataW.trod enc Try.prog W 0 (fun _ => true) held fuel 3 [v] = some y) : ∃ k : Int, v = .int .i64 k := by
  obtain ⟨k, hk, _, _⟩ := DataW.trod_int (k := .i64) Try.underlying3 h
  simp at hk
  exact ⟨k, hk⟩
/-- A map. -/
theorem open_used {r : Reach} {b0 : Nat} {v : Value} {d : DataW H} {p : List MemPlace} (hv : Value.okWide Try.prog W r b0 23 v) (h : DataW.Trod enc Try.prog W 0 (fun _ => true) held 23 v d p) :
    ∃ n u : Int, v = .agg #[.int .i64 n, .int .i64 u] := by
  obtain ⟨cs, rfl, hsz⟩ := okWide_struct Try.underlying23 hv
  obtain ⟨c0, c1, rfl⟩ := array2 (hsz.trans (show Try.prog.cellsOf 23 = 2 by kernel_rfl))
  obtain ⟨fuel, hf⟩ := h
  obtain ⟨y0, y1, n, hx, _, h0, h1⟩ := trod_struct2 Try.underlying23 hf
  have z1 : Try.prog.cellsOf 3 = 1 := by kernel_rfl
  obtain ⟨n, rfl⟩ := uone_int (v := c0) (by rw [z1] at h0; exact h0)
  obtain ⟨u, rfl⟩ := uone_int (v := c1) (by rw [z1] at h1; exact h1)
  exact ⟨n, u, rfl⟩
end
end Go.Proofs.Ytagkpkgflnccpaa
