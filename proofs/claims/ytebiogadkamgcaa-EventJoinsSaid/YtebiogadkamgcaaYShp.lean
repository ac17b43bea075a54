/-
  What arguments read as: numbers, policies.
-/
import Derived.Test.YtebiogadkamgcaaYRows
import Derived.Test.YtebiogadkamgcaaIntsS
import Derived.Lib.SmallJoins
import Derived.Deep.SlicePairs
import Derived.OpenShut
import Derived.ChangeOld
import Derived.DataShut
namespace Go.Proofs.Ytebiogadkamgcaa
open Go.RowKit Go.ChangeShapes Go.WideShapes Go.Joins Go.Deep
theorem array4 {cs : Array Value} (h : cs.size = 4) : ∃ c0 c1 c2 c3, cs = #[c0, c1, c2, c3] := by
  obtain ⟨l⟩ := cs
  simp at h
  match l, h with
  | [c0, c1, c2, c3], _ => exact ⟨c0, c1, c2, c3, rfl⟩
theorem list4 {cs : List Value} (h : cs.length = 4) : ∃ c0 c1 c2 c3, cs = [c0, c1, c2, c3] := by
  match cs, h with
  | [c0, c1, c2, c3], _ => exact ⟨c0, c1, c2, c3, rfl⟩
theorem array9 {cs : Array Value} (h : cs.size = 9) : ∃ c0 c1 c2 c3 c4 c5 c6 c7 c8, cs = #[c0, c1, c2, c3, c4, c5, c6, c7, c8] := by
  obtain ⟨l⟩ := cs
  simp at h
  match l, h with
  | [c0, c1, c2, c3, c4, c5, c6, c7, c8], _ => exact ⟨c0, c1, c2, c3, c4, c5, c6, c7, c8, rfl⟩
theorem list9 {cs : List Value} (h : cs.length = 9) : ∃ c0 c1 c2 c3 c4 c5 c6 c7 c8, cs = [c0, c1, c2, c3, c4, c5, c6, c7, c8] := by
  match cs, h with
  | [c0, c1, c2, c3, c4, c5, c6, c7, c8], _ => exact ⟨c0, c1, c2, c3, c4, c5, c6, c7, c8, rfl⟩
section
variable {H : Type} {enc : TypeId × Value → H} {V : World} {held : Bool}
theorem int_of {fuel : Nat} {v : Value} {y : DataW H × List MemPlace} (h : DataW.trod enc Try.prog V 0 (fun _ => true) held fuel 3 [v] = some y) : ∃ k : Int, v = .int .i64 k ∧ -9223372036854775808 ≤ k ∧ k ≤ 9223372036854775807 := by
  obtain ⟨k, hk, _, wk⟩ := DataW.trod_int (k := .i64) Try.underlying3 h
  simp at hk
  exact ⟨k, hk, i64_wf wk⟩
theorem bool_of {fuel : Nat} {v : Value} {y : DataW H × List MemPlace} (h : DataW.trod enc Try.prog V 0 (fun _ => true) held fuel 4 [v] = some y) : ∃ k : Bool, v = .bool k := by
  obtain ⟨k, hk, _⟩ := DataW.trod_bool Try.underlying4 h
  simp at hk
  exact ⟨k, hk⟩
set_option maxRecDepth 100000 in
/-- A policy. -/
theorem pol_of {fuel : Nat} {c0 c1 c2 c3 : Value} {y : DataW H × List MemPlace} (h : DataW.trod enc Try.prog V 0 (fun _ => true) held fuel 32 [c0, c1, c2, c3] = some y) : ∃ p : Y.Po, c0 = .int .i64 p.q ∧ c1 = .int .i64 p.i ∧ c2 = .int .i64 p.h ∧ c3 = .bool p.pair := by
  obtain ⟨xs, n, -, -, -, hl, hx⟩ := DataW.trod_struct Try.underlying32 h
  have get : ∀ i (hi : i < 4), ∃ y, xs[i]? = some y := fun i hi => ⟨xs[i]'(by rw [hl]; exact hi), List.getElem?_eq_getElem _⟩
  obtain ⟨y0, g0⟩ := get 0 (by decide)
  obtain ⟨y1, g1⟩ := get 1 (by decide)
  obtain ⟨y2, g2⟩ := get 2 (by decide)
  obtain ⟨y3, g3⟩ := get 3 (by decide)
  have t0 := (hx 0 _ rfl).trans g0
  have t1 := (hx 1 _ rfl).trans g1
  have t2 := (hx 2 _ rfl).trans g2
  have t3 := (hx 3 _ rfl).trans g3
  obtain ⟨q, rfl, -, -⟩ := int_of t0
  obtain ⟨i, rfl, -, -⟩ := int_of t1
  obtain ⟨hh, rfl, -, -⟩ := int_of t2
  obtain ⟨b, rfl⟩ := bool_of t3
  exact ⟨⟨q, i, hh, b⟩, rfl, rfl, rfl, rfl⟩
end
end Go.Proofs.Ytebiogadkamgcaa
