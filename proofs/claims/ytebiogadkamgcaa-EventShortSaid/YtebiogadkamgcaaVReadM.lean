/-
  What Read returns.
-/
import Derived.Test.YtebiogadkamgcaaVLists
import Derived.Test.YtebiogadkamgcaaVGetM
namespace Go.Proofs.Ytebiogadkamgcaa
open Go.RowKit

/-- What Read returns. -/
def ReadIs (b : List Int) (B : Nat) (w : World) (e : Ending) (w' : World) : Prop :=
  ∃ v ok, e = .returned (.tuple #[v, .bool ok]) ∧ ok = (M.read b).isSome ∧ w'.ownsRow B 3 1 v ((M.read b).getD []).length (((M.read b).getD []).map (Value.int .i64)) ∧ Below w.heap.size w w'

theorem ReadIs.no {b : List Int} {B : Nat} {w w' : World} (h : M.read b = none) (hb : Below w.heap.size w w') : ReadIs b B w (.returned (.tuple #[.slice none 0 0, .bool false])) w' := by
  refine ⟨_, _, rfl, ?_, ?_, hb⟩ <;> rw [h]
  · rfl
  · exact World.ownsRow_nil _ _ _ _
theorem ReadIs.yes {b l : List Int} {B : Nat} {v : Value} {w w' : World} (h : M.read b = some l) (ho : w'.ownsRow B 3 1 v l.length (l.map (Value.int .i64))) (hb : Below w.heap.size w w') : ReadIs b B w (.returned (.tuple #[v, .bool true])) w' := by
  refine ⟨_, _, rfl, ?_, ?_, hb⟩ <;> rw [h]
  · rfl
  · exact ho

end Go.Proofs.Ytebiogadkamgcaa
