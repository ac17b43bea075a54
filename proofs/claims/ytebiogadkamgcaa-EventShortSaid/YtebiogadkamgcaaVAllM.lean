/-
  All's bytes: plain.
-/
import Derived.Test.YtebiogadkamgcaaVPutM
namespace Go.Proofs.Ytebiogadkamgcaa
open Go.RowKit

/-- The bytes of all, or none. -/
def M.all (L : List Int) : Option (List Int) := if L.length ≤ 400 ∧ ∀ n ∈ L, 0 ≤ n ∧ n ≤ 1099511627776 then some (L.flatMap M.put) else none

/-- What All returns. -/
def AllIs (L : List Int) (w : World) (e : Ending) (w' : World) : Prop :=
  ∃ v ok, e = .returned (.tuple #[v, .bool ok]) ∧ ok = (M.all L).isSome ∧ w'.ownsRow w.heap.size 5 1 v ((M.all L).getD []).length (((M.all L).getD []).map (Value.int .u8)) ∧ Below w.heap.size w w'

theorem all_long {L : List Int} (h : 400 < L.length) : M.all L = none := by unfold M.all; rw [if_neg]; omega
theorem all_bad {L : List Int} {n : Int} (hm : n ∈ L) (h : ¬ (0 ≤ n ∧ n ≤ 1099511627776)) : M.all L = none := by unfold M.all; rw [if_neg]; intro hh; exact h (hh.2 n hm)
theorem all_good {L : List Int} (hl : L.length ≤ 400) (h : ∀ n ∈ L, 0 ≤ n ∧ n ≤ 1099511627776) : M.all L = some (L.flatMap M.put) := by unfold M.all; rw [if_pos ⟨hl, h⟩]
theorem AllIs.no {L : List Int} {w w' : World} (h : M.all L = none) (hb : Below w.heap.size w w') : AllIs L w (.returned (.tuple #[.slice none 0 0, .bool false])) w' := by
  refine ⟨_, _, rfl, ?_, ?_, hb⟩ <;> rw [h]
  · rfl
  · exact World.ownsRow_nil _ _ _ _

theorem flat_len : ∀ (L : List Int), (L.flatMap M.put).length ≤ 6 * L.length
  | [] => by simp
  | n :: r => by have := flat_len r; have := M.put_len6 n; rw [List.flatMap_cons, List.length_append, List.length_cons]; omega

theorem flat_snoc {L : List Int} {k : Nat} (hk : k < L.length) : (L.take (k + 1)).flatMap M.put = (L.take k).flatMap M.put ++ M.put (L.getD k 0) := by
  rw [List.take_succ_eq_append_getElem hk, List.flatMap_append]; simp [hk]

end Go.Proofs.Ytebiogadkamgcaa
