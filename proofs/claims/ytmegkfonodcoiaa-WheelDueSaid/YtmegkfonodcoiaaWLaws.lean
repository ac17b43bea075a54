/-
  What the laws of wheels stand on: lengths.
-/
import Derived.Test.YtmegkfonodcoiaaWAwake
namespace Go.Proofs.Ytmegkfonodcoiaa
namespace W
theorem add_len {k : Int} {l : List Tm} {id at' : Int} {l2 : List Tm} {e : Int} (h : add k l id at' = (l2, e)) : l2.length ≤ l.length + 1 := by
  have : (add k l id at').1.length ≤ l.length + 1 := by
    unfold add
    repeat' split
    all_goals first | (show (ins _ _).length ≤ _; rw [ins_len]; omega) | (show l.length ≤ _; omega)
  rw [h] at this; exact this
theorem drop_len' {k : Int} {l : List Tm} {id : Int} {l2 : List Tm} {e : Bool} (h : drop k l id = (l2, e)) : l2.length ≤ l.length := by
  have : (drop k l id).1.length ≤ l.length := by
    rcases drop_eq (k := k) (l := l) (id := id) with ⟨h, _⟩ | ⟨h, _⟩ <;> rw [h]
    · exact List.length_filter_le _ _
    · exact Nat.le_refl _
  rw [h] at this; exact this
theorem step_len {k : Int} {l : List Tm} {tt : Int} {k2 : Int} {l2 l3 : List Tm} {e : Int} (h : step k l tt = ((k2, l2), l3, e)) : l2.length ≤ l.length ∧ l3.length ≤ l.length := by
  have : (step k l tt).1.2.length ≤ l.length ∧ (step k l tt).2.1.length ≤ l.length := by
    unfold step
    repeat' split
    · exact ⟨Nat.le_refl _, Nat.zero_le _⟩
    · exact ⟨Nat.le_refl _, Nat.zero_le _⟩
    · exact ⟨List.length_filter_le _ _, List.length_filter_le _ _⟩
  rw [h] at this; exact this
end W
end Go.Proofs.Ytmegkfonodcoiaa
