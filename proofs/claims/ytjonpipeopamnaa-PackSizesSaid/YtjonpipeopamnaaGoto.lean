/-
  A body that jumps back to one label: the way to the label is walked once, each round once.
-/
import Derived.Test.YtjonpipeopamnaaKit
import Derived.ScopeJumps
import Derived.Deep.RegionWith
namespace Go.Proofs.Ytjonpipeopamnaa
open Go.RowKit

theorem least_of {P : Nat → Prop} (h : ∃ n, P n) : ∃ n, P n ∧ ∀ m, P m → n ≤ m := by
  obtain ⟨n, hn⟩ := h
  induction n using Nat.strongRecOn with
  | _ n ih =>
    by_cases hm : ∃ m, m < n ∧ P m
    · obtain ⟨m, h1, h2⟩ := hm
      exact ih m h1 h2
    · exact ⟨n, hn, fun m hP => Nat.le_of_not_lt fun hlt => hm ⟨m, hlt, hP⟩⟩
open Classical in
/-- The least measure of a state. -/
noncomputable def leastM (J : Nat → Act → World → Prop) (a : Act) (w : World) : Nat := if h : ∃ n, J n a w then (least_of h).choose else 0
theorem leastM_le {J : Nat → Act → World → Prop} {a : Act} {w : World} {n : Nat} (h : J n a w) : leastM J a w ≤ n := by
  unfold leastM
  rw [dif_pos ⟨n, h⟩]
  exact (least_of (P := fun n => J n a w) ⟨n, h⟩).choose_spec.2 n h
theorem leastM_at {J : Nat → Act → World → Prop} {a : Act} {w : World} (h : ∃ n, J n a w) : J (leastM J a w) a w := by
  unfold leastM
  rw [dif_pos h]
  exact (least_of h).choose_spec.1

/-- A body that jumps back to one label: what holds there ('J n', n the measure); of what stands behind the label. -/
theorem wp_scope_goto {P : Program} {a : Act} {w : World} {Q : Exit → Act → World → Prop} {c y : Code} (l : Nat) (J : Nat → Act → World → Prop) (hf : findLabel c l = some (.seq .skip y))
    (pass : ∀ n a w, J n a w → y.wp P (Exit.jump l (fun a' w' => ∃ n', n' < n ∧ J n' a' w') Q) a w)
    (first : (∀ n a w, J n a w → y.wp P (Exit.jump l (fun a' w' => ∃ n, J n a' w') Q) a w) → c.wp P (Exit.jump l (fun a' w' => ∃ n, J n a' w') Q) a w) : (Code.scope c).wp P Q a w := by
  refine wp_scope_jumps l (fun a w => ∃ n, J n a w) (leastM J) hf (first fun n a w hJ => wp_mono (pass n a w hJ) ?_) fun a w hJ => wp_seq (wp_skip (wp_mono (pass _ a w (leastM_at hJ)) ?_))
  · intro e a' w' h
    cases e with
    | goto l' => obtain ⟨h1, n', _, h2⟩ := h; exact ⟨h1, n', h2⟩
    | _ => exact h
  · intro e a' w' h
    cases e with
    | goto l' =>
      obtain ⟨h1, n', h2, h3⟩ := h
      exact ⟨h1, ⟨n', h3⟩, Nat.lt_of_le_of_lt (leastM_le h3) h2⟩
    | _ => exact h
end Go.Proofs.Ytjonpipeopamnaa
