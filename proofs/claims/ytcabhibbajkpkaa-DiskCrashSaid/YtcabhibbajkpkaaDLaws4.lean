/-
  What follows of disks, more: behind a crash all is sure.
-/
import Derived.Test.YtcabhibbajkpkaaDLaws3
namespace Go.Proofs.Ytcabhibbajkpkaa
namespace D

theorem crashed_sure : ∀ (l : List F) (ps : List Int), (∀ f ∈ l, f.2.2 = (f.2.1.length : Int)) → crashed l ps = l
  | [], _, _ => rfl
  | f :: l, ps, h => by
    rw [crashed, if_pos (h f (by simp)), crashed_sure l ps (fun g hg => h g (by simp [hg]))]
theorem after_sure (f : F) (q t : Int) : (after f q t).2.2 = ((after f q t).2.1.length : Int) := by rw [after_len]; rfl
theorem crashed_all : ∀ (l : List F) (ps : List Int), ∀ f ∈ crashed l ps, f.2.2 = (f.2.1.length : Int)
  | [], _, f, hf => by simp [crashed] at hf
  | g :: l, ps, f, hf => by
    rw [crashed] at hf
    split at hf
    · rename_i hs
      rcases List.mem_cons.1 hf with rfl | hf
      · exact hs
      · exact crashed_all l ps f hf
    · rcases List.mem_cons.1 hf with rfl | hf
      · exact after_sure _ _ _
      · exact crashed_all l (ps.drop 2) f hf
/-- Is all of all files sure? -/
def sureAll (l : List F) : Bool := l.all fun f => decide (f.2.2 = (f.2.1.length : Int))
theorem sureAll_snoc (l : List F) (f : F) : sureAll (l ++ [f]) = (sureAll l && decide (f.2.2 = (f.2.1.length : Int))) := by simp [sureAll]
theorem sureAll_iff (l : List F) : sureAll l = true ↔ ∀ f ∈ l, f.2.2 = (f.2.1.length : Int) := by simp [sureAll]
/-- What a crash leaves of a file. -/
def leaves (f g : F) : Prop := g.1 = f.1 ∧ f.2.2 ≤ (g.2.1.length : Int) ∧ g.2.1.length ≤ f.2.1.length ∧ ∀ k, k + 8 < g.2.1.length → g.2.1.getD k 0 = f.2.1.getD k 0
theorem leaves_after {f : F} (h : fine f) (q t : Int) : leaves f (after f q t) := by
  have h1 := left_len f q h
  have h2 := h.2.2.1
  have hl := after_len f q t
  refine ⟨rfl, by rw [hl]; omega, by rw [hl]; exact h1.2, fun k hk => ?_⟩
  rw [hl] at hk
  have e : (left f q).getD k 0 = f.2.1.getD k 0 := by
    have h3 : k < f.2.1.length := by omega
    have h4 : (left f q)[k]? = f.2.1[k]? := by
      unfold left at hk ⊢
      rw [List.getElem?_take]
      rw [List.length_take] at hk
      rw [if_pos (by omega)]
    simp only [List.getD_eq_getElem?_getD, h4]
  unfold after
  simp only
  split
  · exact e
  · rw [← e]
    simp only [List.getD_eq_getElem?_getD, torn, List.getElem?_mapIdx]
    cases (left f q)[k]? with
    | none => rfl
    | some c => simp only [Option.map_some, Option.getD_some]; rw [if_neg (by omega)]
theorem crashed_leaves : ∀ (l : List F) (ps : List Int) (j : Nat), (∀ f ∈ l, fine f) → j < l.length → leaves (l.getD j nof) ((crashed l ps).getD j nof)
  | [], _, _, _, h => by simp at h
  | f :: l, ps, j, hf, h => by
    have hx := hf f (by simp)
    have hl : ∀ f ∈ l, fine f := fun g hg => hf g (by simp [hg])
    rw [crashed]
    cases j with
    | zero =>
      split
      · exact ⟨rfl, hx.2.2.2, Nat.le_refl _, fun _ _ => rfl⟩
      · exact leaves_after hx _ _
    | succ j =>
      have h1 : j < l.length := by simpa using h
      split
      · simpa using crashed_leaves l ps j hl h1
      · simpa using crashed_leaves l (ps.drop 2) j hl h1
end D
end Go.Proofs.Ytcabhibbajkpkaa
