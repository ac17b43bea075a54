/-
  What follows of disks, more: what is sure stays, whatever is done to others, and whatever crashes.
-/
import Derived.Test.YtcabhibbajkpkaaDLaws
namespace Go.Proofs.Ytcabhibbajkpkaa
namespace D

theorem uniq {l : List F} (hs : sorted l) {f g : F} (hf : f ∈ l) (hg : g ∈ l) (h : f.1 = g.1) : f = g := by
  obtain ⟨i, hi, rfl⟩ := List.mem_iff_getElem.1 hf
  obtain ⟨j, hj, rfl⟩ := List.mem_iff_getElem.1 hg
  have h1 : i = j := by
    rcases Nat.lt_trichotomy i j with h2 | h2 | h2
    · have h3 := sorted_lt hs h2 hj; rw [getD_lt hi, getD_lt hj] at h3; omega
    · exact h2
    · have h3 := sorted_lt hs h2 hi; rw [getD_lt hi, getD_lt hj] at h3; omega
  subst h1
  rfl
/-- What is sure of f is sure of g. -/
def keeps (f g : F) : Prop := f.2.2 ≤ g.2.2 ∧ f.2.2 ≤ (g.2.1.length : Int) ∧ g.2.1.take f.2.2.toNat = f.2.1.take f.2.2.toNat
theorem keeps_refl {f : F} (h : fine f) : keeps f f := ⟨Int.le_refl _, h.2.2.2, rfl⟩
theorem torn_take (b : List Int) (s : Nat) : (torn b s).take s = b.take s := by
  apply List.ext_getElem?
  intro i
  rw [List.getElem?_take, List.getElem?_take]
  by_cases hi : i < s
  · rw [if_pos hi, if_pos hi, torn, List.getElem?_mapIdx]
    cases b[i]? with
    | none => rfl
    | some c => simp only [Option.map_some]; rw [if_neg (by omega)]
  · rw [if_neg hi, if_neg hi]
theorem keeps_after {f : F} (h : fine f) (q t : Int) : keeps f (after f q t) := by
  have h1 := left_len f q h
  have h2 := h.2.2.1
  have hl := after_len f q t
  refine ⟨?_, ?_, ?_⟩
  · show f.2.2 ≤ ((left f q).length : Int); omega
  · rw [hl]; omega
  · have h3 : (left f q).take f.2.2.toNat = f.2.1.take f.2.2.toNat := by
      unfold left
      rw [List.take_take, Nat.min_eq_left (by omega)]
    unfold after
    simp only
    split
    · exact h3
    · rw [torn_take]; exact h3
theorem crashed_keeps : ∀ (l : List F) (ps : List Int), (∀ f ∈ l, fine f) → ∀ f ∈ l, ∃ g ∈ crashed l ps, g.1 = f.1 ∧ keeps f g
  | [], _, _, f, hf => by simp at hf
  | x :: l, ps, h, f, hf => by
    rw [crashed]
    have hx := h x (by simp)
    have hl : ∀ f ∈ l, fine f := fun g hg => h g (by simp [hg])
    split
    · rcases List.mem_cons.1 hf with rfl | hf
      · exact ⟨f, by simp, rfl, keeps_refl hx⟩
      · obtain ⟨g, hg, h1⟩ := crashed_keeps l ps hl f hf
        exact ⟨g, by simp [hg], h1⟩
    · rcases List.mem_cons.1 hf with rfl | hf
      · exact ⟨_, List.mem_cons_self, rfl, keeps_after hx _ _⟩
      · obtain ⟨g, hg, h1⟩ := crashed_keeps l (ps.drop 2) hl f hf
        exact ⟨g, by simp [hg], h1⟩
theorem mem_set_ne {l : List F} {i j : Nat} {y : F} (hi : i < l.length) (h : i ≠ j) : l.getD i nof ∈ l.set j y := by
  rw [getD_lt hi]
  refine List.mem_iff_getElem.2 ⟨i, by simpa using hi, ?_⟩
  rw [List.getElem_set, if_neg (Ne.symm h)]
theorem upd_keeps {d : T} {on : Int} {g : F → Int × F} (hm : may d) (hg : ∀ f, fine f → (g f).1 = 0 → (g f).2.1 = f.1 ∧ keeps f (g f).2) : ∀ f ∈ d.2, ∃ y ∈ (upd d on g).1.2, y.1 = f.1 ∧ keeps f y := by
  intro f hf
  have hff := hm.2.1 f hf
  unfold upd
  rw [if_pos hm]
  cases hi : idx d.2 on with
  | none => exact ⟨f, hf, rfl, keeps_refl hff⟩
  | some j =>
    simp only
    split
    · rename_i h0
      obtain ⟨h1, _⟩ := idx_some hi
      obtain ⟨i, hil, hfi⟩ := List.mem_iff_getElem.1 hf
      by_cases hij : i = j
      · subst hij
        have e : d.2.getD i nof = f := by rw [getD_lt hil]; exact hfi
        rw [e] at h0 ⊢
        refine ⟨(g f).2, ?_, hg f hff h0⟩
        exact List.mem_iff_getElem.2 ⟨i, by simpa using hil, by simp⟩
      · refine ⟨f, ?_, rfl, keeps_refl hff⟩
        have h2 := mem_set_ne (y := (g (d.2.getD j nof)).2) hil hij
        rw [getD_lt hil, hfi] at h2
        exact h2
    · exact ⟨f, hf, rfl, keeps_refl hff⟩
theorem upd_other {d : T} {on : Int} {g : F → Int × F} (hm : may d) {f : F} (hf : f ∈ d.2) (hne : f.1 ≠ on) : f ∈ (upd d on g).1.2 := by
  unfold upd
  rw [if_pos hm]
  cases hi : idx d.2 on with
  | none => exact hf
  | some j =>
    simp only
    split
    · obtain ⟨h1, h2⟩ := idx_some hi
      obtain ⟨i, hil, hfi⟩ := List.mem_iff_getElem.1 hf
      have hij : i ≠ j := by rintro rfl; rw [getD_lt hil, hfi] at h2; exact hne h2
      have h4 := mem_set_ne (y := (g (d.2.getD j nof)).2) hil hij
      rw [getD_lt hil, hfi] at h4
      exact h4
    · exact hf
theorem op_keeps (k on n : Int) (b ps : List Int) {d : T} (hm : may d) {f : F} (hf : f ∈ d.2) (hno : ¬ (on = f.1 ∧ (k = 3 ∨ k = 4))) : ∃ g ∈ (op k on n b ps d).1.2, g.1 = f.1 ∧ keeps f g := by
  have hff := hm.2.1 f hf
  have self : ∀ l : List F, f ∈ l → ∃ g ∈ l, g.1 = f.1 ∧ keeps f g := fun l h => ⟨f, h, rfl, keeps_refl hff⟩
  unfold op
  split
  · unfold make
    split
    · split
      · exact self _ hf
      · rename_i h2
        split
        · exact self _ hf
        · refine self _ ?_
          have h3 : f.1 ≠ on := by
            cases hi : idx d.2 on with
            | none => exact idx_none hi f hf
            | some i => rw [hi] at h2; simp at h2
          by_cases hl : f.1 < on
          · exact List.mem_append.2 (.inl (List.mem_filter.2 ⟨hf, by simpa using hl⟩))
          · exact List.mem_append.2 (.inr (List.mem_cons.2 (.inr (List.mem_filter.2 ⟨hf, by simp; omega⟩))))
    · exact self _ hf
  · split
    · refine upd_keeps hm (fun x hx h0 => ?_) f hf
      split at h0
      · simp at h0
      · rename_i h1
        rw [if_neg h1]
        refine ⟨rfl, Int.le_refl _, ?_, ?_⟩
        · have := hx.2.2.2; simp only [List.length_append]; omega
        · have := hx.2.2.2
          simp only
          rw [List.take_append_of_le_length (by omega)]
    · split
      · refine upd_keeps hm (fun x hx h0 => ⟨rfl, hx.2.2.2, hx.2.2.2, rfl⟩) f hf
      · split
        · rename_i h3
          have hne : on ≠ f.1 := fun h => hno ⟨h, .inl h3⟩
          exact self _ (upd_other hm hf (Ne.symm hne))
        · split
          · rename_i h3 h4
            have hne : on ≠ f.1 := fun h => hno ⟨h, .inr h4⟩
            unfold drop
            rw [if_pos hm]
            cases hi : idx d.2 on with
            | none => exact self _ hf
            | some j =>
              obtain ⟨h1, h2⟩ := idx_some hi
              refine self _ ?_
              have e : d.2 = d.2.take j ++ d.2.getD j nof :: d.2.drop (j + 1) := by
                rw [getD_lt h1, ← List.drop_eq_getElem_cons h1, List.take_append_drop]
              rw [e] at hf
              rcases List.mem_append.1 hf with h | h
              · exact List.mem_append.2 (.inl h)
              · rcases List.mem_cons.1 h with h | h
                · rw [h] at hne; exact absurd h2.symm hne
                · exact List.mem_append.2 (.inr h)
          · unfold crash
            rw [if_pos hm]
            exact crashed_keeps d.2 ps hm.2.1 f hf
/-- The file of a number, behind what is done. -/
theorem op_sure (k on n : Int) (b ps : List Int) {d : T} (hm : may d) {no : Int} {i : Nat} (hi : idx d.2 no = some i) (hno : ¬ (on = no ∧ (k = 3 ∨ k = 4))) : ∃ j : Nat, find (op k on n b ps d).1 no = j ∧ j < (op k on n b ps d).1.2.length ∧ keeps (d.2.getD i nof) ((op k on n b ps d).1.2.getD j nof) := by
  obtain ⟨h1, h2⟩ := idx_some hi
  have hf : d.2.getD i nof ∈ d.2 := by rw [getD_lt h1]; exact List.getElem_mem h1
  obtain ⟨g, hg, hg1, hg2⟩ := op_keeps k on n b ps hm hf (by rw [h2]; exact hno)
  have hm2 := (op_may k on n b ps d).2 hm
  rcases find_of (no := no) hm2 with ⟨j, h3, h4, h5, h6⟩ | ⟨h3, _⟩
  · refine ⟨j, h4, h5, ?_⟩
    have : (op k on n b ps d).1.2.getD j nof = g := by
      refine uniq hm2.2.2.1 (by rw [getD_lt h5]; exact List.getElem_mem h5) hg ?_
      rw [h6, hg1, h2]
    rw [this]; exact hg2
  · exact absurd (hg1.trans h2) (idx_none h3 g hg)
end D
end Go.Proofs.Ytcabhibbajkpkaa
