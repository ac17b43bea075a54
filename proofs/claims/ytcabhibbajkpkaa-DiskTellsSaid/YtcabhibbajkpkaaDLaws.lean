/-
  What follows of disks, by mathematics alone: what may be stays so; with an error nothing changes.
-/
import Derived.Test.YtcabhibbajkpkaaDMath
namespace Go.Proofs.Ytcabhibbajkpkaa
namespace D

theorem upd_err_same (d : T) (no : Int) (g : F → Int × F) (h : (upd d no g).2 ≠ 0) : (upd d no g).1 = d := by
  unfold upd at h ⊢
  split
  · rename_i hm
    rw [if_pos hm] at h
    cases hi : idx d.2 no with
    | none => rfl
    | some i =>
      simp only [hi] at h ⊢
      split
      · rename_i h0; rw [if_pos h0] at h; exact absurd rfl h
      · rfl
  · rfl
theorem op_err (k no n : Int) (b ps : List Int) (d : T) (h : (op k no n b ps d).2 ≠ 0) : (op k no n b ps d).1 = d := by
  unfold op at h ⊢
  split
  · rename_i h0
    rw [if_pos h0] at h
    unfold make at h ⊢
    split
    · rename_i h1
      rw [if_pos h1] at h
      split
      · rfl
      · rename_i h2
        rw [if_neg h2] at h
        split
        · rfl
        · rename_i h3; rw [if_neg h3] at h; exact absurd rfl h
    · rfl
  · rename_i h0
    rw [if_neg h0] at h
    split
    · rename_i h1; rw [if_pos h1] at h; exact upd_err_same _ _ _ h
    · rename_i h1
      rw [if_neg h1] at h
      split
      · rename_i h2; rw [if_pos h2] at h; exact upd_err_same _ _ _ h
      · rename_i h2
        rw [if_neg h2] at h
        split
        · rename_i h3; rw [if_pos h3] at h; exact upd_err_same _ _ _ h
        · rename_i h3
          rw [if_neg h3] at h
          split
          · rename_i h4
            rw [if_pos h4] at h
            unfold drop at h ⊢
            split
            · rename_i hm
              rw [if_pos hm] at h
              cases hi : idx d.2 no with
              | none => rfl
              | some i => simp only [hi] at h; exact absurd rfl h
            · rfl
          · rename_i h4; rw [if_neg h4] at h; exact absurd rfl h

theorem used_set : ∀ (l : List F) (i : Nat) (y : F), i < l.length → used (l.set i y) + (l.getD i nof).2.1.length = used l + y.2.1.length
  | [], _, _, h => by simp at h
  | f :: l, 0, y, _ => by simp only [List.set_cons_zero, used_cons]; simp; omega
  | f :: l, i + 1, y, h => by
    have := used_set l i y (by simpa using h)
    simp only [List.set_cons_succ, used_cons, List.getD_cons_succ]
    omega
theorem sorted_map (l : List F) : sorted l ↔ (l.map (·.1)).Pairwise (· < ·) := by unfold sorted; rw [List.pairwise_map]
theorem may_set {d : T} {i : Nat} {y : F} (hm : may d) (hi : i < d.2.length) (hn : y.1 = (d.2.getD i nof).1) (hf : fine y) (hu : (used (d.2.set i y) : Int) ≤ d.1) : may (d.1, d.2.set i y) := by
  refine ⟨⟨hm.1.1, hm.1.2.1, by simpa using hm.1.2.2⟩, fun f hf' => ?_, ?_, hu⟩
  · rcases List.mem_or_eq_of_mem_set hf' with h | rfl
    · exact hm.2.1 f h
    · exact hf
  · have h1 := hm.2.2.1
    rw [sorted_map] at h1 ⊢
    rw [List.map_set, hn]
    have : (d.2.map (·.1)).set i (d.2.getD i nof).1 = d.2.map (·.1) := by
      rw [getD_lt hi]
      apply List.ext_getElem?
      intro j
      rw [List.getElem?_set]
      by_cases hj : i = j
      · subst hj; simp [hi]
      · simp [hj]
    rw [this]
    exact h1
theorem sorted_sub {l m : List F} (h : l.Sublist m) (hs : sorted m) : sorted l := List.Pairwise.sublist h hs
theorem used_sub : ∀ {l m : List F}, l.Sublist m → used l ≤ used m
  | _, _, .slnil => Nat.le_refl _
  | _, _, .cons a h => by rw [used_cons]; have := used_sub h; omega
  | _, _, .cons_cons a h => by rw [used_cons, used_cons]; have := used_sub h; omega
theorem two_filters (no : Int) : ∀ l : List F, used (l.filter (fun f => decide (f.1 < no))) + used (l.filter (fun f => decide (no < f.1))) ≤ used l ∧ (l.filter (fun f => decide (f.1 < no))).length + (l.filter (fun f => decide (no < f.1))).length ≤ l.length
  | [] => by simp [used]
  | f :: l => by
    obtain ⟨h1, h2⟩ := two_filters no l
    by_cases a : f.1 < no
    · have b : ¬ no < f.1 := by omega
      simp only [List.filter_cons, a, b, decide_true, decide_false, if_true, used_cons, List.length_cons]
      constructor
      · simp only [Bool.false_eq_true, if_false]; omega
      · simp only [Bool.false_eq_true, if_false]; omega
    · by_cases b : no < f.1
      · simp only [List.filter_cons, a, b, decide_true, decide_false, if_true, used_cons, List.length_cons, Bool.false_eq_true, if_false]
        omega
      · simp only [List.filter_cons, a, b, decide_false, used_cons, List.length_cons, Bool.false_eq_true, if_false]
        omega
theorem may_parts {d : T} {no : Int} {A B : List F} (hm : may d) (hn : 1 ≤ no ∧ no ≤ 1073741824) (h12 : d.2.length ≠ 12) (hA : A.Sublist d.2) (hB : B.Sublist d.2) (ha : ∀ f ∈ A, f.1 < no) (hb : ∀ f ∈ B, no < f.1) (h1 : used A + used B ≤ used d.2) (h2 : A.length + B.length ≤ d.2.length) : may (d.1, A ++ (no, [], 0) :: B) := by
  refine ⟨⟨hm.1.1, hm.1.2.1, ?_⟩, fun f hf => ?_, ?_, ?_⟩
  · have h5 := hm.1.2.2
    show (A ++ (no, [], 0) :: B).length ≤ 12
    rw [List.length_append, List.length_cons]
    omega
  · rcases List.mem_append.1 hf with h | h
    · exact hm.2.1 f (hA.subset h)
    · rcases List.mem_cons.1 h with rfl | h
      · exact ⟨hn.1, hn.2, Int.le_refl _, by simp⟩
      · exact hm.2.1 f (hB.subset h)
  · unfold sorted
    refine List.pairwise_append.2 ⟨sorted_sub hA hm.2.2.1, List.pairwise_cons.2 ⟨fun g hg => hb g hg, sorted_sub hB hm.2.2.1⟩, fun f hf g hg => ?_⟩
    have e1 := ha f hf
    rcases List.mem_cons.1 hg with rfl | hg
    · exact e1
    · have e2 := hb g hg
      omega
  · have h3 := hm.2.2.2
    show ((used (A ++ (no, [], 0) :: B) : Nat) : Int) ≤ d.1
    rw [used_append, used_cons]
    have h4 : ((no, [], 0) : F).2.1.length = 0 := rfl
    rw [h4]
    omega
theorem may_make {d : T} {no : Int} (hm : may d) (hn : 1 ≤ no ∧ no ≤ 1073741824) (h12 : d.2.length ≠ 12) : may (d.1, d.2.filter (fun f => decide (f.1 < no)) ++ (no, [], 0) :: d.2.filter (fun f => decide (no < f.1))) :=
  may_parts hm hn h12 List.filter_sublist List.filter_sublist (fun f hf => by simpa using (List.mem_filter.1 hf).2) (fun f hf => by simpa using (List.mem_filter.1 hf).2) (two_filters no d.2).1 (two_filters no d.2).2
theorem drop_sub (l : List F) (i : Nat) : (l.take i ++ l.drop (i + 1)).Sublist l := by
  conv => rhs; rw [← List.take_append_drop i l]
  refine List.Sublist.append (List.Sublist.refl _) ?_
  rw [show l.drop (i + 1) = (l.drop i).drop 1 by rw [List.drop_drop]]
  exact List.drop_sublist _ _
theorem left_len (f : F) (keep : Int) (hf : fine f) : f.2.2.toNat ≤ (left f keep).length ∧ (left f keep).length ≤ f.2.1.length := by
  have h1 := hf.2.2.1
  have h2 := hf.2.2.2
  unfold left
  rw [List.length_take]
  have : kept keep (f.2.1.length - f.2.2.toNat) ≤ f.2.1.length - f.2.2.toNat := by unfold kept; split; omega; split <;> omega
  omega
theorem torn_len (b : List Int) (s : Nat) : (torn b s).length = b.length := by simp [torn]
theorem after_len (f : F) (keep t : Int) : (after f keep t).2.1.length = (left f keep).length := by
  unfold after; simp only; split
  · rfl
  · exact torn_len _ _
theorem crashed_map : ∀ (l : List F) (ps : List Int), (crashed l ps).map (·.1) = l.map (·.1)
  | [], _ => rfl
  | f :: l, ps => by
    rw [crashed]
    split
    · simp [crashed_map l ps]
    · simp [crashed_map l (ps.drop 2), after]
theorem crashed_used : ∀ (l : List F) (ps : List Int), (∀ f ∈ l, fine f) → used (crashed l ps) ≤ used l
  | [], _, _ => Nat.le_refl _
  | f :: l, ps, h => by
    rw [crashed]
    split
    · rw [used_cons, used_cons]; have := crashed_used l ps (fun g hg => h g (by simp [hg])); omega
    · rw [used_cons, used_cons, after_len]
      have h1 := crashed_used l (ps.drop 2) (fun g hg => h g (by simp [hg]))
      have h2 := (left_len f (ps.getD 0 0) (h f (by simp))).2
      omega
theorem crashed_fine : ∀ (l : List F) (ps : List Int), (∀ f ∈ l, fine f) → ∀ f ∈ crashed l ps, fine f
  | [], _, _, f, hf => by simp [crashed] at hf
  | g :: l, ps, h, f, hf => by
    rw [crashed] at hf
    split at hf
    · rcases List.mem_cons.1 hf with rfl | hf
      · exact h f (by simp)
      · exact crashed_fine l ps (fun g hg => h g (by simp [hg])) f hf
    · rcases List.mem_cons.1 hf with rfl | hf
      · have hg := h g (by simp)
        refine ⟨hg.1, hg.2.1, ?_, ?_⟩
        · show (0 : Int) ≤ ((left g (ps.getD 0 0)).length : Int); omega
        · rw [after_len]; exact Int.le_refl _
      · exact crashed_fine l (ps.drop 2) (fun g hg => h g (by simp [hg])) f hf
theorem crashed_len (l : List F) (ps : List Int) : (crashed l ps).length = l.length := by
  have := congrArg List.length (crashed_map l ps)
  simpa using this
theorem may_crash (d : T) (ps : List Int) (hm : may d) : may (d.1, crashed d.2 ps) := by
  refine ⟨⟨hm.1.1, hm.1.2.1, by simpa [crashed_len] using hm.1.2.2⟩, crashed_fine d.2 ps hm.2.1, ?_, ?_⟩
  · have h := hm.2.2.1
    rw [sorted_map] at h ⊢
    simpa [crashed_map] using h
  · have h1 := crashed_used d.2 ps hm.2.1
    have h2 := hm.2.2.2
    simp only
    omega
theorem may_upd {d : T} {no : Int} {g : F → Int × F} (hm : may d) (hg : ∀ f, fine f → (g f).1 = 0 → (g f).2.1 = f.1 ∧ fine (g f).2 ∧ (used d.2 : Int) + (g f).2.2.1.length ≤ d.1 + f.2.1.length) : may (upd d no g).1 := by
  unfold upd
  rw [if_pos hm]
  cases hi : idx d.2 no with
  | none => exact hm
  | some i =>
    simp only
    split
    · rename_i h0
      obtain ⟨h1, _⟩ := idx_some hi
      have hf : fine (d.2.getD i nof) := by rw [getD_lt h1]; exact hm.2.1 _ (List.getElem_mem h1)
      obtain ⟨h2, h3, h4⟩ := hg _ hf h0
      refine may_set hm h1 h2 h3 ?_
      have h5 := used_set d.2 i (g (d.2.getD i nof)).2 h1
      omega
    · exact hm
theorem op_may (k no n : Int) (b ps : List Int) (d : T) : may (op k no n b ps d).1 ↔ may d := by
  by_cases hm : may d
  · refine iff_of_true ?_ hm
    have hu := hm.2.2.2
    unfold op
    split
    · unfold make
      split
      · rename_i h1
        split
        · exact hm
        · split
          · exact hm
          · rename_i h3; exact may_make hm h1.2 h3
      · exact hm
    · split
      · refine may_upd hm fun f hf h0 => ?_
        split at h0
        · simp at h0
        · rename_i h1
          rw [if_neg h1]
          refine ⟨rfl, ⟨hf.1, hf.2.1, hf.2.2.1, ?_⟩, ?_⟩
          · have := hf.2.2.2; simp only [List.length_append]; omega
          · simp only [List.length_append]; omega
      · split
        · refine may_upd hm fun f hf h0 => ⟨rfl, ⟨hf.1, hf.2.1, ?_, ?_⟩, ?_⟩
          · show (0 : Int) ≤ (f.2.1.length : Int); omega
          · exact Int.le_refl _
          · simp only; omega
        · split
          · refine may_upd hm fun f hf h0 => ?_
            split at h0
            · simp at h0
            · rename_i h1
              rw [if_neg h1]
              have hl : (f.2.1.take n.toNat).length = n.toNat := by simp; omega
              refine ⟨rfl, ⟨hf.1, hf.2.1, ?_, ?_⟩, ?_⟩
              · show (0 : Int) ≤ n; omega
              · show n ≤ ((f.2.1.take n.toNat).length : Int); omega
              · show (used d.2 : Int) + ((f.2.1.take n.toNat).length : Int) ≤ d.1 + f.2.1.length; omega
          · split
            · unfold drop
              rw [if_pos hm]
              cases hi : idx d.2 no with
              | none => exact hm
              | some i =>
                have hs := drop_sub d.2 i
                refine ⟨⟨hm.1.1, hm.1.2.1, Nat.le_trans hs.length_le hm.1.2.2⟩, fun f hf => hm.2.1 f (hs.subset hf), sorted_sub hs hm.2.2.1, ?_⟩
                have := used_sub hs
                simp only
                omega
            · unfold crash
              rw [if_pos hm]
              exact may_crash d ps hm
  · refine iff_of_false (fun h => hm ?_) hm
    have : (op k no n b ps d).1 = d := by
      unfold op make write sync cut drop crash upd
      simp only [if_neg hm, if_neg (fun h : may d ∧ 1 ≤ no ∧ no ≤ 1073741824 => hm h.1)]
      repeat (split; rfl)
      rfl
    rwa [this] at h

theorem idx_isSome (l : List F) (no : Int) : (idx l no).isSome = true ↔ ∃ f ∈ l, f.1 = no := by
  constructor
  · intro h
    cases hi : idx l no with
    | none => rw [hi] at h; simp at h
    | some i =>
      obtain ⟨h1, h2⟩ := idx_some hi
      exact ⟨l[i], List.getElem_mem h1, by rw [getD_lt h1] at h2; exact h2⟩
  · rintro ⟨f, hf, hn⟩
    cases hi : idx l no with
    | none => exact absurd hn (idx_none hi f hf)
    | some i => rfl
theorem find_of {d : T} {no : Int} (hm : may d) : (∃ i : Nat, idx d.2 no = some i ∧ find d no = i ∧ i < d.2.length ∧ (d.2.getD i nof).1 = no) ∨ (idx d.2 no = none ∧ find d no = -1) := by
  unfold find
  rw [if_pos hm]
  cases hi : idx d.2 no with
  | none => exact .inr ⟨rfl, rfl⟩
  | some i => obtain ⟨h1, h2⟩ := idx_some hi; exact .inl ⟨i, rfl, rfl, h1, h2⟩
theorem find_bool {d : T} {no : Int} (hm : may d) : decide (0 ≤ find d no) = (idx d.2 no).isSome := by
  rcases find_of (no := no) hm with ⟨i, h1, h2, _⟩ | ⟨h1, h2⟩
  · rw [h1, h2]; simp
  · rw [h1, h2]; rfl
/-- What Make leaves. -/
theorem make_of (d : T) (no : Int) : ((make d no).2 ≠ 0 ∧ (make d no).1 = d) ∨ ((make d no).2 = 0 ∧ (make d no).1.2.length = d.2.length + 1 ∧ (∀ f ∈ (make d no).1.2, f.1 = no → f = (no, [], 0)) ∧ (∃ f ∈ (make d no).1.2, f.1 = no) ∧ ∀ o, o ≠ no → ((∃ f ∈ (make d no).1.2, f.1 = o) ↔ ∃ f ∈ d.2, f.1 = o)) := by
  by_cases h : (make d no).2 = 0
  · refine .inr ?_
    unfold make at h ⊢
    split
    · rename_i h1
      rw [if_pos h1] at h
      split
      · rename_i h2; rw [if_pos h2] at h; simp at h
      · rename_i h2
        rw [if_neg h2] at h
        have hnone : ∀ f ∈ d.2, f.1 ≠ no := by
          cases hi : idx d.2 no with
          | none => exact idx_none hi
          | some i => rw [hi] at h2; simp at h2
        split
        · rename_i h3; rw [if_pos h3] at h; simp at h
        · have mem : ∀ f, f ∈ (d.2.filter (fun f => decide (f.1 < no)) ++ (no, [], 0) :: d.2.filter (fun f => decide (no < f.1))) ↔ f = (no, [], 0) ∨ f ∈ d.2 := by
            intro f
            rw [List.mem_append, List.mem_cons, List.mem_filter, List.mem_filter]
            constructor
            · rintro (h | h | h)
              · exact .inr h.1
              · exact .inl h
              · exact .inr h.1
            · rintro (h | h)
              · exact .inr (.inl h)
              · have := hnone f h
                by_cases hl : f.1 < no
                · exact .inl ⟨h, by simpa using hl⟩
                · exact .inr (.inr ⟨h, by simp; omega⟩)
          have hlen : ∀ l : List F, (∀ f ∈ l, f.1 ≠ no) → (l.filter (fun f => decide (f.1 < no))).length + (l.filter (fun f => decide (no < f.1))).length = l.length := by
            intro l
            induction l with
            | nil => intro _; rfl
            | cons f l ih =>
              intro hl
              have h1 := ih (fun g hg => hl g (by simp [hg]))
              have h2 := hl f (by simp)
              by_cases a : f.1 < no
              · have b : ¬ no < f.1 := by omega
                simp only [List.filter_cons, a, b, decide_true, decide_false, if_true, List.length_cons, Bool.false_eq_true, if_false]; omega
              · have b : no < f.1 := by omega
                simp only [List.filter_cons, a, b, decide_true, decide_false, if_true, List.length_cons, Bool.false_eq_true, if_false]; omega
          refine ⟨rfl, ?_, fun f hf hn => ?_, ⟨(no, [], 0), (mem _).2 (.inl rfl), rfl⟩, fun o ho => ?_⟩
          · simp only [List.length_append, List.length_cons]
            have h4 := hlen d.2 hnone
            rw [← h4]
            rfl
          · rcases (mem f).1 hf with h | h
            · exact h
            · exact absurd hn (hnone f h)
          · constructor
            · rintro ⟨f, hf, hn⟩
              rcases (mem f).1 hf with rfl | h
              · exact absurd hn.symm ho
              · exact ⟨f, h, hn⟩
            · rintro ⟨f, hf, hn⟩
              exact ⟨f, (mem f).2 (.inr hf), hn⟩
    · rename_i h1; rw [if_neg h1] at h; simp at h
  · refine .inl ⟨h, ?_⟩
    have := op_err 0 no 0 [] [] d (by simpa [op] using h)
    simpa [op] using this
/-- What Drop leaves. -/
theorem drop_of {d : T} {no : Int} (hm : may d) : ((drop d no).2 ≠ 0 ∧ (drop d no).1 = d ∧ idx d.2 no = none) ∨ ((drop d no).2 = 0 ∧ (drop d no).1.2.length + 1 = d.2.length ∧ (idx d.2 no).isSome = true ∧ (∀ f ∈ (drop d no).1.2, f.1 ≠ no) ∧ ∀ o, o ≠ no → ((∃ f ∈ (drop d no).1.2, f.1 = o) ↔ ∃ f ∈ d.2, f.1 = o)) := by
  unfold drop
  rw [if_pos hm]
  cases hi : idx d.2 no with
  | none => exact .inl ⟨by simp, rfl, rfl⟩
  | some i =>
    refine .inr ?_
    obtain ⟨h1, h2⟩ := idx_some hi
    have hmem : ∀ f, f ∈ d.2 ↔ f ∈ d.2.take i ++ d.2.drop (i + 1) ∨ f = d.2.getD i nof := by
      intro f
      have e : d.2 = d.2.take i ++ d.2.getD i nof :: d.2.drop (i + 1) := by
        rw [getD_lt h1, ← List.drop_eq_getElem_cons h1, List.take_append_drop]
      conv => lhs; rw [e]
      rw [List.mem_append, List.mem_cons, List.mem_append]
      constructor
      · rintro (h | h | h)
        · exact .inl (.inl h)
        · exact .inr h
        · exact .inl (.inr h)
      · rintro ((h | h) | h)
        · exact .inl h
        · exact .inr (.inr h)
        · exact .inr (.inl h)
    refine ⟨rfl, by simp; omega, rfl, fun f hf hn => ?_, fun o ho => ?_⟩
    · rcases List.mem_append.1 hf with h | h
      · obtain ⟨j, hj, rfl⟩ := List.mem_iff_getElem.1 h
        have hj' : j < i := by simp at hj; omega
        have h3 := sorted_lt hm.2.2.1 hj' h1
        rw [getD_lt (by omega)] at h3
        simp only [List.getElem_take] at hn
        omega
      · obtain ⟨j, hj, rfl⟩ := List.mem_iff_getElem.1 h
        have hj' : i + 1 + j < d.2.length := by simp at hj; omega
        have h3 := sorted_lt hm.2.2.1 (show i < i + 1 + j by omega) hj'
        rw [getD_lt hj'] at h3
        simp only [List.getElem_drop] at hn
        omega
    · constructor
      · rintro ⟨f, hf, hn⟩; exact ⟨f, (hmem f).2 (.inl hf), hn⟩
      · rintro ⟨f, hf, hn⟩
        rcases (hmem f).1 hf with h | rfl
        · exact ⟨f, h, hn⟩
        · rw [h2] at hn; exact absurd hn.symm ho
theorem some_eq {l m : List F} {o : Int} (h : (∃ f ∈ l, f.1 = o) ↔ ∃ f ∈ m, f.1 = o) : (idx l o).isSome = (idx m o).isSome := by
  rw [Bool.eq_iff_iff, idx_isSome, idx_isSome]; exact h
end D
end Go.Proofs.Ytcabhibbajkpkaa
