/-
  What the laws of wheels say of the document's answers.
-/
import Derived.Test.YtmegkfonodcoiaaWMath
import Derived.Lib.Hide
namespace Go.Proofs.Ytmegkfonodcoiaa
namespace W
theorem filter_may {k : Int} {l : List Tm} (h : May k l) (p : Tm → Bool) : May k (l.filter p) :=
  ⟨h.1, h.2.1, Nat.le_trans (List.length_filter_le _ _) h.2.2.1, fun t ht => h.2.2.2.1 t (List.mem_filter.1 ht).1, h.2.2.2.2.1.filter p, h.2.2.2.2.2.filter p⟩
theorem add_eq {k : Int} {l : List Tm} {id at' : Int} (h : May k l) : (add k l id at' = (ins (id, at') l, 0) ∧ 0 ≤ id ∧ k < at' ∧ at' ≤ 1073741824 ∧ has l id = false ∧ l.length < 64) ∨ ∃ e, add k l id at' = (l, e) ∧ e ≠ 0 := by
  unfold add
  have hm := may_iff.2 h
  by_cases h1 : id < 0
  · exact .inr ⟨1, by rw [if_pos (.inr h1)], by decide⟩
  · rw [if_neg (by rw [hm]; simpa using h1)]
    by_cases h2 : at' ≤ k ∨ 1073741824 < at'
    · exact .inr ⟨10, by rw [if_pos h2], by decide⟩
    · rw [if_neg h2]
      by_cases h3 : has l id = true
      · exact .inr ⟨11, by rw [if_pos h3], by decide⟩
      · rw [if_neg h3]
        by_cases h4 : l.length = 64
        · exact .inr ⟨9, by rw [if_pos h4], by decide⟩
        · rw [if_neg h4]
          exact .inl ⟨rfl, by omega, by omega, by omega, by simpa using h3, by have := h.2.2.1; omega⟩
theorem ins_may {k : Int} {l : List Tm} {id at' : Int} (h : May k l) (h0 : 0 ≤ id) (h1 : k < at') (h2 : at' ≤ 1073741824) (h3 : has l id = false) (h4 : l.length < 64) : May k (ins (id, at') l) := by
  have hp := ins_perm (id, at') l
  have hne : ∀ t ∈ l, t ≠ (id, at') := fun t ht e => has_false.1 h3 t ht (by rw [e])
  refine ⟨h.1, h.2.1, by rw [hp.length_eq]; simp; omega, fun t ht => ?_, ins_asc h.2.2.2.2.1 hne, ?_⟩
  · rcases List.mem_cons.1 (hp.mem_iff.1 ht) with rfl | ht
    · exact ok_iff.2 ⟨h0, h1, h2⟩
    · exact h.2.2.2.1 t ht
  · refine Ids.perm (List.pairwise_cons.2 ⟨fun t ht => ?_, h.2.2.2.2.2⟩) hp.symm
    exact Ne.symm (has_false.1 h3 t ht)
theorem add_may {k : Int} {l : List Tm} {id at' : Int} (h : May k l) : May k (add k l id at').1 := by
  rcases add_eq (id := id) (at' := at') h with ⟨he, h0, h1, h2, h3, h4⟩ | ⟨e, he, _⟩
  · rw [he]; exact ins_may h h0 h1 h2 h3 h4
  · rw [he]; exact h
theorem add_err {k : Int} {l : List Tm} {id at' : Int} (h : May k l) (he : (add k l id at').2 ≠ 0) : (add k l id at').1 = l := by
  rcases add_eq (id := id) (at' := at') h with ⟨h0, _⟩ | ⟨e, h0, _⟩
  · rw [h0] at he; exact absurd rfl he
  · rw [h0]
theorem drop_may {k : Int} {l : List Tm} {id : Int} (h : May k l) : May k (drop k l id).1 := by
  unfold drop
  split
  · exact filter_may h _
  · exact h
theorem filter_ins {x : Tm} {p : Tm → Bool} (hx : p x = false) : ∀ {l : List Tm}, (∀ t ∈ l, p t = true) → (ins x l).filter p = l
  | [], _ => by simp [ins, hx]
  | y :: l, h => by
    have hy := h y List.mem_cons_self
    have hl := fun t ht => h t (List.mem_cons_of_mem _ ht)
    unfold ins
    split
    · rw [List.filter_cons, if_neg (by simp [hx]), List.filter_cons, if_pos hy, List.filter_eq_self.2 hl]
    · rw [List.filter_cons, if_pos hy, filter_ins hx hl]
theorem add_drop {k : Int} {l : List Tm} {id at' : Int} (h : May k l) (he : (add k l id at').2 = 0) : drop k (add k l id at').1 id = (l, true) ∧ (add k l id at').1.length = l.length + 1 := by
  rcases add_eq (id := id) (at' := at') h with ⟨h0, a0, a1, a2, a3, a4⟩ | ⟨e, h0, hne⟩
  · rw [h0]
    refine ⟨?_, by show (ins _ _).length = _; rw [(ins_perm _ l).length_eq]; simp⟩
    unfold drop
    rw [if_pos ⟨may_iff.2 (ins_may h a0 a1 a2 a3 a4), has_iff.2 ⟨(id, at'), (ins_perm _ l).mem_iff.2 List.mem_cons_self, rfl⟩⟩]
    rw [filter_ins (by simp) (fun t ht => by simpa using has_false.1 a3 t ht)]
  · rw [h0] at he; exact absurd he hne
theorem step_eq {k : Int} {l : List Tm} {tt : Int} (h : May k l) : (step k l tt = ((tt, left tt l), due tt l, 0) ∧ k ≤ tt ∧ tt ≤ 1073741824) ∨ ∃ e, step k l tt = ((k, l), [], e) ∧ e ≠ 0 := by
  unfold step
  rw [if_neg (by rw [may_iff.2 h]; simp)]
  by_cases h2 : tt < k ∨ 1073741824 < tt
  · exact .inr ⟨10, by rw [if_pos h2], by decide⟩
  · exact .inl ⟨by rw [if_neg h2], by omega, by omega⟩
theorem step_bad {k : Int} {l : List Tm} {tt : Int} (h : ¬ May k l) : step k l tt = ((k, l), [], 1) := by
  unfold step; rw [if_pos (by unfold may; exact decide_eq_false h)]
theorem left_may {k : Int} {l : List Tm} {tt : Int} (h : May k l) (h1 : k ≤ tt) (h2 : tt ≤ 1073741824) : May tt (left tt l) := by
  have hf := filter_may h (fun t => decide (tt < t.2))
  refine ⟨by have := h.1; omega, h2, hf.2.2.1, fun t ht => ?_, hf.2.2.2.2.1, hf.2.2.2.2.2⟩
  have h3 := ok_iff.1 (hf.2.2.2.1 t ht)
  exact ok_iff.2 ⟨h3.1, of_decide_eq_true (List.mem_filter.1 ht).2, h3.2.2⟩
theorem step_may {k : Int} {l : List Tm} {tt : Int} (h : May k l) : May (step k l tt).1.1 (step k l tt).1.2 := by
  rcases step_eq (tt := tt) h with ⟨he, h1, h2⟩ | ⟨e, he, _⟩
  · rw [he]; exact left_may h h1 h2
  · rw [he]; exact h
theorem step_err {k : Int} {l : List Tm} {tt : Int} (he : (step k l tt).2.2 ≠ 0) : (step k l tt).1 = (k, l) ∧ (step k l tt).2.1 = [] := by
  by_cases hm : May k l
  · rcases step_eq (tt := tt) hm with ⟨h0, _⟩ | ⟨e, h0, _⟩
    · rw [h0] at he; exact absurd rfl he
    · rw [h0]; exact ⟨rfl, rfl⟩
  · rw [step_bad hm]; exact ⟨rfl, rfl⟩
theorem step_ok {k : Int} {l : List Tm} {tt : Int} (he : (step k l tt).2.2 = 0) : May k l ∧ k ≤ tt ∧ tt ≤ 1073741824 ∧ step k l tt = ((tt, left tt l), due tt l, 0) := by
  by_cases hm : May k l
  · rcases step_eq (tt := tt) hm with ⟨h0, h1, h2⟩ | ⟨e, h0, hne⟩
    · exact ⟨hm, h1, h2, h0⟩
    · rw [h0] at he; exact absurd he hne
  · rw [step_bad hm] at he; simp at he
theorem left_left {f t : Int} {l : List Tm} (h : f ≤ t) : left t (left f l) = left t l := by
  unfold left
  rw [List.filter_filter]
  exact List.filter_congr fun x _ => by rw [Bool.eq_iff_iff]; simp; omega
theorem due_cons {tt : Int} {x : Tm} {l : List Tm} : due tt (x :: l) = if x.2 ≤ tt then x :: due tt l else due tt l := by
  unfold due; rw [List.filter_cons]; by_cases h : x.2 ≤ tt <;> simp [h]
theorem left_cons {tt : Int} {x : Tm} {l : List Tm} : left tt (x :: l) = if tt < x.2 then x :: left tt l else left tt l := by
  unfold left; rw [List.filter_cons]; by_cases h : tt < x.2 <;> simp [h]
theorem due_due {f t : Int} (h : f ≤ t) : ∀ {l : List Tm}, Asc l → due f l ++ due t (left f l) = due t l
  | [], _ => rfl
  | x :: l, ha => by
    have ih := due_due h (List.pairwise_cons.1 ha).2
    rw [due_cons, left_cons, due_cons]
    by_cases h1 : x.2 ≤ f
    · rw [if_pos h1, if_neg (by omega), if_pos (by omega), List.cons_append, ih]
    · rw [if_neg h1, if_pos (by omega), due_cons]
      have hnone : due f l = [] := List.filter_eq_nil_iff.2 (fun y hy => by
        have := lt_iff.1 ((List.pairwise_cons.1 ha).1 y hy)
        simp; omega)
      rw [hnone] at ih ⊢
      rw [List.nil_append] at ih ⊢
      rw [ih]
theorem twice {k first to' : Int} {l : List Tm} (hf : first ≤ to') (h1 : (step k l to').2.2 = 0) (h2 : (step k l first).2.2 = 0) :
    ∃ D, step (step k l first).1.1 (step k l first).1.2 to' = ((step k l to').1, D, 0) ∧ (step k l to').2.1 = (step k l first).2.1 ++ D := by
  obtain ⟨hm, a1, a2, a3⟩ := step_ok h1
  obtain ⟨_, b1, b2, b3⟩ := step_ok h2
  rw [a3, b3]
  refine ⟨due to' (left first l), ?_, (due_due hf hm.2.2.2.2.1).symm⟩
  have hm2 := left_may hm b1 b2
  have e : step first (left first l) to' = ((to', left to' (left first l)), due to' (left first l), 0) := by
    unfold step
    rw [if_neg (by rw [may_iff.2 hm2]; simp), if_neg (by omega)]
  show step first (left first l) to' = _
  rw [e, left_left hf]
theorem parts_len (tt : Int) : ∀ (l : List Tm), (due tt l).length + (left tt l).length = l.length
  | [] => rfl
  | x :: l => by
    have ih := parts_len tt l
    rw [due_cons, left_cons]
    by_cases h : x.2 ≤ tt
    · rw [if_pos h, if_neg (by omega)]; simp; omega
    · rw [if_neg h, if_pos (by omega)]; simp; omega
theorem mem_due {tt : Int} {x : Tm} {l : List Tm} : x ∈ due tt l ↔ x ∈ l ∧ x.2 ≤ tt := by unfold due; simp
theorem mem_left {tt : Int} {x : Tm} {l : List Tm} : x ∈ left tt l ↔ x ∈ l ∧ tt < x.2 := by unfold left; simp
theorem asc_ins_unique {l k : List Tm} (h : l.Perm k) (hl : Asc l) (hk : Asc k) : l = k := asc_eq hl hk h
def code (k : Int) (l : List Tm) (x : Tm) : Int := if x.1 < 0 then 1 else if x.2 ≤ k ∨ 1073741824 < x.2 then 10 else if has l x.1 = true then 11 else 0
theorem add_code {k : Int} {l : List Tm} {x : Tm} (h : May k l) (hl : l.length < 64) : add k l x.1 x.2 = if code k l x = 0 then (ins x l, 0) else (l, code k l x) := by
  unfold add code
  have hm := may_iff.2 h
  by_cases h1 : x.1 < 0
  · rw [if_pos (.inr h1), if_pos h1]; rfl
  · rw [if_neg (by rw [hm]; simpa using h1), if_neg h1]
    by_cases h2 : x.2 ≤ k ∨ 1073741824 < x.2
    · rw [if_pos h2, if_pos h2]; rfl
    · rw [if_neg h2, if_neg h2]
      by_cases h3 : has l x.1 = true
      · rw [if_pos h3, if_pos h3]; rfl
      · rw [if_neg h3, if_neg h3, if_neg (by omega), if_pos rfl]
theorem has_ins {l : List Tm} {x : Tm} {id : Int} (hne : x.1 ≠ id) : has (ins x l) id = has l id := by
  rw [Bool.eq_iff_iff, has_iff, has_iff]
  constructor
  · rintro ⟨t, ht, he⟩
    rcases List.mem_cons.1 ((ins_perm x l).mem_iff.1 ht) with rfl | ht
    · exact absurd he hne
    · exact ⟨t, ht, he⟩
  · rintro ⟨t, ht, he⟩
    exact ⟨t, (ins_perm x l).mem_iff.2 (List.mem_cons_of_mem _ ht), he⟩
theorem code_ins {k : Int} {l : List Tm} {x y : Tm} (hne : y.1 ≠ x.1) : code k (ins y l) x = code k l x := by
  unfold code; rw [has_ins hne]
theorem code_zero {k : Int} {l : List Tm} {x : Tm} (h : code k l x = 0) : 0 ≤ x.1 ∧ k < x.2 ∧ x.2 ≤ 1073741824 ∧ has l x.1 = false := by
  unfold code at h
  by_cases h1 : x.1 < 0
  · rw [if_pos h1] at h; simp at h
  · rw [if_neg h1] at h
    by_cases h2 : x.2 ≤ k ∨ 1073741824 < x.2
    · rw [if_pos h2] at h; simp at h
    · rw [if_neg h2] at h
      by_cases h3 : has l x.1 = true
      · rw [if_pos h3] at h; simp at h
      · exact ⟨by omega, by omega, by omega, by simpa using h3⟩
theorem ins_len (x : Tm) (l : List Tm) : (ins x l).length = l.length + 1 := by rw [(ins_perm x l).length_eq]; simp
theorem order {k : Int} {l : List Tm} {a b : Tm} (hne : a.1 ≠ b.1) (hl : l.length ≤ 60) :
    (add k l a.1 a.2).2 = (add k (add k l b.1 b.2).1 a.1 a.2).2 ∧ (add k (add k l a.1 a.2).1 b.1 b.2).2 = (add k l b.1 b.2).2 ∧ (add k (add k l a.1 a.2).1 b.1 b.2).1 = (add k (add k l b.1 b.2).1 a.1 a.2).1 := by
  by_cases hm : May k l
  · have ha := add_code (x := a) hm (by omega)
    have hb := add_code (x := b) hm (by omega)
    by_cases ca : code k l a = 0
    · obtain ⟨a0, a1, a2, a3⟩ := code_zero ca
      have hma : May k (ins a l) := ins_may hm a0 a1 a2 a3 (by omega)
      have hba := add_code (x := b) hma (by rw [ins_len]; omega)
      rw [code_ins hne] at hba
      rw [if_pos ca] at ha
      by_cases cb : code k l b = 0
      · obtain ⟨b0, b1, b2, b3⟩ := code_zero cb
        have hmb : May k (ins b l) := ins_may hm b0 b1 b2 b3 (by omega)
        have hab := add_code (x := a) hmb (by rw [ins_len]; omega)
        rw [code_ins (Ne.symm hne), if_pos ca] at hab
        rw [if_pos cb] at hb hba
        simp only [ha, hb, hba, hab, true_and]
        have e1 : May k (ins b (ins a l)) := ins_may hma b0 b1 b2 (by rw [has_ins hne]; exact b3) (by rw [ins_len]; omega)
        have e2 : May k (ins a (ins b l)) := ins_may hmb a0 a1 a2 (by rw [has_ins (Ne.symm hne)]; exact a3) (by rw [ins_len]; omega)
        refine asc_eq e1.2.2.2.2.1 e2.2.2.2.2.1 ?_
        exact (ins_perm b _).trans (((ins_perm a l).cons b).trans ((List.Perm.swap a b l).trans (((ins_perm b l).symm.cons a).trans (ins_perm a _).symm)))
      · rw [if_neg cb] at hb hba
        simp only [ha, hb, hba, true_and]
        try trivial
    · rw [if_neg ca] at ha
      by_cases cb : code k l b = 0
      · obtain ⟨b0, b1, b2, b3⟩ := code_zero cb
        have hmb : May k (ins b l) := ins_may hm b0 b1 b2 b3 (by omega)
        have hab := add_code (x := a) hmb (by rw [ins_len]; omega)
        rw [code_ins (Ne.symm hne), if_neg ca] at hab
        rw [if_pos cb] at hb
        simp only [ha, hb, hab, true_and]
        try trivial
      · rw [if_neg cb] at hb
        simp only [ha, hb, true_and]
        try trivial
  · have hbad : ∀ x : Tm, add k l x.1 x.2 = (l, 1) := fun x => by
      unfold add; rw [if_pos (.inl (by unfold may; exact decide_eq_false hm))]
    simp only [hbad a, hbad b, true_and]
    try trivial
theorem drop_eq {k : Int} {l : List Tm} {id : Int} : ((drop k l id).1 = l.filter (fun t => decide (t.1 ≠ id)) ∧ (drop k l id).2 = true ∧ May k l) ∨ ((drop k l id).1 = l ∧ (drop k l id).2 = false) := by
  unfold drop
  split
  · rename_i h; exact .inl ⟨rfl, rfl, may_iff.1 h.1⟩
  · exact .inr ⟨rfl, rfl⟩
theorem filter_due {tt : Int} {l : List Tm} {p : Tm → Bool} : due tt (l.filter p) = (due tt l).filter p := by
  unfold due; rw [List.filter_filter, List.filter_filter]; exact List.filter_congr fun x _ => by rw [Bool.and_comm]
/-- What is dropped is due nevermore. -/
theorem drops {k tt : Int} {l : List Tm} {id : Int} : (step k l tt).2.2 = (step k (drop k l id).1 tt).2.2 ∧ ((drop k l id).2 = true ∨ (drop k l id).1 = l) ∧ (step k (drop k l id).1 tt).2.1 = (step k l tt).2.1.filter (fun t => decide (t.1 ≠ id)) := by
  by_cases hm : May k l
  · have hd := drop_may (id := id) hm
    have hstep : ∀ l', May k l' → step k l' tt = if tt < k ∨ 1073741824 < tt then ((k, l'), [], 10) else ((tt, left tt l'), due tt l', 0) := fun l' h' => by
      unfold step; rw [if_neg (by rw [may_iff.2 h']; simp)]
    have hall : has l id = false → l.filter (fun t => decide (t.1 ≠ id)) = l := fun h => List.filter_eq_self.2 (fun t ht => by simpa using has_false.1 h t ht)
    have hdrop : (drop k l id).1 = l.filter (fun t => decide (t.1 ≠ id)) := by
      unfold drop
      by_cases hh : has l id = true
      · rw [if_pos ⟨may_iff.2 hm, hh⟩]
      · rw [if_neg (fun h => hh h.2)]; exact (hall (by simpa using hh)).symm
    refine ⟨?_, ?_, ?_⟩
    · rw [hstep l hm, hstep _ hd]; split <;> rfl
    · rcases drop_eq (k := k) (l := l) (id := id) with ⟨_, h, _⟩ | ⟨h, _⟩
      · exact .inl h
      · exact .inr h
    · rw [hstep l hm, hstep _ hd]
      split
      · rfl
      · show due tt (drop k l id).1 = _
        rw [hdrop, filter_due]
  · have hdr : drop k l id = (l, false) := by
      unfold drop; rw [if_neg (fun h => hm (may_iff.1 h.1))]
    rw [hdr]
    refine ⟨rfl, .inr rfl, ?_⟩
    rw [step_bad hm]; rfl
/-- How often a number is due. -/
def cnt (id : Int) (l : List Tm) : Nat := (l.filter (fun t => decide (t.1 = id))).length
theorem cnt_of {id : Int} {l : List Tm} (h : Ids l) : cnt id l = if has l id = true then 1 else 0 := by
  unfold cnt
  induction l with
  | nil => rfl
  | cons x l ih =>
    have h1 := List.pairwise_cons.1 h
    have ih := ih h1.2
    rw [List.filter_cons]
    by_cases hx : x.1 = id
    · have hn : has l id = false := has_false.2 (fun t ht => by rw [← hx]; exact Ne.symm (h1.1 t ht))
      rw [hn] at ih
      rw [if_pos (by simpa using hx), if_pos (has_iff.2 ⟨x, List.mem_cons_self, hx⟩)]
      simp at ih ⊢; exact ih
    · rw [if_neg (by simpa using hx), ih]
      have : has (x :: l) id = has l id := by unfold has; simp [hx]
      rw [this]
theorem once {k : Int} {l : List Tm} {id at' t1 t2 : Int} (h1 : (add k l id at').2 = 0) (h2 : (step k (add k l id at').1 t1).2.2 = 0) (h3 : (step (step k (add k l id at').1 t1).1.1 (step k (add k l id at').1 t1).1.2 t2).2.2 = 0) :
    (cnt id (step k (add k l id at').1 t1).2.1 = if at' ≤ t1 then 1 else 0) ∧ (cnt id (step (step k (add k l id at').1 t1).1.1 (step k (add k l id at').1 t1).1.2 t2).2.1 = if t1 < at' ∧ at' ≤ t2 then 1 else 0) := by
  have hm : May k l := by
    refine Classical.byContradiction fun hm => ?_
    have : add k l id at' = (l, 1) := by unfold add; rw [if_pos (.inl (by unfold may; exact decide_eq_false hm))]
    rw [this] at h1; simp at h1
  rcases add_eq (id := id) (at' := at') hm with ⟨he, a0, a1, a2, a3, a4⟩ | ⟨e, he, hne⟩
  · rw [he] at h2 h3 ⊢
    simp only at h2 h3 ⊢
    obtain ⟨m2, b1, b2, b3⟩ := step_ok h2
    rw [b3] at h3 ⊢
    simp only at h3 ⊢
    obtain ⟨m3, c1, c2, c3⟩ := step_ok h3
    rw [c3]
    simp only
    have hmem : ∀ t, t ∈ ins (id, at') l → t.1 = id → t = (id, at') := fun t ht e => by
      rcases List.mem_cons.1 ((ins_perm _ l).mem_iff.1 ht) with h | h
      · exact h
      · exact absurd e (has_false.1 a3 t h)
    have hin : (id, at') ∈ ins (id, at') l := (ins_perm _ l).mem_iff.2 List.mem_cons_self
    constructor
    · rw [cnt_of (show Ids (due t1 (ins (id, at') l)) from m2.2.2.2.2.2.filter _)]
      by_cases hc : at' ≤ t1
      · rw [if_pos hc, if_pos (has_iff.2 ⟨(id, at'), mem_due.2 ⟨hin, hc⟩, rfl⟩)]
      · rw [if_neg hc, if_neg]
        intro h
        obtain ⟨t, ht, e⟩ := has_iff.1 h
        obtain ⟨g1, g2⟩ := mem_due.1 ht
        rw [hmem t g1 e] at g2
        exact hc g2
    · rw [cnt_of (show Ids (due t2 (left t1 (ins (id, at') l))) from m3.2.2.2.2.2.filter _)]
      by_cases hc : t1 < at' ∧ at' ≤ t2
      · rw [if_pos hc, if_pos (has_iff.2 ⟨(id, at'), mem_due.2 ⟨mem_left.2 ⟨hin, hc.1⟩, hc.2⟩, rfl⟩)]
      · rw [if_neg hc, if_neg]
        intro h
        obtain ⟨t, ht, e⟩ := has_iff.1 h
        obtain ⟨g1, g2⟩ := mem_due.1 ht
        obtain ⟨g3, g4⟩ := mem_left.1 g1
        rw [hmem t g3 e] at g2 g4
        exact hc ⟨g4, g2⟩
  · rw [he] at h1; exact absurd h1 hne
end W
end Go.Proofs.Ytmegkfonodcoiaa
