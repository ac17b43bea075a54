/-
  Leases and what is held: places, find, spot, put, del, hold, clean; which stand in order.
-/
namespace Go.Proofs.Ytbnhaoimdponkaa
namespace L
structure Ls where
  s : Int
  a : Int
  b : Int
  f : Int
  t : Int
deriving DecidableEq
structure T3 where
  a : Int
  b : Int
  x : Int
deriving DecidableEq
def had (x : Ls) : T3 := ⟨x.a, x.b, x.s⟩
def isOf (a b : Int) (x : T3) : Bool := decide (x.a = a ∧ x.b = b)
def behind (a b : Int) (x : T3) : Bool := decide (a < x.a ∨ x.a = a ∧ b < x.b)
theorem isOf_iff {a b : Int} {x : T3} : isOf a b x = true ↔ x.a = a ∧ x.b = b := by simp [isOf]
theorem behind_iff {a b : Int} {x : T3} : behind a b x = true ↔ a < x.a ∨ x.a = a ∧ b < x.b := by simp [behind]

/-- Places of a list, among the first k. -/
def plTo {α : Type} (p : α → Bool) (l : List α) (k : Nat) : List (Fin l.length) := ((List.finRange l.length).take k).filter fun i => p l[i]
def pl {α : Type} (p : α → Bool) (l : List α) : List (Fin l.length) := plTo p l l.length
theorem plTo_zero {α : Type} (p : α → Bool) (l : List α) : plTo p l 0 = [] := rfl
theorem fin_take {n k : Nat} (h : k < n) : (List.finRange n).take (k + 1) = (List.finRange n).take k ++ [⟨k, h⟩] := by
  rw [List.take_succ_eq_append_getElem (by simpa using h)]
  simp
theorem plTo_yes {α : Type} {p : α → Bool} {l : List α} {k : Nat} (h : k < l.length) (hp : p l[k] = true) : plTo p l (k + 1) = plTo p l k ++ [⟨k, h⟩] := by
  unfold plTo; rw [fin_take h, List.filter_append]; simp [hp]
theorem plTo_no {α : Type} {p : α → Bool} {l : List α} {k : Nat} (h : k < l.length) (hp : p l[k] = false) : plTo p l (k + 1) = plTo p l k := by
  unfold plTo; rw [fin_take h, List.filter_append]; simp [hp]
theorem plTo_all {α : Type} {p : α → Bool} {l : List α} {k : Nat} (h : l.length ≤ k) : plTo p l k = pl p l := by
  unfold pl plTo; rw [List.take_of_length_le (by simpa using h), List.take_of_length_le (by simp)]
theorem plTo_prefix {α : Type} (p : α → Bool) (l : List α) (k : Nat) : plTo p l k <+: pl p l := by
  unfold pl plTo
  rw [List.take_of_length_le (l := List.finRange l.length) (i := l.length) (by simp)]
  exact (List.take_prefix _ _).filter _
theorem plTo_len {α : Type} (p : α → Bool) (l : List α) (k : Nat) : (plTo p l k).length ≤ l.length :=
  Nat.le_trans (List.length_filter_le _ _) (by simp; omega)
theorem pl_len {α : Type} (p : α → Bool) (l : List α) : (pl p l).length ≤ l.length := plTo_len _ _ _
theorem pl_eq {α : Type} (p : α → Bool) (l : List α) : pl p l = (List.finRange l.length).filter fun i => p l[i] := by
  unfold pl plTo; rw [List.take_of_length_le (by simp)]
theorem pl_map {α : Type} (p : α → Bool) (l : List α) : (pl p l).map (fun i => l[i]) = l.filter p := by
  rw [pl_eq]
  have h : l = (List.finRange l.length).map fun i => l[i] := by
    apply List.ext_getElem
    · simp
    · intro i h1 h2; simp
  conv => rhs; rw [h]
  rw [List.filter_map]
  rfl
theorem pl_nil {α : Type} {p : α → Bool} {l : List α} (h : pl p l = []) : l.findIdx? p = none := by
  rw [List.findIdx?_eq_none_iff]
  intro x hx
  obtain ⟨i, hi, rfl⟩ := List.mem_iff_getElem.1 hx
  rw [pl_eq, List.filter_eq_nil_iff] at h
  simpa using h ⟨i, hi⟩ (by simp)
theorem pl_head {α : Type} {p : α → Bool} {l : List α} {i : Fin l.length} (h : [i] <+: pl p l) : l.findIdx? p = some i.val := by
  rw [List.findIdx?_eq_some_iff_getElem]
  have hm : i ∈ pl p l := h.subset (by simp)
  rw [pl_eq] at hm
  refine ⟨i.2, by simpa using (List.mem_filter.1 hm).2, fun j hj => ?_⟩
  intro hp
  have hjl : j < l.length := by omega
  have h1 : plTo p l (j + 1) = plTo p l j ++ [⟨j, hjl⟩] := plTo_yes hjl (by simpa using hp)
  have h2 : plTo p l (j + 1) <+: pl p l := plTo_prefix _ _ _
  have h3 : [i] <+: plTo p l (j + 1) := List.prefix_of_prefix_length_le h h2 (by rw [h1]; simp)
  have h4 : i ∈ plTo p l (j + 1) := h3.subset (by simp)
  unfold plTo at h4
  have h5 := (List.mem_filter.1 h4).1
  obtain ⟨q, hq, hqe⟩ := List.mem_take_iff_getElem.1 h5
  have h6 : i.val = q := by rw [← hqe]; simp
  omega

/-- The first place; another one if there is none. -/
def at1 {α : Type} (p : α → Bool) (l : List α) (d : Int) : Int := match l.findIdx? p with | some i => (i : Int) | none => d
theorem at1_some {α : Type} {p : α → Bool} {l : List α} {d : Int} {i : Nat} (h : l.findIdx? p = some i) : at1 p l d = i := by unfold at1; rw [h]
theorem at1_none {α : Type} {p : α → Bool} {l : List α} {d : Int} (h : l.findIdx? p = none) : at1 p l d = d := by unfold at1; rw [h]
theorem at1_map {α β : Type} {p : β → Bool} {f : α → β} {l : List α} {d : Int} : at1 p (l.map f) d = at1 (fun x => p (f x)) l d := by
  unfold at1; rw [List.findIdx?_map]; rfl
theorem at1_len {α : Type} (p : α → Bool) (l : List α) : at1 p l l.length = l.findIdx p := by
  unfold at1
  cases h : l.findIdx? p with
  | none => rw [List.findIdx_eq_length.2 (fun x hx => List.findIdx?_eq_none_iff.1 h x hx)]
  | some i => rw [(List.findIdx?_eq_some_iff_findIdx_eq.1 h).2]

def find (l : List Ls) (a b : Int) : Int := at1 (isOf a b) (l.map had) (-1)
def spot (l : List Ls) (a b : Int) : Nat := l.findIdx fun y => behind a b (had y)
def put (l : List Ls) (x : Ls) : List Ls × Bool :=
  if 32 ≤ l.length ∨ find l x.a x.b ≠ -1 then (l, false) else (l.take (spot l x.a x.b) ++ x :: l.drop (spot l x.a x.b), true)
def del (l : List Ls) (a b : Int) : List Ls × Bool :=
  if find l a b = -1 then (l, false) else (l.take (find l a b).toNat ++ l.drop ((find l a b).toNat + 1), true)
def others (h : List T3) (a b : Int) : List T3 := h.filter fun y => !isOf a b y
def hold (h : List T3) (x : T3) : List T3 :=
  (others h x.a x.b).take ((others h x.a x.b).findIdx (behind x.a x.b)) ++ x :: (others h x.a x.b).drop ((others h x.a x.b).findIdx (behind x.a x.b))
def clean (h : List T3) (now : Int) : List T3 := h.filter fun y => decide (now < y.x)
def of (l : List Ls) (s : Int) : List Int := (pl (fun x : T3 => (x.x == s)) (l.map had)).map fun i => (i.val : Int)

theorem find_cases (l : List Ls) (a b : Int) : (find l a b = -1 ∧ ∀ x ∈ l, ¬ (x.a = a ∧ x.b = b)) ∨ ∃ (i : Nat) (x : Ls), find l a b = i ∧ l[i]? = some x ∧ x.a = a ∧ x.b = b ∧ ∀ y ∈ l.take i, ¬ (y.a = a ∧ y.b = b) := by
  unfold find; rw [at1_map]
  cases h : l.findIdx? (fun x => isOf a b (had x)) with
  | none =>
    refine .inl ⟨at1_none h, fun x hx he => ?_⟩
    have := List.findIdx?_eq_none_iff.1 h x hx
    rw [isOf_iff.2 he] at this; cases this
  | some i =>
    obtain ⟨h1, h2, h3⟩ := List.findIdx?_eq_some_iff_getElem.1 h
    refine .inr ⟨i, l[i], at1_some h, List.getElem?_eq_getElem h1, (isOf_iff.1 h2).1, (isOf_iff.1 h2).2, fun y hy he => ?_⟩
    obtain ⟨j, hj, rfl⟩ := List.mem_take_iff_getElem.1 hy
    exact h3 j (by omega) (isOf_iff.2 he)
theorem find_none {l : List Ls} {a b : Int} : find l a b = -1 ↔ ∀ x ∈ l, ¬ (x.a = a ∧ x.b = b) := by
  rcases find_cases l a b with ⟨h, h2⟩ | ⟨i, x, h, hi, ha, hb, _⟩
  · exact ⟨fun _ => h2, fun _ => h⟩
  · refine ⟨fun e => by omega, fun h2 => absurd ⟨ha, hb⟩ (h2 x (List.mem_of_getElem? hi))⟩
theorem find_lt (l : List Ls) (a b : Int) : -1 ≤ find l a b ∧ find l a b < l.length := by
  rcases find_cases l a b with ⟨h, h2⟩ | ⟨i, x, h, hi, _⟩
  · rw [h]; omega
  · rw [h]; have := (List.getElem?_eq_some_iff.1 hi).1; omega
theorem find_some {l : List Ls} {a b : Int} {i : Nat} {x : Ls} (hi : l[i]? = some x) (ha : x.a = a) (hb : x.b = b) (h : ∀ y ∈ l.take i, ¬ (y.a = a ∧ y.b = b)) : find l a b = i := by
  rcases find_cases l a b with ⟨_, h2⟩ | ⟨j, y, h0, hj, hya, hyb, h2⟩
  · exact absurd ⟨ha, hb⟩ (h2 x (List.mem_of_getElem? hi))
  · rw [h0]
    obtain ⟨li, ei⟩ := List.getElem?_eq_some_iff.1 hi
    obtain ⟨lj, ej⟩ := List.getElem?_eq_some_iff.1 hj
    by_cases h1 : i < j
    · exact absurd ⟨ha, hb⟩ (h2 x (List.mem_take_iff_getElem.2 ⟨i, by omega, ei⟩))
    · by_cases h3 : j < i
      · exact absurd ⟨hya, hyb⟩ (h y (List.mem_take_iff_getElem.2 ⟨j, by omega, ej⟩))
      · have : i = j := by omega
        rw [this]
theorem spot_le (l : List Ls) (a b : Int) : spot l a b ≤ l.length := List.findIdx_le_length
theorem put_len (l : List Ls) (x : Ls) : (put l x).1.length = l.length + (if (put l x).2 then 1 else 0) := by
  have := spot_le l x.a x.b
  unfold put; split <;> simp <;> omega
theorem del_len (l : List Ls) (a b : Int) : (del l a b).1.length ≤ l.length := by
  unfold del; split <;> simp <;> omega
theorem del_len2 (l : List Ls) (a b : Int) : (del l a b).1.length = l.length - (if (del l a b).2 then 1 else 0) := by
  have := find_lt l a b
  unfold del; split
  · simp
  · simp; omega
theorem put_is (l : List Ls) (x : Ls) : (put l x).2 = decide (find l x.a x.b = -1 ∧ l.length < 32) := by
  unfold put
  by_cases h : 32 ≤ l.length ∨ find l x.a x.b ≠ -1
  · rw [if_pos h]; symm; simp only [decide_eq_false_iff_not]; omega
  · rw [if_neg h]; symm; simp only [decide_eq_true_eq]; omega
theorem put_no {l : List Ls} {x : Ls} (h : (put l x).2 = false) : (put l x).1 = l := by
  unfold put at h ⊢; split at h
  · rw [if_pos (by assumption)]
  · cases h
theorem put_yes {l : List Ls} {x : Ls} (h : (put l x).2 = true) : (put l x).1 = l.take (spot l x.a x.b) ++ x :: l.drop (spot l x.a x.b) := by
  unfold put at h ⊢; split at h
  · cases h
  · rw [if_neg (by assumption)]
theorem del_no {l : List Ls} {a b : Int} (h : (del l a b).2 = false) : (del l a b).1 = l := by
  unfold del at h ⊢; split at h
  · rw [if_pos (by assumption)]
  · cases h

/-- One lease is ahead of another one. -/
def Lt (x y : Ls) : Prop := x.a < y.a ∨ x.a = y.a ∧ x.b < y.b
instance (x y : Ls) : Decidable (Lt x y) := by unfold Lt; exact inferInstance
theorem Lt.trans {x y z : Ls} (h : Lt x y) (k : Lt y z) : Lt x z := by unfold Lt at *; omega
theorem Lt.not {x y : Ls} (h : Lt x y) (k : Lt y x) : False := by unfold Lt at *; omega
theorem behind_lt {x y : Ls} : behind x.a x.b (had y) = true ↔ Lt x y := by
  rw [behind_iff]; unfold had Lt
  show (x.a < y.a ∨ y.a = x.a ∧ x.b < y.b) ↔ _
  omega
def Srt (l : List Ls) : Prop := l.Pairwise Lt
instance (l : List Ls) : Decidable (Srt l) := by unfold Srt; exact inferInstance
theorem Srt.snoc {l : List Ls} {j : Nat} {x y : Ls} (h : Srt (l.take (j + 1))) (hx : l[j]? = some x) (hy : l[j + 1]? = some y) (hl : Lt x y) : Srt (l.take (j + 1 + 1)) := by
  obtain ⟨l1, e1⟩ := List.getElem?_eq_some_iff.1 hy
  obtain ⟨l0, e0⟩ := List.getElem?_eq_some_iff.1 hx
  unfold Srt at *
  rw [List.take_succ_eq_append_getElem l1, List.pairwise_append]
  refine ⟨h, by simp, fun z hz u hu => ?_⟩
  obtain rfl : u = y := by rw [← e1]; simpa using hu
  rw [List.take_succ_eq_append_getElem l0, List.pairwise_append] at h
  rw [List.take_succ_eq_append_getElem l0] at hz
  rcases List.mem_append.1 hz with hz | hz
  · exact (h.2.2 z hz x (by rw [← e0]; simp)).trans hl
  · have : z = x := by rw [← e0]; simpa using hz
    rw [this]; exact hl
theorem Srt.one (l : List Ls) : Srt (l.take 1) := by
  unfold Srt; cases l <;> simp
theorem Srt.no {l : List Ls} {j : Nat} {x y : Ls} (hx : l[j]? = some x) (hy : l[j + 1]? = some y) (hl : ¬ Lt x y) : ¬ Srt l := by
  intro h
  obtain ⟨l1, e1⟩ := List.getElem?_eq_some_iff.1 hy
  obtain ⟨l0, e0⟩ := List.getElem?_eq_some_iff.1 hx
  have := List.pairwise_iff_getElem.1 h j (j + 1) l0 l1 (by omega)
  rw [e0, e1] at this
  exact hl this
theorem spot_ahead {l : List Ls} {x y : Ls} (h : y ∈ l.take (spot l x.a x.b)) : ¬ Lt x y := by
  obtain ⟨j, hj, rfl⟩ := List.mem_take_iff_getElem.1 h
  intro hl
  have := List.not_of_lt_findIdx (p := fun y => behind x.a x.b (had y)) (xs := l) (i := j) (by unfold spot at hj; omega)
  rw [behind_lt.2 hl] at this; cases this
theorem spot_behind {l : List Ls} {x y : Ls} (hs : Srt l) (h : y ∈ l.drop (spot l x.a x.b)) : Lt x y := by
  obtain ⟨j, hj, rfl⟩ := List.mem_drop_iff_getElem.1 h
  have h0 : spot l x.a x.b < l.length := by omega
  have h1 := List.findIdx_getElem (p := fun y => behind x.a x.b (had y)) (xs := l) (w := h0)
  have h2 : Lt x (l[spot l x.a x.b]) := behind_lt.1 h1
  by_cases hj0 : j = 0
  · subst hj0; simpa using h2
  · exact h2.trans (List.pairwise_iff_getElem.1 hs _ _ h0 (by omega) (by omega))
theorem put_srt {l : List Ls} {x : Ls} (hs : Srt l) : Srt (put l x).1 := by
  cases h : (put l x).2 with
  | false => rw [put_no h]; exact hs
  | true =>
    rw [put_yes h]
    have hf : find l x.a x.b = -1 := by rw [put_is] at h; simp at h; exact h.1
    have hn := find_none.1 hf
    have hs' : Srt (l.take (spot l x.a x.b) ++ l.drop (spot l x.a x.b)) := by rw [List.take_append_drop]; exact hs
    unfold Srt at hs' ⊢
    rw [List.pairwise_append] at hs' ⊢
    refine ⟨hs'.1, List.pairwise_cons.2 ⟨fun y hy => spot_behind hs hy, hs'.2.1⟩, fun y hy z hz => ?_⟩
    rcases List.mem_cons.1 hz with rfl | hz
    · have h1 := spot_ahead hy
      have h2 := hn y (List.mem_of_mem_take hy)
      unfold Lt at h1 ⊢; omega
    · exact hs'.2.2 y hy z hz
theorem del_srt {l : List Ls} {a b : Int} (hs : Srt l) : Srt (del l a b).1 := by
  unfold del
  by_cases h : find l a b = -1
  · rw [if_pos h]; exact hs
  · rw [if_neg h, ← List.eraseIdx_eq_take_drop_succ]
    exact List.Pairwise.sublist (List.eraseIdx_sublist _ _) hs
theorem put_find {l : List Ls} {x : Ls} (h : (put l x).2 = true) : find (put l x).1 x.a x.b = (spot l x.a x.b : Nat) := by
  have hf : find l x.a x.b = -1 := by rw [put_is] at h; simp at h; exact h.1
  have hn := find_none.1 hf
  have hk := spot_le l x.a x.b
  rw [put_yes h]
  refine find_some (x := x) ?_ rfl rfl (fun y hy => ?_)
  · rw [List.getElem?_append_right (by simp; omega)]
    rw [List.length_take, Nat.min_eq_left hk]; simp
  · rw [List.take_append_of_le_length (by simp; omega)] at hy
    exact hn y (List.mem_of_mem_take (List.mem_of_mem_take hy))
theorem put_at {l : List Ls} {x : Ls} (h : (put l x).2 = true) : (put l x).1[spot l x.a x.b]? = some x := by
  have hk := spot_le l x.a x.b
  rw [put_yes h, List.getElem?_append_right (by simp; omega), List.length_take, Nat.min_eq_left hk]; simp
theorem put_del {l : List Ls} {x : Ls} (h : (put l x).2 = true) : del (put l x).1 x.a x.b = (l, true) := by
  have hk := spot_le l x.a x.b
  have hf := put_find h
  unfold del
  rw [hf, if_neg (by omega), Int.toNat_natCast, put_yes h]
  congr 1
  have e1 : (l.take (spot l x.a x.b)).length = spot l x.a x.b := by simp; omega
  rw [List.take_append_of_le_length (by omega), List.take_take, Nat.min_self, List.drop_append, e1]
  rw [List.drop_of_length_le (by omega), show spot l x.a x.b + 1 - spot l x.a x.b = 1 by omega]
  simp
theorem put_mem {l : List Ls} {x y : Ls} : y ∈ (put l x).1 ↔ y ∈ l ∨ ((put l x).2 = true ∧ y = x) := by
  cases h : (put l x).2 with
  | false => rw [put_no h]; simp
  | true =>
    rw [put_yes h, List.mem_append, List.mem_cons]
    have : y ∈ l ↔ y ∈ l.take (spot l x.a x.b) ∨ y ∈ l.drop (spot l x.a x.b) := by
      conv => lhs; rw [← List.take_append_drop (spot l x.a x.b) l, List.mem_append]
    rw [this]; simp; grind
/-- Two that stand in order and have the same ones are the same. -/
theorem srt_ext : ∀ {l k : List Ls}, Srt l → Srt k → (∀ y, y ∈ l ↔ y ∈ k) → l = k
  | [], [], _, _, _ => rfl
  | [], y :: k, _, _, h => absurd ((h y).2 (by simp)) (by simp)
  | x :: l, [], _, _, h => absurd ((h x).1 (by simp)) (by simp)
  | x :: l, y :: k, hl, hk, h => by
    obtain ⟨hx, hl'⟩ := List.pairwise_cons.1 hl
    obtain ⟨hy, hk'⟩ := List.pairwise_cons.1 hk
    have e : x = y := by
      rcases List.mem_cons.1 ((h x).1 (by simp)) with e | e
      · exact e
      · rcases List.mem_cons.1 ((h y).2 (by simp)) with e2 | e2
        · exact e2.symm
        · exact ((hx y e2).not (hy x e)).elim
    subst e
    rw [srt_ext hl' hk' (fun z => ?_)]
    constructor
    · intro hz
      rcases List.mem_cons.1 ((h z).1 (by simp [hz])) with e | e
      · subst e; exact ((hx z hz).not (hx z hz)).elim
      · exact e
    · intro hz
      rcases List.mem_cons.1 ((h z).2 (by simp [hz])) with e | e
      · subst e; exact ((hy z hz).not (hy z hz)).elim
      · exact e
theorem put_flag {l : List Ls} {x y : Ls} (hl : l.length ≤ 30) (hb : ¬ (x.a = y.a ∧ x.b = y.b)) : (put (put l x).1 y).2 = (put l y).2 := by
  rw [put_is, put_is, Bool.eq_iff_iff, decide_eq_true_iff, decide_eq_true_iff, find_none, find_none]
  have h1 := put_len l x
  constructor
  · rintro ⟨h, _⟩
    exact ⟨fun z hz => h z (put_mem.2 (.inl hz)), by omega⟩
  · rintro ⟨h, _⟩
    refine ⟨fun z hz => ?_, by rw [h1]; split <;> omega⟩
    rcases put_mem.1 hz with hz | ⟨_, rfl⟩
    · exact h z hz
    · exact hb
theorem put_order {l : List Ls} {x y : Ls} (hs : Srt l) (hl : l.length ≤ 30) (hb : ¬ (x.a = y.a ∧ x.b = y.b)) : (put (put l x).1 y).1 = (put (put l y).1 x).1 := by
  have hb2 : ¬ (y.a = x.a ∧ y.b = x.b) := fun e => hb ⟨e.1.symm, e.2.symm⟩
  refine srt_ext (put_srt (put_srt hs)) (put_srt (put_srt hs)) (fun z => ?_)
  rw [put_mem, put_mem, put_mem, put_mem, put_flag hl hb, put_flag hl hb2]
  grind
end L
end Go.Proofs.Ytbnhaoimdponkaa
