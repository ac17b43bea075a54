/-
  Timers as pairs, in order; what may be; the wheel's answers; rings of timers by their slots: the mathematics of layer 10.
-/
import Derived.Lib.Hide
namespace Go.Proofs.Ytmegkfonodcoiaa
namespace W

abbrev Tm := Int × Int
def lt (x y : Tm) : Bool := decide (x.2 < y.2) || (decide (x.2 = y.2) && decide (x.1 < y.1))
theorem lt_iff {x y : Tm} : lt x y = true ↔ x.2 < y.2 ∨ (x.2 = y.2 ∧ x.1 < y.1) := by simp [lt]
theorem lt_not {x y : Tm} : lt x y = false ↔ y.2 < x.2 ∨ (x.2 = y.2 ∧ y.1 ≤ x.1) := by
  rw [← Bool.not_eq_true, lt_iff]; omega
theorem lt_trans {x y z : Tm} (h : lt x y = true) (k : lt y z = true) : lt x z = true := by rw [lt_iff] at *; omega
theorem lt_irrefl (x : Tm) : lt x x = false := by rw [lt_not]; omega
theorem lt_asymm {x y : Tm} (h : lt x y = true) : lt y x = false := by rw [lt_iff] at h; rw [lt_not]; omega
theorem tm_ext {x y : Tm} (h : x.1 = y.1) (k : x.2 = y.2) : x = y := Prod.ext h k
theorem lt_total {x y : Tm} (h : x ≠ y) (k : lt x y = false) : lt y x = true := by
  rw [lt_not] at k; rw [lt_iff]
  by_cases h1 : x.1 = y.1
  · by_cases h2 : x.2 = y.2
    · exact absurd (tm_ext h1 h2) h
    · omega
  · omega

def Asc (l : List Tm) : Prop := l.Pairwise (fun x y => lt x y = true)
def Ids (l : List Tm) : Prop := l.Pairwise (fun x y => x.1 ≠ y.1)
instance (l : List Tm) : Decidable (Asc l) := inferInstanceAs (Decidable (List.Pairwise _ _))
instance (l : List Tm) : Decidable (Ids l) := inferInstanceAs (Decidable (List.Pairwise _ _))

/-- Two lists of the same, in order, are one. -/
theorem asc_eq : ∀ {l k : List Tm}, Asc l → Asc k → l.Perm k → l = k
  | [], k, _, _, h => (List.nil_perm.1 h).symm ▸ rfl
  | x :: l, [], _, _, h => by have := h.length_eq; simp at this
  | x :: l, y :: k, hl, hk, h => by
    have hxy : x = y := by
      rcases List.mem_cons.1 (h.mem_iff.1 (List.mem_cons_self)) with e | hx
      · exact e
      · rcases List.mem_cons.1 (h.mem_iff.2 (List.mem_cons_self)) with e | hy
        · exact e.symm
        · have h1 := (List.pairwise_cons.1 hk).1 x hx
          have h2 := (List.pairwise_cons.1 hl).1 y hy
          rw [lt_asymm h1] at h2
          cases h2
    subst hxy
    rw [asc_eq (List.pairwise_cons.1 hl).2 (List.pairwise_cons.1 hk).2 (List.Perm.cons_inv h)]

theorem Asc.filter {l : List Tm} (h : Asc l) (p : Tm → Bool) : Asc (l.filter p) := List.Pairwise.filter p h
theorem Ids.filter {l : List Tm} (h : Ids l) (p : Tm → Bool) : Ids (l.filter p) := List.Pairwise.filter p h
theorem Asc.take {l : List Tm} (h : Asc l) (i : Nat) : Asc (l.take i) := List.Pairwise.sublist (List.take_sublist _ _) h
theorem Ids.perm {l k : List Tm} (h : Ids l) (p : l.Perm k) : Ids k := p.pairwise h (fun h => Ne.symm h)
theorem Ids.nodup {l : List Tm} (h : Ids l) : l.Nodup := List.Pairwise.imp (fun h e => h (by rw [e])) h

/-- In order, but for equal ones. -/
theorem asc_of_weak {l : List Tm} (hn : l.Nodup) (h : ∀ i j (hi : i < l.length) (hj : j < l.length), i < j → lt l[j] l[i] = false) : Asc l := by
  refine List.pairwise_iff_getElem.2 fun i j hi hj hij => ?_
  have h1 := h i j hi hj hij
  refine lt_total (fun e => ?_) h1
  have := (List.pairwise_iff_getElem.1 hn) i j hi hj hij
  exact this e.symm
/-- Neighbours in order: all in order. -/
theorem asc_of_next {l : List Tm} (h : ∀ i (hi : i + 1 < l.length), lt (l[i]'(by omega)) l[i + 1] = true) : Asc l := by
  refine List.pairwise_iff_getElem.2 fun i j hi hj hij => ?_
  obtain ⟨d, rfl⟩ : ∃ d, j = i + 1 + d := ⟨j - (i + 1), by omega⟩
  clear hij
  induction d with
  | zero => exact h i hj
  | succ d ih => exact lt_trans (ih (by omega)) (h (i + 1 + d) (by omega))
theorem Asc.next {l : List Tm} (h : Asc l) (i : Nat) (hi : i + 1 < l.length) : lt (l[i]'(by omega)) l[i + 1] = true := List.pairwise_iff_getElem.1 h i (i + 1) (by omega) hi (by omega)

/-- May a timer be, at a tick? -/
def ok (n : Int) (t : Tm) : Bool := decide (0 ≤ t.1) && (decide (n < t.2) && decide (t.2 ≤ 1073741824))
theorem ok_iff {n : Int} {t : Tm} : ok n t = true ↔ 0 ≤ t.1 ∧ n < t.2 ∧ t.2 ≤ 1073741824 := by simp [ok]
def May (n : Int) (l : List Tm) : Prop := 0 ≤ n ∧ n ≤ 1073741824 ∧ l.length ≤ 64 ∧ (∀ t ∈ l, ok n t = true) ∧ Asc l ∧ Ids l
instance (n : Int) (l : List Tm) : Decidable (May n l) := inferInstanceAs (Decidable (_ ∧ _))
def may (n : Int) (l : List Tm) : Bool := decide (May n l)
theorem may_iff {n : Int} {l : List Tm} : may n l = true ↔ May n l := by simp [may]

/-- Where the timer of a number stands. -/
def find (l : List Tm) (id : Int) : Option Nat := l.findIdx? (fun t => decide (t.1 = id))
def has (l : List Tm) (id : Int) : Bool := l.any (fun t => decide (t.1 = id))
theorem has_iff {l : List Tm} {id : Int} : has l id = true ↔ ∃ t ∈ l, t.1 = id := by simp [has]
theorem has_false {l : List Tm} {id : Int} : has l id = false ↔ ∀ t ∈ l, t.1 ≠ id := by simp [has]
def idx (l : List Tm) (id : Int) : Int := match find l id with | some k => k | none => -1

def ins (x : Tm) : List Tm → List Tm
  | [] => [x]
  | y :: l => if lt x y then x :: y :: l else y :: ins x l
theorem ins_perm (x : Tm) : ∀ l, (ins x l).Perm (x :: l)
  | [] => List.Perm.refl _
  | y :: l => by
    unfold ins
    split
    · exact List.Perm.refl _
    · exact ((ins_perm x l).cons y).trans (List.Perm.swap x y l)
theorem ins_asc {x : Tm} : ∀ {l : List Tm}, Asc l → (∀ t ∈ l, t ≠ x) → Asc (ins x l)
  | [], _, _ => List.pairwise_singleton _ _
  | y :: l, h, hx => by
    unfold ins
    split
    · rename_i h1
      refine List.pairwise_cons.2 ⟨fun z hz => ?_, h⟩
      rcases List.mem_cons.1 hz with rfl | hz
      · exact h1
      · exact lt_trans h1 ((List.pairwise_cons.1 h).1 z hz)
    · rename_i h1
      have hyx : lt y x = true := lt_total (fun e => hx y (List.mem_cons_self) e.symm) (by simpa using h1)
      refine List.pairwise_cons.2 ⟨fun z hz => ?_, ins_asc (List.pairwise_cons.1 h).2 (fun t ht => hx t (List.mem_cons_of_mem _ ht))⟩
      rcases List.mem_cons.1 ((ins_perm x l).mem_iff.1 hz) with rfl | hz
      · exact hyx
      · exact (List.pairwise_cons.1 h).1 z hz

def add (n : Int) (l : List Tm) (id at' : Int) : List Tm × Int :=
  if may n l = false ∨ id < 0 then (l, 1)
  else if at' ≤ n ∨ 1073741824 < at' then (l, 10)
  else if has l id = true then (l, 11)
  else if l.length = 64 then (l, 9)
  else (ins (id, at') l, 0)
def drop (n : Int) (l : List Tm) (id : Int) : List Tm × Bool :=
  if may n l = true ∧ has l id = true then (l.filter (fun t => decide (t.1 ≠ id)), true) else (l, false)
def left (to : Int) (l : List Tm) : List Tm := l.filter (fun t => decide (to < t.2))
def due (to : Int) (l : List Tm) : List Tm := l.filter (fun t => decide (t.2 ≤ to))
def step (n : Int) (l : List Tm) (to : Int) : (Int × List Tm) × List Tm × Int :=
  if may n l = false then ((n, l), [], 1)
  else if to < n ∨ 1073741824 < to then ((n, l), [], 10)
  else ((to, left to l), due to l, 0)
def new (n : Int) : Int × Bool := if 0 ≤ n ∧ n ≤ 1073741824 then (n, true) else (0, false)
theorem may_nil (n : Int) : may n [] = decide (0 ≤ n ∧ n ≤ 1073741824) := by
  unfold may; exact decide_eq_decide.2 ⟨fun h => ⟨h.1, h.2.1⟩, fun h => ⟨h.1, h.2, by simp, by simp, List.Pairwise.nil, List.Pairwise.nil⟩⟩

/-! Rings -/
def slot (k : Int) (l : List Tm) : List Tm := l.filter (fun t => decide (t.2 % 16 = k))
theorem slot_snoc (k : Int) (l : List Tm) (x : Tm) : slot k (l ++ [x]) = if x.2 % 16 = k then slot k l ++ [x] else slot k l := by
  unfold slot; rw [List.filter_append]; by_cases h : x.2 % 16 = k <;> simp [h]
/-- Whom a way of so many ticks behind 'from' meets, in the ring's order. -/
def meets (from_ to : Int) (l : List Tm) (m : Nat) : List Tm := (List.range m).flatMap fun (j : Nat) => (slot ((from_ + 1 + (j : Int)) % 16) l).filter (fun t => decide (from_ < t.2 ∧ t.2 ≤ to))
theorem meets_zero (f t : Int) (l : List Tm) : meets f t l 0 = [] := rfl
theorem meets_succ (f t : Int) (l : List Tm) (m : Nat) : meets f t l (m + 1) = meets f t l m ++ (slot ((f + 1 + (m : Int)) % 16) l).filter (fun x => decide (f < x.2 ∧ x.2 ≤ t)) := by
  unfold meets; rw [List.range_succ, List.flatMap_append]; simp
theorem filter_or : ∀ (l : List Tm) (p q : Tm → Bool), (∀ x ∈ l, ¬ (p x = true ∧ q x = true)) → (l.filter p ++ l.filter q).Perm (l.filter fun x => p x || q x)
  | [], _, _, _ => List.Perm.refl _
  | x :: l, p, q, h => by
    have ih := filter_or l p q (fun y hy => h y (List.mem_cons_of_mem _ hy))
    have hx := h x List.mem_cons_self
    by_cases hp : p x = true
    · have hq : q x = false := by simpa [hp] using hx
      simp [hp, hq]; exact ih
    · by_cases hq : q x = true
      · simp [hp, hq]
        exact (List.perm_middle).trans (ih.cons x)
      · simp [hp, hq]; exact ih
/-- The ticks' slots, taken together. -/
theorem meets_perm (f t : Int) (l : List Tm) : ∀ m : Nat, m ≤ 16 → (meets f t l m).Perm (l.filter fun x => decide (f < x.2 ∧ x.2 ≤ t) && decide (((x.2 - (f + 1)) % 16) < (m : Int)))
  | 0, _ => by
    rw [meets_zero, List.filter_eq_nil_iff.2 (fun x _ => ?_)]
    have := Int.emod_nonneg (x.2 - (f + 1)) (show (16 : Int) ≠ 0 by decide)
    simp; omega
  | m + 1, hm => by
    rw [meets_succ]
    have ih := meets_perm f t l m (by omega)
    have h1 : (slot ((f + 1 + (m : Int)) % 16) l).filter (fun x => decide (f < x.2 ∧ x.2 ≤ t)) = l.filter (fun x => decide (f < x.2 ∧ x.2 ≤ t) && decide (x.2 % 16 = (f + 1 + (m : Int)) % 16)) := by
      unfold slot; rw [List.filter_filter]
    rw [h1]
    refine (ih.append_right _).trans ((filter_or l _ _ (fun x _ h => ?_)).trans ?_)
    · simp only [Bool.and_eq_true, decide_eq_true_eq] at h; omega
    · rw [List.filter_congr (q := fun x => decide (f < x.2 ∧ x.2 ≤ t) && decide (((x.2 - (f + 1)) % 16) < ((m + 1 : Nat) : Int))) (fun x _ => ?_)]
      rw [Bool.eq_iff_iff]; simp only [Bool.or_eq_true, Bool.and_eq_true, decide_eq_true_eq]; omega
/-- A whole way meets all who are due on it. -/
theorem meets_all (f t : Int) (l : List Tm) (m : Nat) (hm : (m : Int) = min (t - f) 16 ∨ (m = 0 ∧ t ≤ f)) : (meets f t l m).Perm (l.filter fun x => decide (f < x.2 ∧ x.2 ≤ t)) := by
  refine (meets_perm f t l m (by omega)).trans ?_
  rw [List.filter_congr (q := fun x => decide (f < x.2 ∧ x.2 ≤ t)) (fun x _ => ?_)]
  rw [Bool.eq_iff_iff]; simp only [Bool.and_eq_true, decide_eq_true_eq]; omega
end W
end Go.Proofs.Ytmegkfonodcoiaa
