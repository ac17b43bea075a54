/-
  Maps of blocks, as numbers: which may be, which block is used, what is taken, given, free, first, and how many are used.
-/
import Derived.Test.YtbnhaoimdponkaaKit
namespace Go.Proofs.Ytbnhaoimdponkaa

/-- A map may be. -/
def U.may (n u : Int) : Bool := decide (0 ≤ n ∧ n ≤ 8 ∧ 0 ≤ u ∧ u < 2 ^ n.toNat)
/-- Block i is used. -/
def U.bit (u : Int) (i : Nat) : Bool := decide (u / 2 ^ i % 2 = 1)
def U.num (b : Bool) : Int := if b then 1 else 0
theorem U.num_t : U.num true = 1 := rfl
theorem U.num_f : U.num false = 0 := rfl
/-- All blocks, each with its bit. -/
def U.all (n u : Int) : List (Nat × Bool) := if U.may n u then (List.range n.toNat).map fun i => (i, U.bit u i) else []
/-- A block's bit; -1 if there is none. -/
def U.at' (n u i : Int) : Int := if U.may n u && decide (0 ≤ i) && decide (i < n) then U.num (U.bit u i.toNat) else -1
def U.has (n u i : Int) : Bool := decide (U.at' n u i = 1)
def U.off (n u i : Int) : Bool := decide (U.at' n u i = 0)
def U.take (n u i : Int) : Int := if U.off n u i then u + 2 ^ i.toNat else u
def U.give (n u i : Int) : Int := if U.has n u i then u - 2 ^ i.toNat else u
def U.free (n u : Int) : List Int := (U.all n u).filterMap fun p => if p.2 then none else some (p.1 : Int)
def U.first (n u : Int) : Int := (U.free n u).headD (-1)
def U.count (n u : Int) : Int := ((U.all n u).map fun p => U.num p.2).sum

theorem U.may_iff {n u : Int} : U.may n u = true ↔ 0 ≤ n ∧ n ≤ 8 ∧ 0 ≤ u ∧ u < 2 ^ n.toNat := by simp [U.may]
/-- A map that may be is one of 511. -/
theorem U.may_cases {n u : Int} (h : U.may n u = true) : ∃ (m : Nat) (v : Nat), n = m ∧ u = v ∧ m ≤ 8 ∧ v < 2 ^ m ∧ v < 256 := by
  obtain ⟨h0, h1, h2, h3⟩ := U.may_iff.1 h
  have hp : (2 : Int) ^ n.toNat = ((2 ^ n.toNat : Nat) : Int) := by norm_cast
  have hle : 2 ^ n.toNat ≤ 2 ^ 8 := Nat.pow_le_pow_right (by decide) (by omega)
  exact ⟨n.toNat, u.toNat, by omega, by omega, by omega, by omega, by omega⟩
/-- What holds of all those maps holds of each one that may be. -/
theorem U.of_all (P : Int → Int → Bool) (hP : ∀ m, m ≤ 8 → ∀ v, v < 256 → v < 2 ^ m → P (m : Nat) (v : Nat) = true) {n u : Int} (h : U.may n u = true) : P n u = true := by
  obtain ⟨m, v, rfl, rfl, h1, h2, h3⟩ := U.may_cases h
  exact hP m h1 v h3 h2

theorem U.all_no {n u : Int} (h : U.may n u = false) : U.all n u = [] := by simp [U.all, h]
theorem U.all_yes {n u : Int} (h : U.may n u = true) : U.all n u = (List.range n.toNat).map fun i => (i, U.bit u i) := by simp [U.all, h]
theorem U.all_len {n u : Int} (h : U.may n u = true) : (U.all n u).length = n.toNat := by simp [U.all_yes h]
theorem U.all_le (n u : Int) : (U.all n u).length ≤ 8 := by
  cases h : U.may n u with
  | false => simp [U.all_no h]
  | true => have := (U.may_iff.1 h); rw [U.all_len h]; omega
theorem U.all_take {n u : Int} (h : U.may n u = true) {k : Nat} (hk : k < n.toNat) : (U.all n u).take (k + 1) = (U.all n u).take k ++ [(k, U.bit u k)] := by
  have hl : k < (U.all n u).length := by rw [U.all_len h]; exact hk
  rw [List.take_succ_eq_append_getElem hl]
  simp [U.all_yes h]

/-- A beginning of all blocks, up to one. -/
theorem U.at_prefix {n u i : Int} {pre : List (Nat × Bool)} {k : Nat} {b : Bool} (h : pre ++ [(k, b)] <+: U.all n u) (hne : ∀ p ∈ pre, (p.1 : Int) ≠ i) (hi : (k : Int) = i) : U.at' n u i = U.num b := by
  cases hm : U.may n u with
  | false => rw [U.all_no hm] at h; simp at h
  | true =>
    rw [U.all_yes hm] at h
    have hg : ((List.range n.toNat).map fun i => (i, U.bit u i))[pre.length]? = some (k, b) := by
      obtain ⟨t, ht⟩ := h
      rw [← ht]; simp
    simp at hg
    obtain ⟨j, hl, h1, h2⟩ := hg
    have e : j = pre.length := by
      have := List.getElem?_eq_some_iff.1 hl
      simpa using this.2.symm
    subst hi
    have hn := U.may_iff.1 hm
    have hk : pre.length < n.toNat := by
      have := (List.getElem?_eq_some_iff.1 hl).1
      simpa using this
    simp only [U.at', hm]
    rw [if_pos (by simp; omega)]
    rw [← h2, ← h1]; simp
theorem U.at_none {n u i : Int} (hne : ∀ p ∈ U.all n u, (p.1 : Int) ≠ i) : U.at' n u i = -1 := by
  cases hm : U.may n u with
  | false => simp [U.at', hm]
  | true =>
    simp only [U.at', hm]
    rw [if_neg]
    intro hh
    simp at hh
    refine hne (i.toNat, U.bit u i.toNat) ?_ (by have := hh.1; show ((i.toNat : Nat) : Int) = i; omega)
    rw [U.all_yes hm]
    exact List.mem_map.2 ⟨i.toNat, List.mem_range.2 (by omega), rfl⟩
theorem U.free_prefix {n u : Int} {pre : List (Nat × Bool)} {k : Nat} (h : pre ++ [(k, false)] <+: U.all n u) (hne : ∀ p ∈ pre, p.2 = true) : U.first n u = k := by
  obtain ⟨t, ht⟩ := h
  have h0 : (pre.filterMap fun p => if p.2 then none else some (p.1 : Int)) = [] := by
    rw [List.filterMap_eq_nil_iff]
    intro p hp
    simp [hne p hp]
  unfold U.first U.free
  rw [← ht]
  simp [h0]
theorem U.first_none {n u : Int} (hne : ∀ p ∈ U.all n u, p.2 = true) : U.first n u = -1 := by
  have h0 : U.free n u = [] := by
    unfold U.free
    rw [List.filterMap_eq_nil_iff]
    intro p hp
    simp [hne p hp]
  simp [U.first, h0]
/-- What is free of a beginning. -/
def U.fr (l : List (Nat × Bool)) : List Int := l.filterMap fun p => if p.2 then none else some (p.1 : Int)
theorem U.fr_t (l : List (Nat × Bool)) (k : Nat) : U.fr (l ++ [(k, true)]) = U.fr l := by simp [U.fr]
theorem U.fr_f (l : List (Nat × Bool)) (k : Nat) : U.fr (l ++ [(k, false)]) = U.fr l ++ [(k : Int)] := by simp [U.fr]
theorem U.fr_len (l : List (Nat × Bool)) : (U.fr l).length ≤ l.length := List.length_filterMap_le _ _
/-- How many of a beginning are used. -/
def U.ct (l : List (Nat × Bool)) : Nat := (l.filter fun p => p.2).length
theorem U.ct_t (l : List (Nat × Bool)) (k : Nat) : U.ct (l ++ [(k, true)]) = U.ct l + 1 := by simp [U.ct]
theorem U.ct_f (l : List (Nat × Bool)) (k : Nat) : U.ct (l ++ [(k, false)]) = U.ct l := by simp [U.ct]
theorem U.ct_le (l : List (Nat × Bool)) : U.ct l ≤ l.length := List.length_filter_le _ _
theorem U.count_eq (n u : Int) : U.count n u = U.ct (U.all n u) := by
  unfold U.count
  generalize U.all n u = l
  induction l with
  | nil => simp [U.ct]
  | cons p l ih =>
    obtain ⟨k, b⟩ := p
    have h2 : U.ct ((k, b) :: l) = U.ct l + (if b then 1 else 0) := by cases b <;> simp [U.ct]
    rw [List.map_cons, List.sum_cons, ih, h2]
    cases b <;> simp [U.num] <;> omega
end Go.Proofs.Ytbnhaoimdponkaa
