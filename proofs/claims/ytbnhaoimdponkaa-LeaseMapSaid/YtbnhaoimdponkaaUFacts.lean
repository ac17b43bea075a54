/-
  What the laws of maps say, reckoned: of all 511 maps, block by block.
-/
import Derived.Test.YtbnhaoimdponkaaUMath
namespace Go.Proofs.Ytbnhaoimdponkaa

theorem U.case {n u : Int} (h : U.may n u = true) : ∃ m v : Nat, n = m ∧ u = v ∧ m < 9 ∧ v < 2 ^ m := by
  obtain ⟨m, v, h1, h2, h3, h4, -⟩ := U.may_cases h
  exact ⟨m, v, h1, h2, by omega, h4⟩
theorem U.no {n u i : Int} (h : ¬ (U.may n u = true ∧ 0 ≤ i ∧ i < n)) : U.at' n u i = -1 := by
  unfold U.at'
  rw [if_neg]
  intro hh
  simp at hh
  exact h ⟨hh.1.1, hh.1.2, hh.2⟩
theorem U.off_in {n u i : Int} (h : U.off n u i = true) : U.may n u = true ∧ 0 ≤ i ∧ i < n := by
  refine Decidable.not_not.1 fun hh => ?_
  unfold U.off at h
  rw [U.no hh] at h
  cases h
theorem U.has_in {n u i : Int} (h : U.has n u i = true) : U.may n u = true ∧ 0 ≤ i ∧ i < n := by
  refine Decidable.not_not.1 fun hh => ?_
  unfold U.has at h
  rw [U.no hh] at h
  cases h
theorem U.has_out {n u i : Int} (h : ¬ (U.may n u = true ∧ 0 ≤ i ∧ i < n)) : U.has n u i = false := by
  unfold U.has
  rw [U.no h]
  rfl

def U.backB (n u i : Int) : Bool :=
  !U.off n u i || (U.may n (U.take n u i) && U.has n (U.take n u i) i && (U.give n (U.take n u i) i == u) && !U.off n (U.take n u i) i && !U.has n u i && (U.count n (U.take n u i) == U.count n u + 1))
theorem U.back_all : ∀ m, m < 9 → ∀ v, v < 2 ^ m → ∀ i, i < m → U.backB (m : Nat) (v : Nat) (i : Nat) = true := by decide +kernel
theorem U.back {n u i : Int} (h : U.off n u i = true) : U.may n (U.take n u i) = true ∧ U.has n (U.take n u i) i = true ∧ U.give n (U.take n u i) i = u ∧ U.off n (U.take n u i) i = false ∧ U.has n u i = false ∧ U.count n (U.take n u i) = U.count n u + 1 := by
  obtain ⟨hm, h0, h1⟩ := U.off_in h
  obtain ⟨m, v, rfl, rfl, h2, h3⟩ := U.case hm
  obtain ⟨j, rfl⟩ := Int.eq_ofNat_of_zero_le h0
  have := U.back_all m h2 v h3 j (by omega)
  simp only [U.backB, h, Bool.not_true, Bool.false_or, Bool.and_eq_true, beq_iff_eq, Bool.not_eq_true'] at this
  obtain ⟨⟨⟨⟨⟨a, b⟩, c⟩, d⟩, e⟩, f⟩ := this
  exact ⟨a, b, c, d, e, f⟩
theorem U.rest_all : ∀ m, m < 9 → ∀ v, v < 2 ^ m → ∀ i, i < m → ∀ k, k < m → (!U.off (m : Nat) (v : Nat) (i : Nat) || (k == i) || (U.has (m : Nat) (U.take (m : Nat) (v : Nat) (i : Nat)) (k : Nat) == U.has (m : Nat) (v : Nat) (k : Nat))) = true := by decide +kernel
theorem U.rest {n u i k : Int} (h : U.off n u i = true) (hk : k ≠ i) : U.has n (U.take n u i) k = U.has n u k := by
  obtain ⟨hm, h0, h1⟩ := U.off_in h
  by_cases hr : 0 ≤ k ∧ k < n
  · obtain ⟨m, v, rfl, rfl, h2, h3⟩ := U.case hm
    obtain ⟨j, rfl⟩ := Int.eq_ofNat_of_zero_le h0
    obtain ⟨l, rfl⟩ := Int.eq_ofNat_of_zero_le hr.1
    have := U.rest_all m h2 v h3 j (by omega) l (by omega)
    have hne : (l == j) = false := by simp; intro e; exact hk (by rw [e])
    simpa [h, hne] using this
  · rw [U.has_out (fun hh => hr ⟨hh.2.1, hh.2.2⟩), U.has_out (fun hh => hr ⟨hh.2.1, hh.2.2⟩)]
theorem U.count_le (n u : Int) : 0 ≤ U.count n u ∧ U.count n u ≤ 8 := by
  rw [U.count_eq]
  have := U.ct_le (U.all n u)
  have := U.all_le n u
  omega
theorem U.stay {n u i : Int} (h : U.off n u i = false) : U.take n u i = u := by simp [U.take, h]
theorem U.keep {n u i : Int} (h : U.has n u i = false) : U.give n u i = u := by simp [U.give, h]

/-- The order in which two blocks are taken. -/
def U.orderB (n u i k : Int) : Bool :=
  (i == k) || (((U.off n u i && U.off n (U.take n u i) k) == (U.off n u k && U.off n (U.take n u k) i)) &&
    (!(U.off n u i && U.off n (U.take n u i) k) || ((U.take n (U.take n u i) k == U.take n (U.take n u k) i) && (U.count n (U.take n (U.take n u i) k) == U.count n u + 2))))
theorem U.order_all : ∀ m, m < 9 → ∀ v, v < 2 ^ m → ∀ i, i < m → ∀ k, k < m → U.orderB (m : Nat) (v : Nat) (i : Nat) (k : Nat) = true := by decide +kernel
theorem U.order {n u i k : Int} : U.orderB n u i k = true := by
  by_cases hh : (U.may n u = true ∧ 0 ≤ i ∧ i < n) ∧ 0 ≤ k ∧ k < n
  · obtain ⟨⟨hm, h0, h1⟩, h2, h3⟩ := hh
    obtain ⟨m, v, rfl, rfl, h4, h5⟩ := U.case hm
    obtain ⟨j, rfl⟩ := Int.eq_ofNat_of_zero_le h0
    obtain ⟨l, rfl⟩ := Int.eq_ofNat_of_zero_le h2
    exact U.order_all m h4 v h5 j (by omega) l (by omega)
  · have hx : ∀ x, (U.off n u i && U.off n x k) = false := by
      intro x
      rw [Bool.and_eq_false_iff]
      by_cases h1 : U.off n u i = true
      · right
        cases h2 : U.off n x k with
        | false => rfl
        | true => exact absurd ⟨U.off_in h1, (U.off_in h2).2⟩ hh
      · left; simpa using h1
    have hy : ∀ x, (U.off n u k && U.off n x i) = false := by
      intro x
      rw [Bool.and_eq_false_iff]
      by_cases h1 : U.off n u k = true
      · right
        cases h2 : U.off n x i with
        | false => rfl
        | true => exact absurd ⟨⟨(U.off_in h1).1, (U.off_in h2).2⟩, (U.off_in h1).2⟩ hh
      · left; simpa using h1
    simp [U.orderB, hx, hy]

/-- What is given. -/
def U.givesB (n u i : Int) : Bool :=
  !U.has n u i || (!U.has n (U.give n u i) i && (((U.first n u == -1) || decide (i < U.first n u)) == (U.first n (U.give n u i) == i)) && ((U.first n (U.give n u i) == i) || (U.first n (U.give n u i) == U.first n u)))
theorem U.gives_all : ∀ m, m < 9 → ∀ v, v < 2 ^ m → ∀ i, i < m → U.givesB (m : Nat) (v : Nat) (i : Nat) = true := by decide +kernel
theorem U.gives {n u i : Int} (h : U.has n u i = true) : U.has n (U.give n u i) i = false ∧ (((U.first n u == -1) || decide (i < U.first n u)) = (U.first n (U.give n u i) == i)) ∧ (U.first n (U.give n u i) = i ∨ U.first n (U.give n u i) = U.first n u) := by
  obtain ⟨hm, h0, h1⟩ := U.has_in h
  obtain ⟨m, v, rfl, rfl, h2, h3⟩ := U.case hm
  obtain ⟨j, rfl⟩ := Int.eq_ofNat_of_zero_le h0
  have := U.gives_all m h2 v h3 j (by omega)
  simp only [U.givesB, h, Bool.not_true, Bool.false_or, Bool.and_eq_true, Bool.or_eq_true, beq_iff_eq, Bool.not_eq_true'] at this
  obtain ⟨⟨a, b⟩, c⟩ := this
  exact ⟨a, b, c⟩

/-- Blocks are taken one behind the other. -/
theorem U.fills_all : ∀ m, m < 9 → ∀ i, i < m → (U.first (m : Nat) (2 ^ i - 1) == (i : Nat)) && U.off (m : Nat) (2 ^ i - 1) (i : Nat) && (U.take (m : Nat) (2 ^ i - 1) (i : Nat) == 2 ^ (i + 1) - 1) = true := by decide +kernel
theorem U.full_all : ∀ m, m < 9 → (U.first (m : Nat) (2 ^ m - 1) == -1) && (U.count (m : Nat) (2 ^ m - 1) == (m : Nat)) && (U.free (m : Nat) (2 ^ m - 1) == []) = true := by decide +kernel

/-- What is free. -/
def U.freeB (n u : Int) : Bool :=
  (((U.free n u).length : Int) + U.count n u == n) && ((U.first n u == -1) == ((U.free n u).length == 0)) && (U.off n u (U.first n u) == decide (0 < (U.free n u).length)) &&
    (List.range (U.free n u).length).all fun k => (k == 0) || decide ((U.free n u).getD (k - 1) 0 < (U.free n u).getD k 0)
theorem U.freeB_all : ∀ m, m < 9 → ∀ v, v < 2 ^ m → U.freeB (m : Nat) (v : Nat) = true := by decide +kernel
theorem U.free_facts {n u : Int} (h : U.may n u = true) : ((U.free n u).length : Int) + U.count n u = n ∧ ((U.first n u == -1) = ((U.free n u).length == 0)) ∧ U.off n u (U.first n u) = decide (0 < (U.free n u).length) ∧ ∀ k, 0 < k → k < (U.free n u).length → (U.free n u).getD (k - 1) 0 < (U.free n u).getD k 0 := by
  obtain ⟨m, v, rfl, rfl, h2, h3⟩ := U.case h
  have := U.freeB_all m h2 v h3
  simp only [U.freeB, Bool.and_eq_true, beq_iff_eq, List.all_eq_true, List.mem_range, Bool.or_eq_true, decide_eq_true_eq] at this
  obtain ⟨⟨⟨a, b⟩, c⟩, d⟩ := this
  refine ⟨a, b, c, fun k hk hl => ?_⟩
  rcases d k hl with e | e
  · omega
  · exact e
theorem U.free_mem {n u i : Int} (h : U.may n u = true) : i ∈ U.free n u ↔ U.off n u i = true := by
  unfold U.free
  rw [U.all_yes h]
  constructor
  · intro hi
    obtain ⟨p, hp, he⟩ := List.mem_filterMap.1 hi
    obtain ⟨j, hj, rfl⟩ := List.mem_map.1 hp
    have hj' := List.mem_range.1 hj
    cases hb : U.bit u j with
    | true => simp [hb] at he
    | false =>
      simp [hb] at he
      subst he
      unfold U.off U.at'
      have hn := U.may_iff.1 h
      rw [if_pos (by simp [h]; omega)]
      simp [hb, U.num]
  · intro hi
    obtain ⟨-, h0, h1⟩ := U.off_in hi
    have hb : U.bit u i.toNat = false := by
      unfold U.off U.at' at hi
      rw [if_pos (by simp [h, h0, h1])] at hi
      cases hb : U.bit u i.toNat with
      | false => rfl
      | true => rw [hb] at hi; simp [U.num] at hi
    refine List.mem_filterMap.2 ⟨(i.toNat, U.bit u i.toNat), List.mem_map.2 ⟨i.toNat, List.mem_range.2 (by omega), rfl⟩, ?_⟩
    simp [hb]
    omega
end Go.Proofs.Ytbnhaoimdponkaa
