/-
  What the map of leases says.
-/
import Derived.Test.YtbnhaoimdponkaaLMap
import Derived.Test.YtbnhaoimdponkaaUFacts
namespace Go.Proofs.Ytbnhaoimdponkaa
namespace L
theorem has_or {N u i : Int} (h : U.may N u = true) (h0 : 0 ≤ i) (h1 : i < N) : U.has N u i = !U.off N u i := by
  unfold U.has U.off U.at'
  rw [h, decide_eq_true h0, decide_eq_true h1]
  simp only [Bool.and_self, if_true]
  cases U.bit u i.toNat <;> decide
theorem take_may {N u b : Int} (h : U.may N u = true) : U.may N (U.take N u b) = true := by
  cases ho : U.off N u b with
  | true => exact (U.back ho).1
  | false => rw [U.stay ho]; exact h
theorem take_has {N u b i : Int} (h : U.may N u = true) (h0 : 0 ≤ i) (h1 : i < N) : U.has N (U.take N u b) i = (U.has N u i || decide (b = i)) := by
  cases ho : U.off N u b with
  | true =>
    by_cases hb : b = i
    · subst hb; rw [(U.back ho).2.1, decide_eq_true rfl]; simp
    · rw [U.rest ho (fun e => hb e.symm), decide_eq_false hb]; simp
  | false =>
    rw [U.stay ho]
    by_cases hb : b = i
    · subst hb; rw [has_or h h0 h1, ho]; rfl
    · rw [decide_eq_false hb]; simp
theorem use1_may {N at' u : Int} {x : T3} (h : U.may N u = true) : U.may N (use1 N at' u x) = true := by
  unfold use1; split
  · exact take_may h
  · exact h
theorem uses_may {N at' : Int} : ∀ (l : List T3) {u : Int}, U.may N u = true → U.may N (uses N at' u l) = true
  | [], _, h => h
  | x :: l, u, h => uses_may l (u := use1 N at' u x) (use1_may h)
theorem use1_has {N at' u i : Int} {x : T3} (h : U.may N u = true) (h0 : 0 ≤ i) (h1 : i < N) : U.has N (use1 N at' u x) i = (U.has N u i || isOf at' i x) := by
  unfold use1; split
  · rename_i hx
    rw [take_has h h0 h1]
    congr 1
    unfold isOf
    by_cases hb : x.b = i
    · rw [decide_eq_true hb, decide_eq_true ⟨hx, hb⟩]
    · rw [decide_eq_false hb, decide_eq_false (fun e => hb e.2)]
  · rename_i hx
    have : isOf at' i x = false := by unfold isOf; exact decide_eq_false (fun e => hx e.1)
    rw [this]; simp
theorem uses_has {N at' i : Int} (h0 : 0 ≤ i) (h1 : i < N) : ∀ (l : List T3) {u : Int}, U.may N u = true → U.has N (uses N at' u l) i = (U.has N u i || l.any (isOf at' i))
  | [], u, h => by simp [uses]
  | x :: l, u, h => by
    have := uses_has (at' := at') h0 h1 l (u := use1 N at' u x) (use1_may h)
    rw [show uses N at' u (x :: l) = uses N at' (use1 N at' u x) l from rfl, this, use1_has h h0 h1, List.any_cons, Bool.or_assoc]
theorem new_may (n : Int) : U.may (U.newN n) 0 = true := by
  unfold U.newN
  cases h : U.may n 0 with
  | true => rw [if_pos rfl]; exact h
  | false => rw [if_neg (by simp)]; decide
theorem has_zero (N i : Int) : U.has N 0 i = false := by
  unfold U.has U.at' U.bit
  split
  · simp [U.num]
  · decide
theorem find_any (l : List Ls) (a b : Int) : decide (0 ≤ find l a b) = (l.map had).any (isOf a b) := by
  rcases find_cases l a b with ⟨h, h2⟩ | ⟨i, x, h, hi, ha, hb, _⟩
  · rw [h]
    symm
    rw [show decide (0 ≤ (-1 : Int)) = false by decide, List.any_eq_false]
    intro y hy
    obtain ⟨z, hz, rfl⟩ := List.mem_map.1 hy
    intro e
    exact h2 z hz (isOf_iff.1 e)
  · rw [h]
    symm
    rw [show decide (0 ≤ (i : Int)) = true from decide_eq_true (by omega), List.any_eq_true]
    exact ⟨had x, List.mem_map.2 ⟨x, List.mem_of_getElem? hi, rfl⟩, isOf_iff.2 ⟨ha, hb⟩⟩
/-- The map: which blocks are used. -/
theorem map_has {N at' i u v : Int} {l : List Ls} {k : List T3} {nb : Int} (hN : U.newN nb = N) (hu : uses N at' 0 (l.map had) = u) (hv : uses N at' u k = v) (h0 : 0 ≤ i) (h1 : i < N) : U.has N v i = (decide (0 ≤ find l at' i) || k.any (isOf at' i)) := by
  have hm : U.may N 0 = true := by rw [← hN]; exact new_may nb
  have hm2 : U.may N u = true := by rw [← hu]; exact uses_may _ hm
  rw [← hv, uses_has h0 h1 k hm2, ← hu, uses_has h0 h1 _ hm, has_zero, find_any]; simp
theorem map_may {N at' u v : Int} {l : List Ls} {k : List T3} {nb : Int} (hN : U.newN nb = N) (hu : uses N at' 0 (l.map had) = u) (hv : uses N at' u k = v) : U.may N v = true := by
  have hm : U.may N 0 = true := by rw [← hN]; exact new_may nb
  rw [← hv]; refine uses_may _ ?_; rw [← hu]; exact uses_may _ hm
theorem map_first {N at' u v f : Int} {l : List Ls} {k : List T3} {nb : Int} (hN : U.newN nb = N) (hu : uses N at' 0 (l.map had) = u) (hv : uses N at' u k = v) (hf : U.first N v = f) (h0 : 0 ≤ f) : find l at' f = -1 := by
  have hm := map_may hN hu hv
  obtain ⟨_, h2, h3, _⟩ := U.free_facts hm
  rw [hf] at h2 h3
  have hne : (f == -1) = false := by simp; omega
  have hlen : 0 < (U.free N v).length := by
    rw [hne] at h2
    rcases Nat.eq_zero_or_pos (U.free N v).length with e | e
    · rw [e] at h2; cases h2
    · exact e
  rw [decide_eq_true hlen] at h3
  have hin := U.off_in h3
  have hh := map_has (i := f) hN hu hv hin.2.1 hin.2.2
  rw [has_or hm hin.2.1 hin.2.2, h3] at hh
  have h9 : decide (0 ≤ find l at' f) = false := by
    cases h : decide (0 ≤ find l at' f) with
    | false => rfl
    | true => rw [h] at hh; cases hh
  have h10 := (find_lt l at' f).1
  have h11 : ¬ (0 ≤ find l at' f) := by simpa using h9
  omega
end L
end Go.Proofs.Ytbnhaoimdponkaa
