/-
  One record, two records, as a slice that the call has made; few, told as the others are; Same of what is the same.
-/
import Derived.Test.YtnpgjndhkmpciaaRLists
namespace Go.Proofs.Ytnpgjndhkmpciaa
open Go.RowKit

theorem recs_one {w : World} {k : Int} {a : Option Addr} {n c : Nat} {B : List Int} (h : RP.ok w (k, a, n, c, B)) : RecsIn (w.alloc (.cells #[.int .i64 k, .slice a n c] 24)) (some ⟨w.heap.size, 0, none⟩) 1 [(k, a, n, c, B)] := by
  have hb := (Below.refl w.heap.size w).alloc (Nat.le_refl _) (.cells #[.int .i64 k, .slice a n c] 24)
  have hB := Blok.new w 24 #[.int .i64 k, .slice a n c]
  refine ⟨⟨by simp, by simp [maxLen]⟩, ?_, .inr ⟨w.heap.size, 0, rfl, hB.lt, ?_⟩⟩
  · intro x hx
    simp only [List.mem_singleton] at hx
    rw [hx]
    exact h.below hb
  · intro i x hi
    match i, hi with
    | 0, hi =>
      obtain rfl : (k, a, n, c, B) = x := by simpa using hi
      exact ⟨hB.cell 0, hB.cell 1⟩
theorem recs_two {w : World} {k k' : Int} {a a' : Option Addr} {n n' c c' : Nat} {B B' : List Int} (h : RP.ok w (k, a, n, c, B)) (h' : RP.ok w (k', a', n', c', B')) :
    RecsIn (w.alloc (.cells #[.int .i64 k, .slice a n c, .int .i64 k', .slice a' n' c'] 24)) (some ⟨w.heap.size, 0, none⟩) 2 [(k, a, n, c, B), (k', a', n', c', B')] := by
  have hb := (Below.refl w.heap.size w).alloc (Nat.le_refl _) (.cells #[.int .i64 k, .slice a n c, .int .i64 k', .slice a' n' c'] 24)
  have hB := Blok.new w 24 #[.int .i64 k, .slice a n c, .int .i64 k', .slice a' n' c']
  refine ⟨⟨by simp, by simp [maxLen]⟩, ?_, .inr ⟨w.heap.size, 0, rfl, hB.lt, ?_⟩⟩
  · intro x hx
    simp only [List.mem_cons, List.not_mem_nil, or_false] at hx
    rcases hx with rfl | rfl
    · exact h.below hb
    · exact h'.below hb
  · intro i x hi
    match i, hi with
    | 0, hi =>
      obtain rfl : (k, a, n, c, B) = x := by simpa using hi
      exact ⟨hB.cell 0, hB.cell 1⟩
    | 1, hi =>
      obtain rfl : (k', a', n', c', B') = x := by simpa using hi
      exact ⟨hB.cell 2, hB.cell 3⟩

theorem few1_any (k : Int) (a : Option Addr) (n c : Nat) (B : List Int) (b : Bool) (w : World) (h : RP.ok w (k, a, n, c, B)) (hb : decide (n ≤ 1100) = b) :
    Calls Try.prog 11 #[.slice (some ⟨w.heap.size, 0, none⟩) 1 1, .int .i64 1] (w.alloc (.cells #[.int .i64 k, .slice a n c] 24)) fun e w' => e = .returned (.bool b) ∧ Below w.heap.size w w' :=
  (few_any _ 1 1 1 [(k, a, n, c, B)] b _ rfl (recs_one h) (by rw [← hb, Bool.eq_iff_iff, decide_eq_true_iff, decide_eq_true_iff]; simp)).mono fun e w' ⟨h1, h2⟩ => ⟨h1, by rw [← h2]; exact (Below.refl _ w).alloc (Nat.le_refl _) _⟩
theorem few2_any (k k' : Int) (a a' : Option Addr) (n n' c c' : Nat) (B B' : List Int) (b : Bool) (w : World) (h : RP.ok w (k, a, n, c, B)) (h' : RP.ok w (k', a', n', c', B')) (hb : decide (n ≤ 1100 ∧ n' ≤ 1100) = b) :
    Calls Try.prog 11 #[.slice (some ⟨w.heap.size, 0, none⟩) 2 2, .int .i64 2] (w.alloc (.cells #[.int .i64 k, .slice a n c, .int .i64 k', .slice a' n' c'] 24)) fun e w' => e = .returned (.bool b) ∧ Below w.heap.size w w' :=
  (few_any _ 2 2 2 [(k, a, n, c, B), (k', a', n', c', B')] b _ rfl (recs_two h h') (by rw [← hb, Bool.eq_iff_iff, decide_eq_true_iff, decide_eq_true_iff]; simp)).mono fun e w' ⟨h1, h2⟩ => ⟨h1, by rw [← h2]; exact (Below.refl _ w).alloc (Nat.le_refl _) _⟩
theorem fewB_any (a : Option Addr) (n cap : Nat) (most : Int) (xs : List RP) (b : Bool) (w : World) (hl : xs.length = n) (h : RecsIn w a cap xs) (hb : decide ((∀ x ∈ xs, x.2.2.1 ≤ 1100) ∧ (n : Int) ≤ most) = b) :
    Calls Try.prog 11 #[.slice a n cap, .int .i64 most] w fun e w' => e = .returned (.bool b) ∧ Below w.heap.size w w' :=
  (few_any a n cap most xs b w hl h hb).mono fun e w' ⟨h1, h2⟩ => ⟨h1, by rw [← h2]; exact Below.refl _ _⟩
end Go.Proofs.Ytnpgjndhkmpciaa
