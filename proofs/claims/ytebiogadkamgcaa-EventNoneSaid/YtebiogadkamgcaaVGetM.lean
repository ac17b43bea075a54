/-
  What Get returns, and how far a reading has come: plain.
-/
import Derived.Test.YtebiogadkamgcaaVMath
import Derived.Test.YtebiogadkamgcaaKit
namespace Go.Proofs.Ytebiogadkamgcaa
open Go.RowKit

/-- What Get returns. -/
def GetIs (L : List Int) (p : Int) (w : World) (e : Ending) (w' : World) : Prop :=
  e = .returned (.tuple #[.int .i64 (M.get L p).1, .int .i64 (M.get L p).2]) ∧ w = w'

theorem GetIs.mk {L : List Int} {p n q : Int} {w : World} (h : M.get L p = (n, q)) : GetIs L p w (.returned (.tuple #[.int .i64 n, .int .i64 q])) w := by
  unfold GetIs; rw [h]; exact ⟨rfl, rfl⟩

theorem head_nil : M.head [] = none := rfl
theorem get_neg {L : List Int} {p : Int} (h : p < 0) : M.get L p = (0, -1) := by unfold M.get; rw [if_pos h]
theorem get_none {L : List Int} {q : Nat} (h : M.head (L.drop q) = none) : M.get L q = (0, -1) := by
  unfold M.get; rw [if_neg (by omega)]; simp [h]
theorem get_some {L : List Int} {q : Nat} {n : Int} {e : Nat} (h : M.head (L.drop q) = some (n, e)) : M.get L q = (n, (q : Int) + e) := by
  unfold M.get; rw [if_neg (by omega)]; simp [h]

/-- How far the reading has come: j digits of the number at q, up to the place k. -/
def At (L : List Int) (q j k : Nat) (acc u : Int) : Prop :=
  k = q + j ∧ u = 128 ^ j ∧ M.head (L.drop q) = (M.dig (6 - j) (decide (j = 0)) acc u (L.drop k)).map fun p => (p.1, p.2 + j)

theorem At.start (L : List Int) (q : Nat) : At L q 0 q 0 1 := ⟨rfl, rfl, by unfold M.head; simp⟩
theorem At.step {L : List Int} {q j k : Nat} {acc u c : Int} (h : At L q j k acc u) (hj : j < 6) (hd : L.drop k = c :: L.drop (k + 1)) (hc : 128 ≤ c) : At L q (j + 1) (k + 1) (acc + c % 128 * u) (u * 128) := by
  obtain ⟨h1, h2, h3⟩ := h
  refine ⟨by omega, by rw [h2, Int.pow_succ], ?_⟩
  rw [h3, hd]
  obtain ⟨i, hi⟩ : ∃ i, 6 - j = i + 1 := ⟨5 - j, by omega⟩
  have hi' : 6 - (j + 1) = i := by omega
  rw [hi, hi', M.dig, if_pos hc, Option.map_map, show decide (j + 1 = 0) = false by simp]
  congr 1
  funext p
  simp [Nat.add_assoc, Nat.add_comm 1 j]
theorem At.over {L : List Int} {q j k : Nat} {acc u : Int} (h : At L q j k acc u) (hj : 6 ≤ j) : M.get L q = (0, -1) := by
  refine get_none ?_
  rw [h.2.2, show 6 - j = 0 by omega]; rfl
theorem At.eob {L : List Int} {q j k : Nat} {acc u : Int} (h : At L q j k acc u) (hk : L.length ≤ k) : M.get L q = (0, -1) := by
  refine get_none ?_
  rw [h.2.2, List.drop_eq_nil_of_le hk]
  cases h6 : 6 - j <;> rfl
theorem At.bad {L : List Int} {q j k : Nat} {acc u c : Int} (h : At L q j k acc u) (hd : L.drop k = c :: L.drop (k + 1)) (hc : c < 128) (hb : (c = 0 ∧ q < k) ∨ 1099511627776 < acc + c % 128 * u) : M.get L q = (0, -1) := by
  refine get_none ?_
  obtain ⟨h1, h2, h3⟩ := h
  rw [h3, hd]
  cases h6 : 6 - j with
  | zero => rfl
  | succ i =>
    rw [M.dig, if_neg (by omega), if_pos]
    · rfl
    · rcases hb with ⟨h0, hq⟩ | hb
      · exact .inl ⟨h0, by simp; omega⟩
      · exact .inr hb
theorem At.good {L : List Int} {q j k : Nat} {acc u c : Int} (h : At L q j k acc u) (hj : j < 6) (hd : L.drop k = c :: L.drop (k + 1)) (hc : c < 128) (hb : ¬ ((c = 0 ∧ q < k) ∨ 1099511627776 < acc + c % 128 * u)) : M.get L q = (acc + c % 128 * u, (k : Int) + 1) := by
  obtain ⟨h1, h2, h3⟩ := h
  obtain ⟨i, hi⟩ : ∃ i, 6 - j = i + 1 := ⟨5 - j, by omega⟩
  have hh : M.head (L.drop q) = some (acc + c % 128 * u, 1 + j) := by
    rw [h3, hd, hi, M.dig, if_neg (by omega), if_neg]
    · rfl
    · rintro (⟨h0, hq⟩ | hb')
      · exact hb (.inl ⟨h0, by simp at hq; omega⟩)
      · exact hb (.inr hb')
  rw [get_some hh]
  congr 1
  omega

theorem At.unit {L : List Int} {q j k : Nat} {acc u : Int} (h : At L q j k acc u) (hj : j ≤ 6) : 1 ≤ u ∧ (j < 6 → u ≤ 34359738368) ∧ (j = 6 → u = 4398046511104) ∧ u ≤ 4398046511104 := by
  obtain ⟨_, rfl, _⟩ := h
  have : j = 0 ∨ j = 1 ∨ j = 2 ∨ j = 3 ∨ j = 4 ∨ j = 5 ∨ j = 6 := by omega
  rcases this with rfl | rfl | rfl | rfl | rfl | rfl | rfl <;> simp

theorem prod_bd {c u : Int} (hu : 1 ≤ u) : 0 ≤ c % 128 * u ∧ c % 128 * u ≤ 127 * u :=
  ⟨Int.mul_nonneg (by omega) (by omega), Int.mul_le_mul_of_nonneg_right (by omega) (by omega)⟩

theorem getIs_of {L : List Int} {p n q : Int} {w : World} (h : M.get L p = (n, q)) {f : FuncId} {args : Array Value} (hc : Calls Try.prog f args w (GetIs L p w)) :
    Calls Try.prog f args w fun e w' => e = .returned (.tuple #[.int .i64 n, .int .i64 q]) ∧ w = w' :=
  hc.mono fun e w' he => by unfold GetIs at he; rw [h] at he; exact he

end Go.Proofs.Ytebiogadkamgcaa
