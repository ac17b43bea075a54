/-
  Slices of timers: what they read as, what they own; boxes of timers and of wheels.
-/
import Derived.Test.YtmegkfonodcoiaaBlok
import Derived.Test.YtmegkfonodcoiaaWMath
import Derived.Test.YtmegkfonodcoiaaReg
import Derived.ArgAppend
import Derived.Laws.OwnMore
namespace Go.Proofs.Ytmegkfonodcoiaa
open Go.RowKit

def W.cells (t : W.Tm) : List Value := [.int .i64 t.1, .int .i64 t.2]
def W.flat (l : List W.Tm) : List Value := l.flatMap W.cells
theorem W.flat_nil : W.flat [] = [] := rfl
theorem W.flat_cons (t : W.Tm) (l : List W.Tm) : W.flat (t :: l) = .int .i64 t.1 :: .int .i64 t.2 :: W.flat l := rfl
theorem W.flat_append (l k : List W.Tm) : W.flat (l ++ k) = W.flat l ++ W.flat k := by simp [W.flat]
theorem W.flat_len (l : List W.Tm) : (W.flat l).length = l.length * 2 := by
  induction l with
  | nil => rfl
  | cons t l ih => rw [W.flat_cons]; simp [ih]; omega
theorem W.flat_at : ∀ (l : List W.Tm) (i : Nat) (x : W.Tm), l[i]? = some x → (W.flat l)[i * 2]? = some (.int .i64 x.1) ∧ (W.flat l)[i * 2 + 1]? = some (.int .i64 x.2)
  | [], _, _, h => by simp at h
  | y :: l, 0, x, h => by
    obtain rfl : y = x := by simpa using h
    exact ⟨rfl, rfl⟩
  | y :: l, i + 1, x, h => by
    have := W.flat_at l i x (by simpa using h)
    have e : (i + 1) * 2 = i * 2 + 2 := by omega
    rw [e, W.flat_cons]
    exact this
theorem W.flat_one (l : List W.Tm) : ∀ u ∈ W.flat l, u.oneCell' = true := by
  intro u hu
  obtain ⟨t, _, ht⟩ := List.mem_flatMap.1 hu
  simp only [W.cells, List.mem_cons, List.not_mem_nil, or_false] at ht
  rcases ht with rfl | rfl <;> rfl
theorem W.flat_some {l : List W.Tm} {j : Nat} {u : Value} (h : (W.flat l)[j]? = some u) : ∃ i x, l[i]? = some x ∧ (j = i * 2 ∧ u = .int .i64 x.1 ∨ j = i * 2 + 1 ∧ u = .int .i64 x.2) := by
  have hj : j < l.length * 2 := by rw [← W.flat_len]; exact (List.getElem?_eq_some_iff.1 h).1
  have hi : j / 2 < l.length := by omega
  have hx := List.getElem?_eq_getElem hi
  have h2 := W.flat_at l (j / 2) _ hx
  rcases Nat.mod_two_eq_zero_or_one j with h0 | h0
  · refine ⟨j / 2, _, hx, .inl ⟨by omega, ?_⟩⟩
    have e : j / 2 * 2 = j := by omega
    rw [e, h] at h2
    exact Option.some.inj h2.1
  · refine ⟨j / 2, _, hx, .inr ⟨by omega, ?_⟩⟩
    have e : j / 2 * 2 + 1 = j := by omega
    rw [e, h] at h2
    exact Option.some.inj h2.2

/-- What a slice of timers reads as. -/
def TIn (w : World) (a : Option Addr) (n c : Nat) (l : List W.Tm) : Prop :=
  l.length = n ∧ (n ≤ c ∧ c ≤ maxLen) ∧ (a = none → n = 0 ∧ c = 0) ∧ (l = [] ∨ ∃ b off, a = some ⟨b, off, none⟩ ∧ b < w.heap.size ∧ ∀ i x, l[i]? = some x → w.cell? ⟨b, off + i * 2, none⟩ = some (.int .i64 x.1) ∧ w.cell? ⟨b, off + i * 2 + 1, none⟩ = some (.int .i64 x.2))
theorem TIn.grown {w w' : World} {a : Option Addr} {n c : Nat} {l : List W.Tm} {row : Option Nat} (h : TIn w a n c l) (hg : w.grownBy w' row) (hr : ∀ x, a = some x → some x.block ≠ row) : TIn w' a n c l := by
  refine ⟨h.1, h.2.1, h.2.2.1, ?_⟩
  rcases h.2.2.2 with h0 | ⟨b, off, rfl, hlt, hc⟩
  · exact .inl h0
  · refine .inr ⟨b, off, rfl, Nat.lt_of_lt_of_le hlt hg.size, fun i x hi => ?_⟩
    have hb : ∀ o, w'.cell? ⟨b, o, none⟩ = w.cell? ⟨b, o, none⟩ := fun o => by unfold World.cell?; rw [hg.block b hlt (hr _ rfl)]
    rw [hb, hb]; exact hc i x hi
theorem TIn.on {w w' : World} {a : Option Addr} {n c : Nat} {l : List W.Tm} (h : TIn w a n c l) (hg : w.grownBy w' none) : TIn w' a n c l := h.grown hg (by simp)
theorem TIn.below {w w' : World} {a : Option Addr} {n c : Nat} {l : List W.Tm} (h : TIn w a n c l) (hb : Below w.heap.size w w') : TIn w' a n c l :=
  h.on ⟨hb.os, hb.tape, hb.output, hb.size, fun i hi _ => hb.block i hi⟩
theorem TIn.belowN {B : Nat} {w w' : World} {a : Option Addr} {n c : Nat} {l : List W.Tm} (h : TIn w a n c l) (hB : w.heap.size ≤ B) (hb : Below B w w') : TIn w' a n c l := h.below (hb.mono hB)
theorem TIn.nil (w : World) : TIn w none 0 0 [] := ⟨rfl, ⟨Nat.le_refl _, by simp [maxLen]⟩, fun _ => ⟨rfl, rfl⟩, .inl rfl⟩
theorem TIn.at {w : World} {a : Option Addr} {n c i : Nat} {l : List W.Tm} (h : TIn w a n c l) (hi : i < n) :
    ∃ b off x, a = some ⟨b, off, none⟩ ∧ b < w.heap.size ∧ l[i]? = some x ∧ w.cell? ⟨b, off + i * 2, none⟩ = some (.int .i64 x.1) ∧ w.cell? ⟨b, off + i * 2 + 1, none⟩ = some (.int .i64 x.2) := by
  rcases h.2.2.2 with rfl | ⟨b, off, rfl, hb, hc⟩
  · have := h.1; simp at this; omega
  · have hx := List.getElem?_eq_getElem (show i < l.length by rw [h.1]; exact hi)
    exact ⟨b, off, _, rfl, hb, hx, (hc i _ hx).1, (hc i _ hx).2⟩
theorem TIn.take {w : World} {a : Option Addr} {n c : Nat} {l : List W.Tm} (h : TIn w a n c l) (j : Nat) (hj : j ≤ n) : TIn w a j c (l.take j) := by
  refine ⟨by have := h.1; simp; omega, ⟨by have := h.2.1; omega, h.2.1.2⟩, fun ha => ?_, ?_⟩
  · have := h.2.2.1 ha; omega
  · rcases h.2.2.2 with rfl | ⟨b, off, rfl, hb, hc⟩
    · exact .inl (by simp)
    · refine .inr ⟨b, off, rfl, hb, fun i x hi => hc i x ?_⟩
      rw [List.getElem?_take] at hi
      split at hi
      · exact hi
      · cases hi
/-- A block that holds a row of timers. -/
theorem TIn.blok {w : World} {g c : Nat} {t : TypeId} {l : List W.Tm} {rest : List Value} (h : Blok w g t (W.flat l ++ rest).toArray) (hc : l.length ≤ c) (hm : c ≤ maxLen) : TIn w (some ⟨g, 0, none⟩) l.length c l := by
  refine ⟨rfl, ⟨hc, hm⟩, fun h => (by cases h), .inr ⟨g, 0, rfl, h.lt, fun i x hi => ?_⟩⟩
  have hi2 := (List.getElem?_eq_some_iff.1 hi).1
  obtain ⟨f1, f2⟩ := W.flat_at l i x hi
  rw [h.cell, h.cell]
  simp only [List.getElem?_toArray]
  rw [List.getElem?_append_left (by rw [W.flat_len]; omega), List.getElem?_append_left (by rw [W.flat_len]; omega), Nat.zero_add]
  exact ⟨f1, f2⟩
theorem own_timers {w : World} {B n : Nat} {v : Value} {l : List W.Tm} (h : w.ownsRow B 40 2 v n (W.flat l)) (hn : l.length = n) : ∃ a c, v = .slice a n c ∧ TIn w a n c l := by
  rcases h.2 with ⟨rfl, h0⟩ | ⟨g, cap, cur, rfl, _, hg, hle, hm, _⟩
  · obtain rfl : l = [] := List.eq_nil_of_length_eq_zero (by omega)
    exact ⟨none, 0, by rw [h0], by rw [h0]; exact TIn.nil w⟩
  · refine ⟨_, cap, rfl, hn, ⟨by omega, hm⟩, fun h => (by cases h), .inr ⟨g, 0, rfl, (Array.getElem?_eq_some_iff.1 hg).1, fun i x hi => ?_⟩⟩
    obtain ⟨f1, f2⟩ := W.flat_at l i x hi
    have c1 := h.cells (g := g) rfl _ _ f1
    have c2 := h.cells (g := g) rfl _ _ f2
    rw [WideShapes.add_plain] at c1 c2
    exact ⟨c1, by rw [Nat.add_assoc]; exact c2⟩
theorem info_timer : (Try.prog.info? 40).map (fun i => (i.zero, i.size, i.bytes)) = some (some (.agg #[.int .i64 0, .int .i64 0]), 2, 16) := by kernel_rfl
theorem below_none {w w' : World} (hb : Below w.heap.size w w') : w.grownBy w' none := ⟨hb.os, hb.tape, hb.output, hb.size, fun i hi _ => hb.block i hi⟩
theorem none_below {w w' : World} (hg : w.grownBy w' none) : Below w.heap.size w w' := ⟨hg.os, hg.tape, hg.output, hg.size, fun i hi => hg.block i hi (by simp)⟩
end Go.Proofs.Ytmegkfonodcoiaa
