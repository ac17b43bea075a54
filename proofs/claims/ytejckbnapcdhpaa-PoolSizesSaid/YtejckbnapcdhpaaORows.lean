/-
  Slices of pools: what they read as, what they own; boxes of pools.
-/
import Derived.Test.YtejckbnapcdhpaaBlok
import Derived.Test.YtejckbnapcdhpaaOMath
import Derived.Test.YtejckbnapcdhpaaReg
import Derived.ArgAppend
import Derived.Laws.OwnMore
namespace Go.Proofs.Ytejckbnapcdhpaa
open Go.RowKit

def O.cells (t : O.Pl) : List Value := [.int .i64 t.f, .int .i64 t.n, .int .i64 t.s]
def O.flat (l : List O.Pl) : List Value := l.flatMap O.cells
theorem O.flat_nil : O.flat [] = [] := rfl
theorem O.flat_cons (t : O.Pl) (l : List O.Pl) : O.flat (t :: l) = .int .i64 t.f :: .int .i64 t.n :: .int .i64 t.s :: O.flat l := rfl
theorem O.flat_append (l k : List O.Pl) : O.flat (l ++ k) = O.flat l ++ O.flat k := by simp [O.flat]
theorem O.flat_len (l : List O.Pl) : (O.flat l).length = l.length * 3 := by
  induction l with
  | nil => rfl
  | cons t l ih => rw [O.flat_cons]; simp [ih]; omega
theorem O.flat_at : ∀ (l : List O.Pl) (i : Nat) (x : O.Pl), l[i]? = some x → (O.flat l)[i * 3]? = some (.int .i64 x.f) ∧ (O.flat l)[i * 3 + 1]? = some (.int .i64 x.n) ∧ (O.flat l)[i * 3 + 2]? = some (.int .i64 x.s)
  | [], _, _, h => by simp at h
  | y :: l, 0, x, h => by
    obtain rfl : y = x := by simpa using h
    exact ⟨rfl, rfl, rfl⟩
  | y :: l, i + 1, x, h => by
    have := O.flat_at l i x (by simpa using h)
    have e : (i + 1) * 3 = i * 3 + 3 := by omega
    rw [e, O.flat_cons]
    exact this
theorem O.flat_one (l : List O.Pl) : ∀ u ∈ O.flat l, u.oneCell' = true := by
  intro u hu
  obtain ⟨t, _, ht⟩ := List.mem_flatMap.1 hu
  simp only [O.cells, List.mem_cons, List.not_mem_nil, or_false] at ht
  rcases ht with rfl | rfl | rfl <;> rfl
theorem O.flat_some {l : List O.Pl} {j : Nat} {u : Value} (h : (O.flat l)[j]? = some u) : ∃ i x, l[i]? = some x ∧ (j = i * 3 ∧ u = .int .i64 x.f ∨ j = i * 3 + 1 ∧ u = .int .i64 x.n ∨ j = i * 3 + 2 ∧ u = .int .i64 x.s) := by
  have hj : j < l.length * 3 := by rw [← O.flat_len]; exact (List.getElem?_eq_some_iff.1 h).1
  have hi : j / 3 < l.length := by omega
  have hx := List.getElem?_eq_getElem hi
  have h2 := O.flat_at l (j / 3) _ hx
  refine ⟨j / 3, _, hx, ?_⟩
  have h3 : j % 3 = 0 ∨ j % 3 = 1 ∨ j % 3 = 2 := by omega
  rcases h3 with h0 | h0 | h0
  · refine .inl ⟨by omega, ?_⟩
    have e : j / 3 * 3 = j := by omega
    rw [e, h] at h2
    exact Option.some.inj h2.1
  · refine .inr (.inl ⟨by omega, ?_⟩)
    have e : j / 3 * 3 + 1 = j := by omega
    rw [e, h] at h2
    exact Option.some.inj h2.2.1
  · refine .inr (.inr ⟨by omega, ?_⟩)
    have e : j / 3 * 3 + 2 = j := by omega
    rw [e, h] at h2
    exact Option.some.inj h2.2.2

/-- What a slice of pools reads as. -/
def QIn (w : World) (a : Option Addr) (n c : Nat) (l : List O.Pl) : Prop :=
  l.length = n ∧ (n ≤ c ∧ c ≤ maxLen) ∧ (a = none → n = 0 ∧ c = 0) ∧ (l = [] ∨ ∃ b off, a = some ⟨b, off, none⟩ ∧ b < w.heap.size ∧ ∀ i x, l[i]? = some x → w.cell? ⟨b, off + i * 3, none⟩ = some (.int .i64 x.f) ∧ w.cell? ⟨b, off + i * 3 + 1, none⟩ = some (.int .i64 x.n) ∧ w.cell? ⟨b, off + i * 3 + 2, none⟩ = some (.int .i64 x.s))
theorem QIn.grown {w w' : World} {a : Option Addr} {n c : Nat} {l : List O.Pl} {row : Option Nat} (h : QIn w a n c l) (hg : w.grownBy w' row) (hr : ∀ x, a = some x → some x.block ≠ row) : QIn w' a n c l := by
  refine ⟨h.1, h.2.1, h.2.2.1, ?_⟩
  rcases h.2.2.2 with h0 | ⟨b, off, rfl, hlt, hc⟩
  · exact .inl h0
  · refine .inr ⟨b, off, rfl, Nat.lt_of_lt_of_le hlt hg.size, fun i x hi => ?_⟩
    have hb : ∀ o, w'.cell? ⟨b, o, none⟩ = w.cell? ⟨b, o, none⟩ := fun o => by unfold World.cell?; rw [hg.block b hlt (hr _ rfl)]
    rw [hb, hb, hb]; exact hc i x hi
theorem QIn.on {w w' : World} {a : Option Addr} {n c : Nat} {l : List O.Pl} (h : QIn w a n c l) (hg : w.grownBy w' none) : QIn w' a n c l := h.grown hg (by simp)
theorem QIn.below {w w' : World} {a : Option Addr} {n c : Nat} {l : List O.Pl} (h : QIn w a n c l) (hb : Below w.heap.size w w') : QIn w' a n c l :=
  h.on ⟨hb.os, hb.tape, hb.output, hb.size, fun i hi _ => hb.block i hi⟩
theorem QIn.belowN {B : Nat} {w w' : World} {a : Option Addr} {n c : Nat} {l : List O.Pl} (h : QIn w a n c l) (hB : w.heap.size ≤ B) (hb : Below B w w') : QIn w' a n c l := h.below (hb.mono hB)
theorem QIn.nil (w : World) : QIn w none 0 0 [] := ⟨rfl, ⟨Nat.le_refl _, by simp [maxLen]⟩, fun _ => ⟨rfl, rfl⟩, .inl rfl⟩
theorem QIn.at {w : World} {a : Option Addr} {n c i : Nat} {l : List O.Pl} (h : QIn w a n c l) (hi : i < n) :
    ∃ b off x, a = some ⟨b, off, none⟩ ∧ b < w.heap.size ∧ l[i]? = some x ∧ w.cell? ⟨b, off + i * 3, none⟩ = some (.int .i64 x.f) ∧ w.cell? ⟨b, off + i * 3 + 1, none⟩ = some (.int .i64 x.n) ∧ w.cell? ⟨b, off + i * 3 + 2, none⟩ = some (.int .i64 x.s) := by
  rcases h.2.2.2 with rfl | ⟨b, off, rfl, hb, hc⟩
  · have := h.1; simp at this; omega
  · have hx := List.getElem?_eq_getElem (show i < l.length by rw [h.1]; exact hi)
    exact ⟨b, off, _, rfl, hb, hx, (hc i _ hx).1, (hc i _ hx).2.1, (hc i _ hx).2.2⟩
theorem QIn.take {w : World} {a : Option Addr} {n c : Nat} {l : List O.Pl} (h : QIn w a n c l) (j : Nat) (hj : j ≤ n) : QIn w a j c (l.take j) := by
  refine ⟨by have := h.1; simp; omega, ⟨by have := h.2.1; omega, h.2.1.2⟩, fun ha => ?_, ?_⟩
  · have := h.2.2.1 ha; omega
  · rcases h.2.2.2 with rfl | ⟨b, off, rfl, hb, hc⟩
    · exact .inl (by simp)
    · refine .inr ⟨b, off, rfl, hb, fun i x hi => hc i x ?_⟩
      rw [List.getElem?_take] at hi
      split at hi
      · exact hi
      · cases hi
theorem own_pools {w : World} {B n : Nat} {v : Value} {l : List O.Pl} (h : w.ownsRow B 37 3 v n (O.flat l)) (hn : l.length = n) : ∃ a c, v = .slice a n c ∧ QIn w a n c l := by
  rcases h.2 with ⟨rfl, h0⟩ | ⟨g, cap, cur, rfl, _, hg, hle, hm, _⟩
  · obtain rfl : l = [] := List.eq_nil_of_length_eq_zero (by omega)
    exact ⟨none, 0, by rw [h0], by rw [h0]; exact QIn.nil w⟩
  · refine ⟨_, cap, rfl, hn, ⟨by omega, hm⟩, fun h => (by cases h), .inr ⟨g, 0, rfl, (Array.getElem?_eq_some_iff.1 hg).1, fun i x hi => ?_⟩⟩
    obtain ⟨f1, f2, f3⟩ := O.flat_at l i x hi
    have c1 := h.cells (g := g) rfl _ _ f1
    have c2 := h.cells (g := g) rfl _ _ f2
    have c3 := h.cells (g := g) rfl _ _ f3
    rw [WideShapes.add_plain] at c1 c2 c3
    exact ⟨c1, by rw [Nat.add_assoc]; exact c2, by rw [Nat.add_assoc]; exact c3⟩
theorem info_pool : (Try.prog.info? 37).map (fun i => (i.zero, i.size, i.bytes)) = some (some (.agg #[.int .i64 0, .int .i64 0, .int .i64 0]), 3, 24) := by kernel_rfl
namespace O
theorem below_none {w w' : World} (hb : Below w.heap.size w w') : w.grownBy w' none := ⟨hb.os, hb.tape, hb.output, hb.size, fun i hi _ => hb.block i hi⟩
theorem none_below {w w' : World} (hg : w.grownBy w' none) : Below w.heap.size w w' := ⟨hg.os, hg.tape, hg.output, hg.size, fun i hi => hg.block i hi (by simp)⟩
/-- The box of a pool. -/
def box (w : World) (x : Pl) : World := w.alloc (.cells #[.int .i64 x.f, .int .i64 x.n, .int .i64 x.s] 37)
theorem box_below (w : World) (x : Pl) : Below w.heap.size w (box w x) := (Below.refl _ w).alloc (Nat.le_refl _) _
theorem box_size (w : World) (x : Pl) : (box w x).heap.size = w.heap.size + 1 := by simp [box]
/-- A block that holds a pool. -/
def Bx (w : World) (b : Nat) (x : Pl) : Prop := Blok w b 37 #[.int .i64 x.f, .int .i64 x.n, .int .i64 x.s]
theorem box_is (w : World) (x : Pl) : Bx (box w x) w.heap.size x := Blok.new _ _ _
theorem Bx.b0 {V : World} {b : Nat} {x : Pl} (h : Bx V b x) : V.cell? ⟨b, 0, none⟩ = some (.int .i64 x.f) := Blok.cell h 0
theorem Bx.b1 {V : World} {b : Nat} {x : Pl} (h : Bx V b x) : V.cell? ⟨b, 1, none⟩ = some (.int .i64 x.n) := Blok.cell h 1
theorem Bx.b2 {V : World} {b : Nat} {x : Pl} (h : Bx V b x) : V.cell? ⟨b, 2, none⟩ = some (.int .i64 x.s) := Blok.cell h 2
theorem Bx.on {V V' : World} {b : Nat} {x : Pl} (h : Bx V b x) (hb : Below V.heap.size V V') : Bx V' b x := Blok.below h hb (Blok.lt h)
theorem Bx.lt {V : World} {b : Nat} {x : Pl} (h : Bx V b x) : b < V.heap.size := Blok.lt h
/-- The value of a pool. -/
def val (x : Pl) : Value := .agg #[.int .i64 x.f, .int .i64 x.n, .int .i64 x.s]
end O
end Go.Proofs.Ytejckbnapcdhpaa
