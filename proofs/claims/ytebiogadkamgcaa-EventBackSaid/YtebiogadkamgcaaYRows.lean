/-
  Slices of structs of single cells, whatever they are (VIn, for whatever record V.Rec); events.
-/
import Derived.Test.YtebiogadkamgcaaBlok
import Derived.Test.YtebiogadkamgcaaReg
import Derived.Test.YtebiogadkamgcaaYEv
import Derived.ArgAppend
import Derived.Laws.OwnMore
import Derived.Deep.AppendLies
import Derived.Deep.RegionLaw
namespace Go.Proofs.Ytebiogadkamgcaa
open Go.RowKit

/-- A struct of k single cells. -/
class V.Rec (α : Type) where
  k : Nat
  cells : α → List Value
  len : ∀ x, (cells x).length = k
  pos : 0 < k ∧ k ≤ 16
  one : ∀ x, ∀ u ∈ cells x, u.oneCell' = true
instance : V.Rec Y.Ev := ⟨9, fun x => [.int .i64 x.k, .int .i64 x.t, .int .i64 x.a, .int .i64 x.b, .int .i64 x.c, .int .i64 x.p.q, .int .i64 x.p.i, .int .i64 x.p.h, .bool x.p.pair], fun _ => rfl, by decide, fun x u hu => by
  simp only [List.mem_cons, List.not_mem_nil, or_false] at hu
  rcases hu with rfl | rfl | rfl | rfl | rfl | rfl | rfl | rfl | rfl <;> rfl⟩
def V.cells {α : Type} [V.Rec α] (x : α) : List Value := V.Rec.cells x
theorem V.cells_len {α : Type} [V.Rec α] (x : α) : (V.cells x).length = V.Rec.k α := V.Rec.len x
theorem V.cells_one {α : Type} [V.Rec α] (x : α) : ∀ u ∈ V.cells x, u.oneCell' = true := V.Rec.one x
def V.flat {α : Type} [V.Rec α] (l : List α) : List Value := l.flatMap V.cells
theorem V.flat_nil {α : Type} [V.Rec α] : V.flat ([] : List α) = [] := rfl
theorem V.flat_cons {α : Type} [V.Rec α] (x : α) (l : List α) : V.flat (x :: l) = V.cells x ++ V.flat l := rfl
theorem V.flat_append {α : Type} [V.Rec α] (l k : List α) : V.flat (l ++ k) = V.flat l ++ V.flat k := by simp [V.flat]
theorem V.flat_len {α : Type} [V.Rec α] (l : List α) : (V.flat l).length = l.length * V.Rec.k α := by
  induction l with
  | nil => simp [V.flat]
  | cons x l ih => rw [V.flat_cons, List.length_append, ih, V.cells_len, List.length_cons, Nat.add_mul]; omega
theorem V.flat_at {α : Type} [V.Rec α] : ∀ (l : List α) (i : Nat) (x : α), l[i]? = some x → ∀ j, j < V.Rec.k α → (V.flat l)[i * V.Rec.k α + j]? = (V.cells x)[j]?
  | [], _, _, h, _, _ => by simp at h
  | y :: l, 0, x, h, j, hj => by
    obtain rfl : y = x := by simpa using h
    rw [V.flat_cons, Nat.zero_mul, Nat.zero_add, List.getElem?_append_left (by rw [V.cells_len]; exact hj)]
  | y :: l, i + 1, x, h, j, hj => by
    have := V.flat_at l i x (by simpa using h) j hj
    rw [V.flat_cons, List.getElem?_append_right (by rw [V.cells_len, Nat.add_mul]; omega), V.cells_len, show (i + 1) * V.Rec.k α + j - V.Rec.k α = i * V.Rec.k α + j by rw [Nat.add_mul]; omega]
    exact this
theorem V.flat_one {α : Type} [V.Rec α] (l : List α) : ∀ u ∈ V.flat l, u.oneCell' = true := by
  intro u hu
  obtain ⟨t, _, ht⟩ := List.mem_flatMap.1 hu
  exact V.cells_one t u ht
theorem V.flat_some {α : Type} [V.Rec α] {l : List α} {j : Nat} {u : Value} (h : (V.flat l)[j]? = some u) : ∃ i x m, l[i]? = some x ∧ m < V.Rec.k α ∧ j = i * V.Rec.k α + m ∧ (V.cells x)[m]? = some u := by
  have hk := (V.Rec.pos (α := α)).1
  have hj : j < l.length * V.Rec.k α := by rw [← V.flat_len]; exact (List.getElem?_eq_some_iff.1 h).1
  have hi : j / V.Rec.k α < l.length := Nat.div_lt_of_lt_mul (by rw [Nat.mul_comm]; exact hj)
  have hm := Nat.mod_lt j hk
  have e : j = j / V.Rec.k α * V.Rec.k α + j % V.Rec.k α := by rw [Nat.mul_comm]; exact (Nat.div_add_mod j _).symm
  refine ⟨j / V.Rec.k α, _, j % V.Rec.k α, List.getElem?_eq_getElem hi, hm, e, ?_⟩
  rw [← V.flat_at l _ _ (List.getElem?_eq_getElem hi) _ hm, ← e]; exact h

/-- What a slice of structs reads as. -/
def VIn {α : Type} [V.Rec α] (w : World) (a : Option Addr) (n c : Nat) (l : List α) : Prop :=
  l.length = n ∧ (n ≤ c ∧ c ≤ maxLen) ∧ (a = none → n = 0 ∧ c = 0) ∧ (l = [] ∨ ∃ b off, a = some ⟨b, off, none⟩ ∧ b < w.heap.size ∧ ∀ i x, l[i]? = some x → ∀ j u, (V.cells x)[j]? = some u → w.cell? ⟨b, off + i * V.Rec.k α + j, none⟩ = some u)
theorem VIn.grown {α : Type} [V.Rec α] {w w' : World} {a : Option Addr} {n c : Nat} {l : List α} {row : Option Nat} (h : VIn w a n c l) (hg : w.grownBy w' row) (hr : ∀ x, a = some x → some x.block ≠ row) : VIn w' a n c l := by
  refine ⟨h.1, h.2.1, h.2.2.1, ?_⟩
  rcases h.2.2.2 with h0 | ⟨b, off, rfl, hlt, hc⟩
  · exact .inl h0
  · refine .inr ⟨b, off, rfl, Nat.lt_of_lt_of_le hlt hg.size, fun i x hi j u hj => ?_⟩
    have hb : ∀ o, w'.cell? ⟨b, o, none⟩ = w.cell? ⟨b, o, none⟩ := fun o => by unfold World.cell?; rw [hg.block b hlt (hr _ rfl)]
    rw [hb]; exact hc i x hi j u hj
theorem VIn.on {α : Type} [V.Rec α] {w w' : World} {a : Option Addr} {n c : Nat} {l : List α} (h : VIn w a n c l) (hg : w.grownBy w' none) : VIn w' a n c l := h.grown hg (by simp)
theorem VIn.below {α : Type} [V.Rec α] {w w' : World} {a : Option Addr} {n c : Nat} {l : List α} (h : VIn w a n c l) (hb : Below w.heap.size w w') : VIn w' a n c l :=
  h.on ⟨hb.os, hb.tape, hb.output, hb.size, fun i hi _ => hb.block i hi⟩
theorem VIn.belowN {α : Type} [V.Rec α] {B : Nat} {w w' : World} {a : Option Addr} {n c : Nat} {l : List α} (h : VIn w a n c l) (hB : w.heap.size ≤ B) (hb : Below B w w') : VIn w' a n c l := h.below (hb.mono hB)
theorem VIn.nil {α : Type} [V.Rec α] (w : World) : VIn w none 0 0 ([] : List α) := ⟨rfl, ⟨Nat.le_refl _, by simp [maxLen]⟩, fun _ => ⟨rfl, rfl⟩, .inl rfl⟩
theorem VIn.at {α : Type} [V.Rec α] {w : World} {a : Option Addr} {n c i : Nat} {l : List α} (h : VIn w a n c l) (hi : i < n) :
    ∃ b off x, a = some ⟨b, off, none⟩ ∧ b < w.heap.size ∧ l[i]? = some x ∧ ∀ j u, (V.cells x)[j]? = some u → w.cell? ⟨b, off + i * V.Rec.k α + j, none⟩ = some u := by
  rcases h.2.2.2 with rfl | ⟨b, off, rfl, hb, hc⟩
  · have := h.1; simp at this; omega
  · have hx := List.getElem?_eq_getElem (show i < l.length by rw [h.1]; exact hi)
    exact ⟨b, off, _, rfl, hb, hx, hc i _ hx⟩
theorem VIn.take {α : Type} [V.Rec α] {w : World} {a : Option Addr} {n c : Nat} {l : List α} (h : VIn w a n c l) (j : Nat) (hj : j ≤ n) : VIn w a j c (l.take j) := by
  refine ⟨by have := h.1; simp; omega, ⟨by have := h.2.1; omega, h.2.1.2⟩, fun ha => ?_, ?_⟩
  · have := h.2.2.1 ha; omega
  · rcases h.2.2.2 with rfl | ⟨b, off, rfl, hb, hc⟩
    · exact .inl (by simp)
    · refine .inr ⟨b, off, rfl, hb, fun i x hi => hc i x ?_⟩
      rw [List.getElem?_take] at hi
      split at hi
      · exact hi
      · cases hi
theorem own_vrec {α : Type} [V.Rec α] {w : World} {B n t : Nat} {v : Value} {l : List α} (h : w.ownsRow B t (V.Rec.k α) v n (V.flat l)) (hn : l.length = n) : ∃ a c, v = .slice a n c ∧ VIn w a n c l := by
  rcases h.2 with ⟨rfl, h0⟩ | ⟨g, cap, cur, rfl, _, hg, hle, hm, _⟩
  · obtain rfl : l = [] := List.eq_nil_of_length_eq_zero (by omega)
    exact ⟨none, 0, by rw [h0], by rw [h0]; exact VIn.nil w⟩
  · refine ⟨_, cap, rfl, hn, ⟨by omega, hm⟩, fun h => (by cases h), .inr ⟨g, 0, rfl, (Array.getElem?_eq_some_iff.1 hg).1, fun i x hi j u hj => ?_⟩⟩
    have hjk : j < V.Rec.k α := by rw [← V.cells_len x]; exact (List.getElem?_eq_some_iff.1 hj).1
    have c1 := h.cells (g := g) rfl _ _ ((V.flat_at l i x hi j hjk).trans hj)
    rw [WideShapes.add_plain] at c1
    rw [Nat.add_assoc]; exact c1
def Y.pval (p : Y.Po) : Value := .agg #[.int .i64 p.q, .int .i64 p.i, .int .i64 p.h, .bool p.pair]
namespace V
/-- A block that holds one. -/
def Bx {α : Type} [Rec α] (w : World) (b : Nat) (t : TypeId) (x : α) : Prop := Blok w b t (cells x).toArray
theorem cell_one {α : Type} [Rec α] {w : World} {nb : Nat} {t : TypeId} {x : α} (hb : Bx w nb t x) (j : Nat) (u : Value) (hj : (cells x)[j]? = some u) : w.cell? ((⟨nb, 0, none⟩ : Addr).add j) = some u := by
  rw [WideShapes.add_plain, Blok.cell hb, Nat.zero_add]
  simpa using hj
end V
theorem info_event : (Try.prog.info? 34).map (fun i => (i.zero, i.size, i.bytes)) = some (some (.agg #[.int .i64 0, .int .i64 0, .int .i64 0, .int .i64 0, .int .i64 0, .int .i64 0, .int .i64 0, .int .i64 0, .bool false]), 9, 72) := by kernel_rfl
theorem event_parts : ∃ i, Try.prog.info? 34 = some i ∧ i.zero = some (.agg #[.int .i64 0, .int .i64 0, .int .i64 0, .int .i64 0, .int .i64 0, .int .i64 0, .int .i64 0, .int .i64 0, .bool false]) ∧ i.size = 9 ∧ i.bytes = 72 := info_parts info_event
/-- append of one struct to a row of the call's own, in a plain region. -/
theorem wpList_appendV {α : Type} [V.Rec α] {w : World} {ops : Array Oper} {rest : List Oper} {o : Oper} {a : Act} {Q : Exit → Act → World → Prop} (hgd : o.guard = none) (s x : Operand) (ts t : TypeId)
    (ho : o.op = .call { callee := .builtin .append, args := #[s, x], argTypes := #[ts, ts] }) (z : Value) (by' : Nat) (hts : Try.prog.underlying ts = some (.slice t)) (hp : ∃ i, Try.prog.info? t = some i ∧ i.zero = some z ∧ i.size = V.Rec.k α ∧ i.bytes = by') (hz : z.cells.size = V.Rec.k α) (hby : 0 < by' ∧ by' ≤ 128)
    (B : Nat) (v : Value) (p : Nat) (l : List α) (tm : α) (hs : a.eval s = v) (hown : w.ownsRow B t (V.Rec.k α) v p (V.flat l)) (nb : Nat) (t' : TypeId) (hx : a.eval x = .slice (some ⟨nb, 0, none⟩) 1 1) (hb : V.Bx w nb t' tm) (hpn : p ≤ 10000) (hB : B ≤ w.heap.size)
    (h : ∀ g cap w', w'.ownsRow B t (V.Rec.k α) (.slice (some ⟨g, 0, none⟩) (p + 1) cap) (p + 1) (V.flat (l ++ [tm])) → w.grownBy w' v.ownBlock → (v.ownBlock = some g ∨ g = w.heap.size) → g < w'.heap.size → wpList Try.prog ops Q rest (a.put o.dst (.slice (some ⟨g, 0, none⟩) (p + 1) cap)) w') :
    wpList Try.prog ops Q (o :: rest) a w := by
  obtain ⟨i0, hi, hz0, hz1, hz2⟩ := hp
  have hk := (V.Rec.pos (α := α)).1
  exact wpList_append_lies w hgd s x ts ho B t i0 z (V.Rec.k α) by' hts hi hz0 hz1 hz2 hz (by omega) v p (V.flat l) hs hown ⟨nb, 0, none⟩ 1 1 (V.cells tm) hx (by rw [V.cells_len, Nat.one_mul]) (V.cell_one hb) (V.cells_one tm) (by decide) (by unfold maxLen; omega) (by have : (p + 1) * by' ≤ 10001 * 128 := Nat.mul_le_mul (by omega) hby.2; omega) hB w.heap.size rfl
    (fun g cap w' h1 h2 h3 h4 => h g cap w' (by rw [V.flat_append]; simpa [V.flat] using h1) h2 h3 h4)
/-- append, to a row of the call's own, of whatever slice of structs. -/
theorem wpList_appendVs {α : Type} [V.Rec α] {w : World} {ops : Array Oper} {rest : List Oper} {o : Oper} {a : Act} {Q : Exit → Act → World → Prop} (hgd : o.guard = none) (s x : Operand) (ts t : TypeId)
    (ho : o.op = .call { callee := .builtin .append, args := #[s, x], argTypes := #[ts, ts] }) (z : Value) (by' : Nat) (hts : Try.prog.underlying ts = some (.slice t)) (hp : ∃ i, Try.prog.info? t = some i ∧ i.zero = some z ∧ i.size = V.Rec.k α ∧ i.bytes = by') (hz : z.cells.size = V.Rec.k α) (hby : 0 < by' ∧ by' ≤ 128)
    (B : Nat) (v : Value) (n : Nat) (l : List α) (hs : a.eval s = v) (hown : w.ownsRow B t (V.Rec.k α) v n (V.flat l))
    (ad : Option Addr) (m c : Nat) (k : List α) (hx : a.eval x = .slice ad m c) (hd : VIn w ad m c k) (h63 : n + m ≤ 1000000) (hB : B ≤ w.heap.size)
    (h : ∀ v' w', w'.ownsRow B t (V.Rec.k α) v' (n + m) (V.flat (l ++ k)) → w.grownBy w' v.ownBlock → wpList Try.prog ops Q rest (a.put o.dst v') w') : wpList Try.prog ops Q (o :: rest) a w := by
  obtain ⟨i0, hi, hz0, hz1, hz2⟩ := hp
  have hkp := (V.Rec.pos (α := α)).1
  cases ad with
  | none =>
    obtain ⟨rfl, rfl⟩ := hd.2.2.1 rfl
    obtain rfl : k = [] := List.eq_nil_of_length_eq_zero hd.1
    exact wpList_append_own_none hgd s x ts ho B t i0 (V.Rec.k α) hts hi v n (V.flat l) hs hown hx (h v w (by simpa using hown) ⟨rfl, rfl, rfl, Nat.le_refl _, fun _ _ _ => rfl⟩)
  | some ad =>
    refine wpList_append_own w hgd s x ts ho B t i0 z (V.Rec.k α) by' hts hi hz0 hz1 hz2 hz (by omega) v n (V.flat l) hs hown ad m c (V.flat k) hx (by rw [V.flat_len, hd.1]) (fun j u hj => ?_) (V.flat_one k) (by unfold maxLen; omega) (by have : (n + m) * by' ≤ 1000000 * 128 := Nat.mul_le_mul h63 hby.2; omega) hB (fun v' w' h1 h2 _ => h v' w' (by rw [V.flat_append]; exact h1) h2)
    obtain ⟨i, y, q, hy, hq, rfl, hju⟩ := V.flat_some hj
    rcases hd.2.2.2 with rfl | ⟨b, off, he, _, hc⟩
    · simp at hy
    · cases he
      rw [WideShapes.add_plain, ← Nat.add_assoc]
      exact hc i y hy q u hju
end Go.Proofs.Ytebiogadkamgcaa
