/-
  Slices of structs of integers: what they read as, what they own (RIn, for whatever record L.Rec; leases, and what is of three integers).
-/
import Derived.Test.YtbnhaoimdponkaaBlok
import Derived.Test.YtbnhaoimdponkaaLMath
import Derived.Test.YtbnhaoimdponkaaReg
import Derived.ArgAppend
import Derived.Laws.OwnMore
import Derived.Deep.AppendLies
import Derived.Deep.RegionLaw
namespace Go.Proofs.Ytbnhaoimdponkaa
open Go.RowKit

/-- A struct of k integers. -/
class L.Rec (α : Type) where
  k : Nat
  enc : α → List Int
  len : ∀ x, (enc x).length = k
  pos : 0 < k
instance : L.Rec L.Ls := ⟨5, fun x => [x.s, x.a, x.b, x.f, x.t], fun _ => rfl, by decide⟩
instance : L.Rec L.T3 := ⟨3, fun x => [x.a, x.b, x.x], fun _ => rfl, by decide⟩
def L.cells {α : Type} [L.Rec α] (x : α) : List Value := (L.Rec.enc x).map (Value.int .i64)
def L.flat {α : Type} [L.Rec α] (l : List α) : List Value := l.flatMap L.cells
theorem L.cells_len {α : Type} [L.Rec α] (x : α) : (L.cells x).length = L.Rec.k α := by unfold L.cells; rw [List.length_map, L.Rec.len]
theorem L.flat_nil {α : Type} [L.Rec α] : L.flat ([] : List α) = [] := rfl
theorem L.flat_cons {α : Type} [L.Rec α] (x : α) (l : List α) : L.flat (x :: l) = L.cells x ++ L.flat l := rfl
theorem L.flat_append {α : Type} [L.Rec α] (l k : List α) : L.flat (l ++ k) = L.flat l ++ L.flat k := by simp [L.flat]
theorem L.flat_len {α : Type} [L.Rec α] (l : List α) : (L.flat l).length = l.length * L.Rec.k α := by
  induction l with
  | nil => simp [L.flat]
  | cons x l ih => rw [L.flat_cons, List.length_append, ih, L.cells_len, List.length_cons, Nat.add_mul]; omega
theorem L.flat_at {α : Type} [L.Rec α] : ∀ (l : List α) (i : Nat) (x : α), l[i]? = some x → ∀ j, j < L.Rec.k α → (L.flat l)[i * L.Rec.k α + j]? = (L.cells x)[j]?
  | [], _, _, h, _, _ => by simp at h
  | y :: l, 0, x, h, j, hj => by
    obtain rfl : y = x := by simpa using h
    rw [L.flat_cons, Nat.zero_mul, Nat.zero_add, List.getElem?_append_left (by rw [L.cells_len]; exact hj)]
  | y :: l, i + 1, x, h, j, hj => by
    have := L.flat_at l i x (by simpa using h) j hj
    rw [L.flat_cons, List.getElem?_append_right (by rw [L.cells_len, Nat.add_mul]; omega), L.cells_len, show (i + 1) * L.Rec.k α + j - L.Rec.k α = i * L.Rec.k α + j by rw [Nat.add_mul]; omega]
    exact this
theorem L.flat_one {α : Type} [L.Rec α] (l : List α) : ∀ u ∈ L.flat l, u.oneCell' = true := by
  intro u hu
  obtain ⟨t, _, ht⟩ := List.mem_flatMap.1 hu
  obtain ⟨n, _, rfl⟩ := List.mem_map.1 ht
  rfl
theorem L.cells_one {α : Type} [L.Rec α] (x : α) : ∀ u ∈ L.cells x, u.oneCell' = true := by
  intro u hu; obtain ⟨n, _, rfl⟩ := List.mem_map.1 hu; rfl
theorem L.flat_some {α : Type} [L.Rec α] {l : List α} {j : Nat} {u : Value} (h : (L.flat l)[j]? = some u) : ∃ i x m, l[i]? = some x ∧ m < L.Rec.k α ∧ j = i * L.Rec.k α + m ∧ (L.cells x)[m]? = some u := by
  have hk := L.Rec.pos (α := α)
  have hj : j < l.length * L.Rec.k α := by rw [← L.flat_len]; exact (List.getElem?_eq_some_iff.1 h).1
  have hi : j / L.Rec.k α < l.length := Nat.div_lt_of_lt_mul (by rw [Nat.mul_comm]; exact hj)
  have hm := Nat.mod_lt j hk
  have e : j = j / L.Rec.k α * L.Rec.k α + j % L.Rec.k α := by rw [Nat.mul_comm]; exact (Nat.div_add_mod j _).symm
  refine ⟨j / L.Rec.k α, _, j % L.Rec.k α, List.getElem?_eq_getElem hi, hm, e, ?_⟩
  rw [← L.flat_at l _ _ (List.getElem?_eq_getElem hi) _ hm, ← e]; exact h

/-- What a slice of structs reads as. -/
def RIn {α : Type} [L.Rec α] (w : World) (a : Option Addr) (n c : Nat) (l : List α) : Prop :=
  l.length = n ∧ (n ≤ c ∧ c ≤ maxLen) ∧ (a = none → n = 0 ∧ c = 0) ∧ (l = [] ∨ ∃ b off, a = some ⟨b, off, none⟩ ∧ b < w.heap.size ∧ ∀ i x, l[i]? = some x → ∀ j u, (L.cells x)[j]? = some u → w.cell? ⟨b, off + i * L.Rec.k α + j, none⟩ = some u)
theorem RIn.grown {α : Type} [L.Rec α] {w w' : World} {a : Option Addr} {n c : Nat} {l : List α} {row : Option Nat} (h : RIn w a n c l) (hg : w.grownBy w' row) (hr : ∀ x, a = some x → some x.block ≠ row) : RIn w' a n c l := by
  refine ⟨h.1, h.2.1, h.2.2.1, ?_⟩
  rcases h.2.2.2 with h0 | ⟨b, off, rfl, hlt, hc⟩
  · exact .inl h0
  · refine .inr ⟨b, off, rfl, Nat.lt_of_lt_of_le hlt hg.size, fun i x hi j u hj => ?_⟩
    have hb : ∀ o, w'.cell? ⟨b, o, none⟩ = w.cell? ⟨b, o, none⟩ := fun o => by unfold World.cell?; rw [hg.block b hlt (hr _ rfl)]
    rw [hb]; exact hc i x hi j u hj
theorem RIn.on {α : Type} [L.Rec α] {w w' : World} {a : Option Addr} {n c : Nat} {l : List α} (h : RIn w a n c l) (hg : w.grownBy w' none) : RIn w' a n c l := h.grown hg (by simp)
theorem RIn.below {α : Type} [L.Rec α] {w w' : World} {a : Option Addr} {n c : Nat} {l : List α} (h : RIn w a n c l) (hb : Below w.heap.size w w') : RIn w' a n c l :=
  h.on ⟨hb.os, hb.tape, hb.output, hb.size, fun i hi _ => hb.block i hi⟩
theorem RIn.belowN {α : Type} [L.Rec α] {B : Nat} {w w' : World} {a : Option Addr} {n c : Nat} {l : List α} (h : RIn w a n c l) (hB : w.heap.size ≤ B) (hb : Below B w w') : RIn w' a n c l := h.below (hb.mono hB)
theorem RIn.nil {α : Type} [L.Rec α] (w : World) : RIn w none 0 0 ([] : List α) := ⟨rfl, ⟨Nat.le_refl _, by simp [maxLen]⟩, fun _ => ⟨rfl, rfl⟩, .inl rfl⟩
theorem RIn.at {α : Type} [L.Rec α] {w : World} {a : Option Addr} {n c i : Nat} {l : List α} (h : RIn w a n c l) (hi : i < n) :
    ∃ b off x, a = some ⟨b, off, none⟩ ∧ b < w.heap.size ∧ l[i]? = some x ∧ ∀ j u, (L.cells x)[j]? = some u → w.cell? ⟨b, off + i * L.Rec.k α + j, none⟩ = some u := by
  rcases h.2.2.2 with rfl | ⟨b, off, rfl, hb, hc⟩
  · have := h.1; simp at this; omega
  · have hx := List.getElem?_eq_getElem (show i < l.length by rw [h.1]; exact hi)
    exact ⟨b, off, _, rfl, hb, hx, hc i _ hx⟩
theorem RIn.at5 {w : World} {a : Option Addr} {n c i : Nat} {l : List L.Ls} (h : RIn w a n c l) (hi : i < n) :
    ∃ b off x, a = some ⟨b, off, none⟩ ∧ b < w.heap.size ∧ l[i]? = some x ∧ w.cell? ⟨b, off + i * 5, none⟩ = some (.int .i64 x.s) ∧ w.cell? ⟨b, off + i * 5 + 1, none⟩ = some (.int .i64 x.a) ∧ w.cell? ⟨b, off + i * 5 + 2, none⟩ = some (.int .i64 x.b) ∧ w.cell? ⟨b, off + i * 5 + 3, none⟩ = some (.int .i64 x.f) ∧ w.cell? ⟨b, off + i * 5 + 4, none⟩ = some (.int .i64 x.t) := by
  obtain ⟨b, off, x, ha, hb, hx, hc⟩ := h.at hi
  exact ⟨b, off, x, ha, hb, hx, hc 0 _ rfl, hc 1 _ rfl, hc 2 _ rfl, hc 3 _ rfl, hc 4 _ rfl⟩
theorem RIn.at3 {w : World} {a : Option Addr} {n c i : Nat} {l : List L.T3} (h : RIn w a n c l) (hi : i < n) :
    ∃ b off x, a = some ⟨b, off, none⟩ ∧ b < w.heap.size ∧ l[i]? = some x ∧ w.cell? ⟨b, off + i * 3, none⟩ = some (.int .i64 x.a) ∧ w.cell? ⟨b, off + i * 3 + 1, none⟩ = some (.int .i64 x.b) ∧ w.cell? ⟨b, off + i * 3 + 2, none⟩ = some (.int .i64 x.x) := by
  obtain ⟨b, off, x, ha, hb, hx, hc⟩ := h.at hi
  exact ⟨b, off, x, ha, hb, hx, hc 0 _ rfl, hc 1 _ rfl, hc 2 _ rfl⟩
theorem RIn.take {α : Type} [L.Rec α] {w : World} {a : Option Addr} {n c : Nat} {l : List α} (h : RIn w a n c l) (j : Nat) (hj : j ≤ n) : RIn w a j c (l.take j) := by
  refine ⟨by have := h.1; simp; omega, ⟨by have := h.2.1; omega, h.2.1.2⟩, fun ha => ?_, ?_⟩
  · have := h.2.2.1 ha; omega
  · rcases h.2.2.2 with rfl | ⟨b, off, rfl, hb, hc⟩
    · exact .inl (by simp)
    · refine .inr ⟨b, off, rfl, hb, fun i x hi => hc i x ?_⟩
      rw [List.getElem?_take] at hi
      split at hi
      · exact hi
      · cases hi
theorem own_rec {α : Type} [L.Rec α] {w : World} {B n t : Nat} {v : Value} {l : List α} (h : w.ownsRow B t (L.Rec.k α) v n (L.flat l)) (hn : l.length = n) : ∃ a c, v = .slice a n c ∧ RIn w a n c l := by
  rcases h.2 with ⟨rfl, h0⟩ | ⟨g, cap, cur, rfl, _, hg, hle, hm, _⟩
  · obtain rfl : l = [] := List.eq_nil_of_length_eq_zero (by omega)
    exact ⟨none, 0, by rw [h0], by rw [h0]; exact RIn.nil w⟩
  · refine ⟨_, cap, rfl, hn, ⟨by omega, hm⟩, fun h => (by cases h), .inr ⟨g, 0, rfl, (Array.getElem?_eq_some_iff.1 hg).1, fun i x hi j u hj => ?_⟩⟩
    have hjk : j < L.Rec.k α := by rw [← L.cells_len x]; exact (List.getElem?_eq_some_iff.1 hj).1
    have c1 := h.cells (g := g) rfl _ _ ((L.flat_at l i x hi j hjk).trans hj)
    rw [WideShapes.add_plain] at c1
    rw [Nat.add_assoc]; exact c1
theorem own_ls {w : World} {B n t : Nat} {v : Value} {l : List L.Ls} (h : w.ownsRow B t 5 v n (L.flat l)) (hn : l.length = n) : ∃ a c, v = .slice a n c ∧ RIn w a n c l := own_rec h hn
theorem own_t3 {w : World} {B n t : Nat} {v : Value} {l : List L.T3} (h : w.ownsRow B t 3 v n (L.flat l)) (hn : l.length = n) : ∃ a c, v = .slice a n c ∧ RIn w a n c l := own_rec h hn
theorem L.flat_len5 (l : List L.Ls) : (L.flat l).length = l.length * 5 := L.flat_len l
theorem L.flat_len3 (l : List L.T3) : (L.flat l).length = l.length * 3 := L.flat_len l
theorem info_lease : (Try.prog.info? 30).map (fun i => (i.zero, i.size, i.bytes)) = some (some (.agg #[.int .i64 0, .int .i64 0, .int .i64 0, .int .i64 0, .int .i64 0]), 5, 40) := by kernel_rfl
theorem info_held : (Try.prog.info? 45).map (fun i => (i.zero, i.size, i.bytes)) = some (some (.agg #[.int .i64 0, .int .i64 0, .int .i64 0]), 3, 24) := by kernel_rfl
theorem info_had : (Try.prog.info? 66).map (fun i => (i.zero, i.size, i.bytes)) = some (some (.agg #[.int .i64 0, .int .i64 0, .int .i64 0]), 3, 24) := by kernel_rfl
theorem info_kept : (Try.prog.info? 80).map (fun i => (i.zero, i.size, i.bytes)) = some (some (.agg #[.int .i64 0, .int .i64 0, .int .i64 0]), 3, 24) := by kernel_rfl
theorem lease_parts : ∃ i, Try.prog.info? 30 = some i ∧ i.zero = some (.agg #[.int .i64 0, .int .i64 0, .int .i64 0, .int .i64 0, .int .i64 0]) ∧ i.size = 5 ∧ i.bytes = 40 := info_parts info_lease
theorem held_parts : ∃ i, Try.prog.info? 45 = some i ∧ i.zero = some (.agg #[.int .i64 0, .int .i64 0, .int .i64 0]) ∧ i.size = 3 ∧ i.bytes = 24 := info_parts info_held
theorem had_parts : ∃ i, Try.prog.info? 66 = some i ∧ i.zero = some (.agg #[.int .i64 0, .int .i64 0, .int .i64 0]) ∧ i.size = 3 ∧ i.bytes = 24 := info_parts info_had
theorem kept_parts : ∃ i, Try.prog.info? 80 = some i ∧ i.zero = some (.agg #[.int .i64 0, .int .i64 0, .int .i64 0]) ∧ i.size = 3 ∧ i.bytes = 24 := info_parts info_kept
theorem L.cells_len5 (x : L.Ls) : (L.cells x).length = 5 := rfl
theorem L.cells_len3 (x : L.T3) : (L.cells x).length = 3 := rfl
theorem grown_none {a b : World} {row : Option Nat} (h : a.grownBy b none) : a.grownBy b row := ⟨h.os, h.tape, h.output, h.size, fun i hi _ => h.block i hi (by simp)⟩
theorem grown_set (w : World) (b i : Nat) (u : Value) : w.grownBy (w.setCell ⟨b, i, none⟩ u) (some b) :=
  ⟨rfl, rfl, rfl, by simp, fun k _ hk => Below.heap_setCell w ⟨b, i, none⟩ u k (fun e => hk (by simp [e]))⟩
namespace L
theorem below_none {w w' : World} (hb : Below w.heap.size w w') : w.grownBy w' none := ⟨hb.os, hb.tape, hb.output, hb.size, fun i hi _ => hb.block i hi⟩
theorem none_below {w w' : World} (hg : w.grownBy w' none) : Below w.heap.size w w' := ⟨hg.os, hg.tape, hg.output, hg.size, fun i hi => hg.block i hi (by simp)⟩
/-- The value of a lease; of what is of three integers. -/
def val (x : Ls) : Value := .agg #[.int .i64 x.s, .int .i64 x.a, .int .i64 x.b, .int .i64 x.f, .int .i64 x.t]
def val3 (x : T3) : Value := .agg #[.int .i64 x.a, .int .i64 x.b, .int .i64 x.x]
/-- A block that holds one. -/
def Bx {α : Type} [Rec α] (w : World) (b : Nat) (t : TypeId) (x : α) : Prop := Blok w b t (cells x).toArray
theorem cell_one {α : Type} [Rec α] {w : World} {nb : Nat} {t : TypeId} {x : α} (hb : Bx w nb t x) (j : Nat) (u : Value) (hj : (cells x)[j]? = some u) : w.cell? ((⟨nb, 0, none⟩ : Addr).add j) = some u := by
  rw [WideShapes.add_plain, Blok.cell hb, Nat.zero_add]
  simpa using hj
theorem own_nil {w : World} {g B t k : Nat} (h : Blok w g t #[]) (hB : B ≤ g) : w.ownsRow B t k (.slice (some ⟨g, 0, none⟩) 0 0) 0 [] :=
  ⟨by simp, .inr ⟨g, 0, #[], rfl, hB, h, Nat.le_refl _, by simp [maxLen], by simp, by simp⟩⟩
end L
/-- append of one struct to a row of the call's own, in a plain region. -/
theorem wpList_appendR {α : Type} [L.Rec α] {w : World} {ops : Array Oper} {rest : List Oper} {o : Oper} {a : Act} {Q : Exit → Act → World → Prop} (hgd : o.guard = none) (s x : Operand) (ts t : TypeId)
    (ho : o.op = .call { callee := .builtin .append, args := #[s, x], argTypes := #[ts, ts] }) (z : Value) (by' : Nat) (hts : Try.prog.underlying ts = some (.slice t)) (hp : ∃ i, Try.prog.info? t = some i ∧ i.zero = some z ∧ i.size = L.Rec.k α ∧ i.bytes = by') (hz : z.cells.size = L.Rec.k α) (hby : 0 < by' ∧ by' ≤ 40)
    (B : Nat) (v : Value) (p : Nat) (l : List α) (tm : α) (hs : a.eval s = v) (hown : w.ownsRow B t (L.Rec.k α) v p (L.flat l)) (nb : Nat) (t' : TypeId) (hx : a.eval x = .slice (some ⟨nb, 0, none⟩) 1 1) (hb : L.Bx w nb t' tm) (hpn : p ≤ 10000) (hB : B ≤ w.heap.size)
    (h : ∀ g cap w', w'.ownsRow B t (L.Rec.k α) (.slice (some ⟨g, 0, none⟩) (p + 1) cap) (p + 1) (L.flat (l ++ [tm])) → w.grownBy w' v.ownBlock → (v.ownBlock = some g ∨ g = w.heap.size) → g < w'.heap.size → wpList Try.prog ops Q rest (a.put o.dst (.slice (some ⟨g, 0, none⟩) (p + 1) cap)) w') :
    wpList Try.prog ops Q (o :: rest) a w := by
  obtain ⟨i0, hi, hz0, hz1, hz2⟩ := hp
  have hk := L.Rec.pos (α := α)
  exact wpList_append_lies w hgd s x ts ho B t i0 z (L.Rec.k α) by' hts hi hz0 hz1 hz2 hz (by omega) v p (L.flat l) hs hown ⟨nb, 0, none⟩ 1 1 (L.cells tm) hx (by rw [L.cells_len, Nat.one_mul]) (L.cell_one hb) (L.cells_one tm) (by decide) (by unfold maxLen; omega) (by have : (p + 1) * by' ≤ 10001 * 40 := Nat.mul_le_mul (by omega) hby.2; omega) hB w.heap.size rfl
    (fun g cap w' h1 h2 h3 h4 => h g cap w' (by rw [L.flat_append]; simpa [L.flat] using h1) h2 h3 h4)
/-- append, to a row of the call's own, of whatever slice of structs. -/
theorem wpList_appendRs {α : Type} [L.Rec α] {w : World} {ops : Array Oper} {rest : List Oper} {o : Oper} {a : Act} {Q : Exit → Act → World → Prop} (hgd : o.guard = none) (s x : Operand) (ts t : TypeId)
    (ho : o.op = .call { callee := .builtin .append, args := #[s, x], argTypes := #[ts, ts] }) (z : Value) (by' : Nat) (hts : Try.prog.underlying ts = some (.slice t)) (hp : ∃ i, Try.prog.info? t = some i ∧ i.zero = some z ∧ i.size = L.Rec.k α ∧ i.bytes = by') (hz : z.cells.size = L.Rec.k α) (hby : 0 < by' ∧ by' ≤ 40)
    (B : Nat) (v : Value) (n : Nat) (l : List α) (hs : a.eval s = v) (hown : w.ownsRow B t (L.Rec.k α) v n (L.flat l))
    (ad : Option Addr) (m c : Nat) (k : List α) (hx : a.eval x = .slice ad m c) (hd : RIn w ad m c k) (h63 : n + m ≤ 1000000) (hB : B ≤ w.heap.size)
    (h : ∀ v' w', w'.ownsRow B t (L.Rec.k α) v' (n + m) (L.flat (l ++ k)) → w.grownBy w' v.ownBlock → wpList Try.prog ops Q rest (a.put o.dst v') w') : wpList Try.prog ops Q (o :: rest) a w := by
  obtain ⟨i0, hi, hz0, hz1, hz2⟩ := hp
  have hkp := L.Rec.pos (α := α)
  cases ad with
  | none =>
    obtain ⟨rfl, rfl⟩ := hd.2.2.1 rfl
    obtain rfl : k = [] := List.eq_nil_of_length_eq_zero hd.1
    exact wpList_append_own_none hgd s x ts ho B t i0 (L.Rec.k α) hts hi v n (L.flat l) hs hown hx (h v w (by simpa using hown) ⟨rfl, rfl, rfl, Nat.le_refl _, fun _ _ _ => rfl⟩)
  | some ad =>
    refine wpList_append_own w hgd s x ts ho B t i0 z (L.Rec.k α) by' hts hi hz0 hz1 hz2 hz (by omega) v n (L.flat l) hs hown ad m c (L.flat k) hx (by rw [L.flat_len, hd.1]) (fun j u hj => ?_) (L.flat_one k) (by unfold maxLen; omega) (by have : (n + m) * by' ≤ 1000000 * 40 := Nat.mul_le_mul h63 hby.2; omega) hB (fun v' w' h1 h2 _ => h v' w' (by rw [L.flat_append]; exact h1) h2)
    obtain ⟨i, y, q, hy, hq, rfl, hju⟩ := L.flat_some hj
    rcases hd.2.2.2 with rfl | ⟨b, off, he, _, hc⟩
    · simp at hy
    · cases he
      rw [WideShapes.add_plain, ← Nat.add_assoc]
      exact hc i y hy q u hju
end Go.Proofs.Ytbnhaoimdponkaa
