import Derived.Test.YtonejangijkdmaaGreatYA
import Derived.Lib.QuietBelow
import Derived.BigQuiet
import Derived.WalkLawsBesides
import Derived.Deep.RegionWith
import Derived.WalkMore
namespace Go.Proofs.YtonejangijkdmaaGreat
set_option maxHeartbeats 400000
open Go.RowKit
class V.Rec (α : Type) where
 k : Nat
 cells : α -> List Value
 len : ∀ x, (cells x).length = k
 pos : 0 < k /\ k <= 16
 one : ∀ x, ∀ u ∈ cells x, u.oneCell' = true
instance : V.Rec Y.Ev := ⟨9, fun x => [.int .i64 x.k, .int .i64 x.t, .int .i64 x.a, .int .i64 x.b, .int .i64 x.c, .int .i64 x.p.q, .int .i64 x.p.i, .int .i64 x.p.h, .bool x.p.pair], fun _ => rfl, by decide, fun x u hu => by
 simp only [List.mem_cons, List.not_mem_nil, or_false] at hu
 rcases hu with rfl | rfl | rfl | rfl | rfl | rfl | rfl | rfl | rfl <;> rfl⟩
def V.cells {α : Type} [V.Rec α] (x : α) : List Value := V.Rec.cells x
theorem V.cells_len {α : Type} [V.Rec α] (x : α) : (V.cells x).length = V.Rec.k α := V.Rec.len x
theorem V.cells_one {α : Type} [V.Rec α] (x : α) : ∀ u ∈ V.cells x, u.oneCell' = true := V.Rec.one x
def V.flat {α : Type} [V.Rec α] (l : List α) : List Value := l.flatMap V.cells
theorem V.flat_cons {α : Type} [V.Rec α] (x : α) (l : List α) : V.flat (x :: l) = V.cells x ++ V.flat l := rfl
theorem V.flat_append {α : Type} [V.Rec α] (l k : List α) : V.flat (l ++ k) = V.flat l ++ V.flat k := by simp [V.flat]
theorem V.flat_len {α : Type} [V.Rec α] (l : List α) : (V.flat l).length = l.length * V.Rec.k α := by
 induction l with
 | nil => simp [V.flat]
 | cons x l ih => rw [V.flat_cons, List.length_append, ih, V.cells_len, List.length_cons, Nat.add_mul]; omega
theorem V.flat_at {α : Type} [V.Rec α] : ∀ (l : List α) (i : Nat) (x : α), l[i]? = some x -> ∀ j, j < V.Rec.k α -> (V.flat l)[i * V.Rec.k α + j]? = (V.cells x)[j]?
 | [], _, _, h, _, _ => by simp at h
 | y :: l, 0, x, h, j, hj => by
  obtain rfl : y = x := by simpa using h
  rw [V.flat_cons, Nat.zero_mul, Nat.zero_add, List.getElem?_append_left (by rw [V.cells_len]; exact hj)]
 | y :: l, i + 1, x, h, j, hj => by
  have := V.flat_at l i x (by simpa using h) j hj
  rw [V.flat_cons, List.getElem?_append_right (by rw [V.cells_len, Nat.add_mul]; omega), V.cells_len, show (i + 1) * V.Rec.k α + j - V.Rec.k α = i * V.Rec.k α + j by rw [Nat.add_mul]; omega]
  exact this
theorem V.flat_one {α : Type} [V.Rec α] (l : List α) : ∀ u ∈ V.flat l, u.oneCell' = true := by
 intro u hu
 obtain ⟨t, _, ht⟩ := List.mem_flatMap.1 hu
 exact V.cells_one t u ht
theorem V.flat_some {α : Type} [V.Rec α] {l : List α} {j : Nat} {u : Value} (h : (V.flat l)[j]? = some u) : ∃ i x m, l[i]? = some x /\ m < V.Rec.k α /\ j = i * V.Rec.k α + m /\ (V.cells x)[m]? = some u := by
 have hk := (V.Rec.pos (α := α)).1
 have hj : j < l.length * V.Rec.k α := by rw [<- V.flat_len]; exact (List.getElem?_eq_some_iff.1 h).1
 have hi : j / V.Rec.k α < l.length := Nat.div_lt_of_lt_mul (by rw [Nat.mul_comm]; exact hj)
 have hm := Nat.mod_lt j hk
 have e : j = j / V.Rec.k α * V.Rec.k α + j % V.Rec.k α := by rw [Nat.mul_comm]; exact (Nat.div_add_mod j _).symm
 refine ⟨j / V.Rec.k α, _, j % V.Rec.k α, List.getElem?_eq_getElem hi, hm, e, ?_⟩
 rw [<- V.flat_at l _ _ (List.getElem?_eq_getElem hi) _ hm, <- e]; exact h
def VIn {α : Type} [V.Rec α] (w : World) (a : Option Addr) (n c : Nat) (l : List α) : Prop :=
 l.length = n /\ (n <= c /\ c <= maxLen) /\ (a = none -> n = 0 /\ c = 0) /\ (l = [] \/ ∃ b off, a = some ⟨b, off, none⟩ /\ b < w.heap.size /\ ∀ i x, l[i]? = some x -> ∀ j u, (V.cells x)[j]? = some u -> w.cell? ⟨b, off + i * V.Rec.k α + j, none⟩ = some u)
theorem VIn.grown {α : Type} [V.Rec α] {w w' : World} {a : Option Addr} {n c : Nat} {l : List α} {row : Option Nat} (h : VIn w a n c l) (hg : w.grownBy w' row) (hr : ∀ x, a = some x -> some x.block ≠ row) : VIn w' a n c l := by
 refine ⟨h.1, h.2.1, h.2.2.1, ?_⟩
 rcases h.2.2.2 with h0 | ⟨b, off, rfl, hlt, hc⟩
 ·exact .inl h0
 ·refine .inr ⟨b, off, rfl, Nat.lt_of_lt_of_le hlt hg.size, fun i x hi j u hj => ?_⟩
  have hb : ∀ o, w'.cell? ⟨b, o, none⟩ = w.cell? ⟨b, o, none⟩ := fun o => by unfold World.cell?; rw [hg.block b hlt (hr _ rfl)]
  rw [hb]; exact hc i x hi j u hj
theorem VIn.on {α : Type} [V.Rec α] {w w' : World} {a : Option Addr} {n c : Nat} {l : List α} (h : VIn w a n c l) (hg : w.grownBy w' none) : VIn w' a n c l := h.grown hg (by simp)
theorem VIn.below {α : Type} [V.Rec α] {w w' : World} {a : Option Addr} {n c : Nat} {l : List α} (h : VIn w a n c l) (hb : Below w.heap.size w w') : VIn w' a n c l :=
 h.on ⟨hb.os, hb.tape, hb.output, hb.size, fun i hi _ => hb.block i hi⟩
theorem VIn.nil {α : Type} [V.Rec α] (w : World) : VIn w none 0 0 ([] : List α) := ⟨rfl, ⟨Nat.le_refl _, by simp [maxLen]⟩, fun _ => ⟨rfl, rfl⟩, .inl rfl⟩
theorem VIn.at {α : Type} [V.Rec α] {w : World} {a : Option Addr} {n c i : Nat} {l : List α} (h : VIn w a n c l) (hi : i < n) :
  ∃ b off x, a = some ⟨b, off, none⟩ /\ b < w.heap.size /\ l[i]? = some x /\ ∀ j u, (V.cells x)[j]? = some u -> w.cell? ⟨b, off + i * V.Rec.k α + j, none⟩ = some u := by
 rcases h.2.2.2 with rfl | ⟨b, off, rfl, hb, hc⟩
 ·have := h.1; simp at this; omega
 ·have hx := List.getElem?_eq_getElem (show i < l.length by rw [h.1]; exact hi)
  exact ⟨b, off, _, rfl, hb, hx, hc i _ hx⟩
theorem ze3 {α : Type} [V.Rec α] {w : World} {B n t : Nat} {v : Value} {l : List α} (h : w.ownsRow B t (V.Rec.k α) v n (V.flat l)) (hn : l.length = n) : ∃ a c, v = .slice a n c /\ VIn w a n c l := by
 rcases h.2 with ⟨rfl, h0⟩ | ⟨g, cap, cur, rfl, _, hg, hle, hm, _⟩
 ·obtain rfl : l = [] := List.eq_nil_of_length_eq_zero (by omega)
  exact ⟨none, 0, by rw [h0], by rw [h0]; exact VIn.nil w⟩
 ·refine ⟨_, cap, rfl, hn, ⟨by omega, hm⟩, fun h => (by cases h), .inr ⟨g, 0, rfl, (Array.getElem?_eq_some_iff.1 hg).1, fun i x hi j u hj => ?_⟩⟩
  have hjk : j < V.Rec.k α := by rw [<- V.cells_len x]; exact (List.getElem?_eq_some_iff.1 hj).1
  have c1 := h.cells (g := g) rfl _ _ ((V.flat_at l i x hi j hjk).trans hj)
  rw [WideShapes.add_plain] at c1
  rw [Nat.add_assoc]; exact c1
namespace V
def Bx {α : Type} [Rec α] (w : World) (b : Nat) (t : TypeId) (x : α) : Prop := Blok w b t (cells x).toArray
theorem cell_one {α : Type} [Rec α] {w : World} {nb : Nat} {t : TypeId} {x : α} (hb : Bx w nb t x) (j : Nat) (u : Value) (hj : (cells x)[j]? = some u) : w.cell? ((⟨nb, 0, none⟩ : Addr).add j) = some u := by
 rw [WideShapes.add_plain, Blok.cell hb, Nat.zero_add]
 simpa using hj
end V
theorem zhl : (Tryz.prog.info? 66).map (fun i => (i.zero, i.size, i.bytes)) = some (some (.agg #[.int .i64 0, .int .i64 0, .int .i64 0, .int .i64 0, .int .i64 0, .int .i64 0, .int .i64 0, .int .i64 0, .bool false]), 9, 72) := by kernel_rfl
theorem zcj : ∃ i, Tryz.prog.info? 66 = some i /\ i.zero = some (.agg #[.int .i64 0, .int .i64 0, .int .i64 0, .int .i64 0, .int .i64 0, .int .i64 0, .int .i64 0, .int .i64 0, .bool false]) /\ i.size = 9 /\ i.bytes = 72 := info_parts zhl
theorem zb8 {α : Type} [V.Rec α] {w : World} {ops : Array Oper} {rest : List Oper} {o : Oper} {a : Act} {Q : Exit -> Act -> World -> Prop} (hgd : o.guard = none) (s x : Operand) (ts t : TypeId)
  (ho : o.op = .call { callee := .builtin .append, args := #[s, x], argTypes := #[ts, ts] }) (z : Value) (by' : Nat) (hts : Tryz.prog.underlying ts = some (.slice t)) (hp : ∃ i, Tryz.prog.info? t = some i /\ i.zero = some z /\ i.size = V.Rec.k α /\ i.bytes = by') (hz : z.cells.size = V.Rec.k α) (hby : 0 < by' /\ by' <= 128)
  (B : Nat) (v : Value) (n : Nat) (l : List α) (hs : a.eval s = v) (hown : w.ownsRow B t (V.Rec.k α) v n (V.flat l))
  (ad : Option Addr) (m c : Nat) (k : List α) (hx : a.eval x = .slice ad m c) (hd : VIn w ad m c k) (h63 : n + m <= 1000000) (hB : B <= w.heap.size)
  (h : ∀ v' w', w'.ownsRow B t (V.Rec.k α) v' (n + m) (V.flat (l ++ k)) -> w.grownBy w' v.ownBlock -> wpList Tryz.prog ops Q rest (a.put o.dst v') w') : wpList Tryz.prog ops Q (o :: rest) a w := by
 obtain ⟨i0, hi, hz0, hz1, hz2⟩ := hp
 have hkp := (V.Rec.pos (α := α)).1
 cases ad with
 | none =>
  obtain ⟨rfl, rfl⟩ := hd.2.2.1 rfl
  obtain rfl : k = [] := List.eq_nil_of_length_eq_zero hd.1
  exact wpList_append_own_none hgd s x ts ho B t i0 (V.Rec.k α) hts hi v n (V.flat l) hs hown hx (h v w (by simpa using hown) ⟨rfl, rfl, rfl, Nat.le_refl _, fun _ _ _ => rfl⟩)
 | some ad =>
  refine wpList_append_own w hgd s x ts ho B t i0 z (V.Rec.k α) by' hts hi hz0 hz1 hz2 hz (by omega) v n (V.flat l) hs hown ad m c (V.flat k) hx (by rw [V.flat_len, hd.1]) (fun j u hj => ?_) (V.flat_one k) (by unfold maxLen; omega) (by have : (n + m) * by' <= 1000000 * 128 := Nat.mul_le_mul h63 hby.2; omega) hB (fun v' w' h1 h2 _ => h v' w' (by rw [V.flat_append]; exact h1) h2)
  obtain ⟨i, y, q, hy, hq, rfl, hju⟩ := V.flat_some hj
  rcases hd.2.2.2 with rfl | ⟨b, off, he, _, hc⟩
  ·simp at hy
  ·cases he
   rw [WideShapes.add_plain, <- Nat.add_assoc]
   exact hc i y hy q u hju
open Go.RowKit
namespace Y
structure A9 where
 ap : Option Addr
 np : Nat
 cp : Nat
 al : Option Addr
 nl : Nat
 cl : Nat
 ah : Option Addr
 nh : Nat
 ch : Nat
structure SIn (w : World) (A : A9) (s : St) : Prop where
 p : QIn w A.ap A.np A.cp s.ps
 l : RIn w A.al A.nl A.cl s.l
 h : RIn w A.ah A.nh A.ch s.h
theorem SIn.below {w w' : World} {A : A9} {s : St} (h : SIn w A s) (hb : Below w.heap.size w w') : SIn w' A s := ⟨h.p.below hb, h.l.below hb, h.h.below hb⟩
structure Fits (A : A9) (s : St) : Prop where
 p : A.np <= 600
 l : A.nl <= 600
 h : A.nh <= 600
 sm : O.Sm s.ps
 b : s.d.b <= 9223372036854775807
 c : s.d.c <= 9223372036854775807
def val (s : St) (A : A9) : Value := .agg #[.int .i64 s.d.b, .int .i64 s.d.k, .int .i64 s.d.c, .int .i64 s.d.j, .int .i64 s.d.lo, .int .i64 s.d.hi, .int .i64 s.d.dy, .int .i64 s.d.bl, .int .i64 s.p.q, .int .i64 s.p.i, .int .i64 s.p.h, .bool s.p.pair, .int .i64 s.now, .slice A.ap A.np A.cp, .slice A.al A.nl A.cl, .slice A.ah A.nh A.ch]
def ws (s : St) (A : A9) (ve : Value) (E x y : Int) : List Value := [.int .i64 s.d.b, .int .i64 s.d.k, .int .i64 s.d.c, .int .i64 s.d.j, .int .i64 s.d.lo, .int .i64 s.d.hi, .int .i64 s.d.dy, .int .i64 s.d.bl, .int .i64 s.p.q, .int .i64 s.p.i, .int .i64 s.p.h, .bool s.p.pair, .int .i64 s.now, .slice A.ap A.np A.cp, .slice A.al A.nl A.cl, .slice A.ah A.nh A.ch, ve, .int .i64 E, .int .i64 x, .int .i64 y]
def pval (p : Po) : Value := .agg #[.int .i64 p.q, .int .i64 p.i, .int .i64 p.h, .bool p.pair]
def rval (r : Rq) : Value := .agg #[.int .i64 r.k, .int .i64 r.s, .int .i64 r.a, .int .i64 r.b, .int .i64 r.n, .int .i64 r.p.q, .int .i64 r.p.i, .int .i64 r.p.h, .bool r.p.pair]
def eval (e : Ev) : Value := .agg #[.int .i64 e.k, .int .i64 e.t, .int .i64 e.a, .int .i64 e.b, .int .i64 e.c, .int .i64 e.p.q, .int .i64 e.p.i, .int .i64 e.p.h, .bool e.p.pair]
def rs (r : Rq) : List Value := [.int .i64 r.k, .int .i64 r.s, .int .i64 r.a, .int .i64 r.b, .int .i64 r.n, .int .i64 r.p.q, .int .i64 r.p.i, .int .i64 r.p.h, .bool r.p.pair]
theorem cells_w {w : World} {g : Nat} {t : TypeId} {s : St} {A : A9} {ve : Value} {E x y : Int} (K : Blok w g t (ws s A ve E x y).toArray) :
  w.cell? ⟨g, 0, none⟩ = some (.int .i64 s.d.b) /\ w.cell? ⟨g, 1, none⟩ = some (.int .i64 s.d.k) /\ w.cell? ⟨g, 2, none⟩ = some (.int .i64 s.d.c) /\ w.cell? ⟨g, 3, none⟩ = some (.int .i64 s.d.j) /\ w.cell? ⟨g, 4, none⟩ = some (.int .i64 s.d.lo) /\ w.cell? ⟨g, 5, none⟩ = some (.int .i64 s.d.hi) /\ w.cell? ⟨g, 6, none⟩ = some (.int .i64 s.d.dy) /\ w.cell? ⟨g, 7, none⟩ = some (.int .i64 s.d.bl) /\ w.cell? ⟨g, 8, none⟩ = some (.int .i64 s.p.q) /\ w.cell? ⟨g, 9, none⟩ = some (.int .i64 s.p.i) /\ w.cell? ⟨g, 10, none⟩ = some (.int .i64 s.p.h) /\ w.cell? ⟨g, 11, none⟩ = some (.bool s.p.pair) /\ w.cell? ⟨g, 12, none⟩ = some (.int .i64 s.now) /\ w.cell? ⟨g, 13, none⟩ = some (.slice A.ap A.np A.cp) /\ w.cell? ⟨g, 14, none⟩ = some (.slice A.al A.nl A.cl) /\ w.cell? ⟨g, 15, none⟩ = some (.slice A.ah A.nh A.ch) /\ w.cell? ⟨g, 16, none⟩ = some (ve) /\ w.cell? ⟨g, 17, none⟩ = some (.int .i64 E) /\ w.cell? ⟨g, 18, none⟩ = some (.int .i64 x) /\ w.cell? ⟨g, 19, none⟩ = some (.int .i64 y) := ⟨K.cell 0, K.cell 1, K.cell 2, K.cell 3, K.cell 4, K.cell 5, K.cell 6, K.cell 7, K.cell 8, K.cell 9, K.cell 10, K.cell 11, K.cell 12, K.cell 13, K.cell 14, K.cell 15, K.cell 16, K.cell 17, K.cell 18, K.cell 19⟩
variable {w : World} {g : Nat} {t : TypeId} {s : St} {A : A9} {ve : Value} {E x y : Int}
theorem set_p (K : Blok w g t (ws s A ve E x y).toArray) (a : Option Addr) (n c : Nat) (l : List O.Pl) : Blok (w.setCell ⟨g, 13, none⟩ (.slice a n c)) g t (ws { s with ps := l } { A with ap := a, np := n, cp := c } ve E x y).toArray := by
 have := K.set 13 (.slice a n c); simpa [ws] using this
theorem set_l (K : Blok w g t (ws s A ve E x y).toArray) (a : Option Addr) (n c : Nat) (l : List L.Ls) : Blok (w.setCell ⟨g, 14, none⟩ (.slice a n c)) g t (ws { s with l := l } { A with al := a, nl := n, cl := c } ve E x y).toArray := by
 have := K.set 14 (.slice a n c); simpa [ws] using this
theorem set_h (K : Blok w g t (ws s A ve E x y).toArray) (a : Option Addr) (n c : Nat) (l : List L.T3) : Blok (w.setCell ⟨g, 15, none⟩ (.slice a n c)) g t (ws { s with h := l } { A with ah := a, nh := n, ch := c } ve E x y).toArray := by
 have := K.set 15 (.slice a n c); simpa [ws] using this
theorem set_e (K : Blok w g t (ws s A ve E x y).toArray) (v : Value) : Blok (w.setCell ⟨g, 16, none⟩ v) g t (ws s A v E x y).toArray := by
 have := K.set 16 v; simpa [ws] using this
theorem set_x (K : Blok w g t (ws s A ve E x y).toArray) (a : Int) : Blok (w.setCell ⟨g, 18, none⟩ (.int .i64 a)) g t (ws s A ve E a y).toArray := by
 have := K.set 18 (.int .i64 a); simpa [ws] using this
theorem set_y (K : Blok w g t (ws s A ve E x y).toArray) (a : Int) : Blok (w.setCell ⟨g, 19, none⟩ (.int .i64 a)) g t (ws s A ve E x a).toArray := by
 have := K.set 19 (.int .i64 a); simpa [ws] using this
theorem set_now (K : Blok w g t (ws s A ve E x y).toArray) (a : Int) : Blok (w.setCell ⟨g, 12, none⟩ (.int .i64 a)) g t (ws { s with now := a } A ve E x y).toArray := by
 have := K.set 12 (.int .i64 a); simpa [ws] using this
theorem set_po (K : Blok w g t (ws s A ve E x y).toArray) (p : Po) : Blok ((((w.setCell ⟨g, 8, none⟩ (.int .i64 p.q)).setCell ⟨g, 9, none⟩ (.int .i64 p.i)).setCell ⟨g, 10, none⟩ (.int .i64 p.h)).setCell ⟨g, 11, none⟩ (.bool p.pair)) g t (ws { s with p := p } A ve E x y).toArray := by
 have := (((K.set 8 (.int .i64 p.q)).set 9 (.int .i64 p.i)).set 10 (.int .i64 p.h)).set 11 (.bool p.pair); simpa [ws] using this
def Off (g : Nat) (a : Option Addr) : Prop := ∀ x, a = some x -> x.block ≠ g
theorem off_row {α : Type} [L.Rec α] {w' : World} {a : Option Addr} {n c : Nat} {l : List α} {g : Nat} (h : RIn w a n c l) (ho : Off g a) (hg : w.grownBy w' (some g)) : RIn w' a n c l :=
 h.grown hg (fun x hx e => ho x hx (Option.some.inj e))
theorem off_pool {w' : World} {a : Option Addr} {n c : Nat} {l : List O.Pl} {g : Nat} (h : QIn w a n c l) (ho : Off g a) (hg : w.grownBy w' (some g)) : QIn w' a n c l :=
 h.grown hg (fun x hx e => ho x hx (Option.some.inj e))
theorem off_own {k n B : Nat} {tt : TypeId} {a : Option Addr} {m c : Nat} {xs : List Value} (h : w.ownsRow B tt k (.slice a m c) n xs) (hg : g < B) : Off g a := by
 intro z hz e
 subst hz
 rcases h.2 with ⟨h0, _⟩ | ⟨q, cap, cur, h1, h2, _⟩
 ·cases h0
 ·cases h1; simp at e; omega
theorem ls_set {a : Option Addr} {n c : Nat} {l : List L.Ls} (h : RIn w a n c l) (K : Blok w g t (ws s A ve E x y).toArray) (hve : ∀ i, ve ≠ .int .i64 i) (j : Nat) (hj : 11 <= j) (u : Value) : RIn (w.setCell ⟨g, j, none⟩ u) a n c l := by
 refine ⟨h.1, h.2.1, h.2.2.1, ?_⟩
 rcases h.2.2.2 with h0 | ⟨b, off, rfl, hlt, hc⟩
 ·exact .inl h0
 ·refine .inr ⟨b, off, rfl, by simpa using hlt, fun i z hi m v hm => ?_⟩
  have hi5 := hc i z hi
  rw [World.cell?_setCell_other]
  ·exact hc i z hi m v hm
  ·intro e
   simp only [Addr.mk.injEq, and_true] at e
   obtain ⟨rfl, e2⟩ := e
   have hm5 : m < 5 := (List.getElem?_eq_some_iff.1 hm).1
   have hk5 : L.Rec.k L.Ls = 5 := rfl
   have q := cells_w K
   obtain ⟨-, -, -, -, -, -, -, -, -, -, -, q11, q12, q13, q14, q15, q16, -, -, -⟩ := q
   have hz : ∀ m', m' < 5 -> ∃ v : Int, w.cell? ⟨g, off + i * 5 + m', none⟩ = some (.int .i64 v) := fun m' hm' => by
    match m', hm' with
    | 0, _ => exact ⟨_, hi5 0 _ rfl⟩
    | 1, _ => exact ⟨_, hi5 1 _ rfl⟩
    | 2, _ => exact ⟨_, hi5 2 _ rfl⟩
    | 3, _ => exact ⟨_, hi5 3 _ rfl⟩
    | 4, _ => exact ⟨_, hi5 4 _ rfl⟩
   have no : ∀ m', m' < 5 -> off + i * 5 + m' ≠ 11 /\ off + i * 5 + m' ≠ 13 /\ off + i * 5 + m' ≠ 14 /\ off + i * 5 + m' ≠ 15 /\ off + i * 5 + m' ≠ 16 /\ off + i * 5 + m' < 20 := fun m' hm' => by
    obtain ⟨v, hv⟩ := hz m' hm'
    refine ⟨fun e => ?_, fun e => ?_, fun e => ?_, fun e => ?_, fun e => ?_, ?_⟩
    ·rw [e, q11] at hv; cases hv
    ·rw [e, q13] at hv; cases hv
    ·rw [e, q14] at hv; cases hv
    ·rw [e, q15] at hv; cases hv
    ·rw [e, q16] at hv; exact hve v (Option.some.inj hv)
    ·refine Decidable.byContradiction fun e => ?_
     rw [K.cell] at hv
     have : (ws s A ve E x y).toArray[off + i * 5 + m']? = none := Array.getElem?_eq_none (by show 20 <= _; omega)
     rw [this] at hv; cases hv
   have n0 := no 0 (by omega)
   have n1 := no 1 (by omega)
   have n2 := no 2 (by omega)
   have n3 := no 3 (by omega)
   have n4 := no 4 (by omega)
   rw [hk5] at e2
   omega
end Y
open Go.RowKit
theorem zaj {P : Program} {md : Region.Mode} {ops : Array Oper} {Q : Exit -> Act -> World -> Prop} {S : World -> Prop} {fuel : Nat} {listed : Array Bool} {a : Act} {w : World} {i : Nat} {o : Oper} {f : FuncId} {args : Array Value} {R : Ending -> World -> Prop}
  (hr : Region.ready md ops listed = [i]) (ho : ops[i]? = some o) (hw : Region.wanted o (yielded ops a.tmps) = true) (h : (execOp a.eval o).run P w = .ok (.enter f args) w) (hc : Calls P f args w R)
  (hR : ∀ e w', R e w' -> ∃ c, e = .panicked c /\ Q (.panic c) a w') : wpAnyH P md ops Q S (fuel + 1) listed a w := by
 refine wpAnyH_all hr (by simp) fun j hj => ?_
 obtain rfl : j = i := by simpa using hj
 refine wpOp_step ho fun K hK => ?_
 rw [if_pos hw]
 unfold Oper.wp
 rw [h]
 exact hc.mono (fun e w' he => by obtain ⟨c, rfl, hk⟩ := hR e w' he; exact hk)
theorem zap {w w' : World} {b i : Nat} {v : Value} (h : w.cell? ⟨b, i, none⟩ = some v) (hb : Below w.heap.size w w') : w'.cell? ⟨b, i, none⟩ = some v := by
 have hlt : b < w.heap.size := World.block_lt_of_cell? (a := ⟨b, i, none⟩) _ h
 unfold World.cell? at h ⊢
 rw [hb.block b hlt]; exact h
theorem zai {H X : Nat} {w w' : World} {b i : Nat} {v : Value} (h : w.cell? ⟨b, i, none⟩ = some v) (hk : KpL H X w w') (hb : b < H) (hx : b ≠ X) : w'.cell? ⟨b, i, none⟩ = some v := by
 unfold World.cell? at h ⊢
 rw [hk.2 b hb hx]; exact h
theorem KpL.set (H b i : Nat) (w : World) (u : Value) : KpL H b w (w.setCell ⟨b, i, none⟩ u) := by
 refine ⟨⟨rfl, rfl, rfl, by simp, fun k hk => by omega⟩, fun k _ hx => ?_⟩
 exact Below.heap_setCell w ⟨b, i, none⟩ u k (fun e => hx (by simp [e]))
theorem KpL.grown {H b : Nat} {w w' : World} {row : Option Nat} (h : w.grownBy w' row) (hr : ∀ g, row = some g -> H <= g \/ g = b) (hH : H <= w.heap.size) : KpL H b w w' := by
 refine ⟨⟨h.os, h.tape, h.output, h.size, fun k hk => by omega⟩, fun k hk hx => ?_⟩
 refine h.block k (by omega) (fun e => ?_)
 rcases hr k e.symm with h1 | h1 <;> omega
theorem KpL.to_below {n H b : Nat} {w w' w0 : World} (h : Below n w0 w) (k : KpL H b w w') (hn : n <= H) (hb : n <= b) : Below n w0 w' :=
 ⟨k.1.os.trans h.os, k.1.tape.trans h.tape, k.1.output.trans h.output, Nat.le_trans h.size k.1.size, fun i hi => (k.2 i (by omega) (by omega)).trans (h.block i hi)⟩
open Go.RowKit
namespace Y
theorem cs16 {w : World} {g : Nat} {t : TypeId} {s : St} {ap : Option Addr} {np cp : Nat} {al : Option Addr} {nl cl : Nat} {ah : Option Addr} {nh ch : Nat} (K : Blok w g t #[.int .i64 s.d.b, .int .i64 s.d.k, .int .i64 s.d.c, .int .i64 s.d.j, .int .i64 s.d.lo, .int .i64 s.d.hi, .int .i64 s.d.dy, .int .i64 s.d.bl, .int .i64 s.p.q, .int .i64 s.p.i, .int .i64 s.p.h, .bool s.p.pair, .int .i64 s.now, .slice ap np cp, .slice al nl cl, .slice ah nh ch]) :
  w.cell? ⟨g, 0, none⟩ = some (.int .i64 s.d.b) /\ w.cell? ⟨g, 1, none⟩ = some (.int .i64 s.d.k) /\ w.cell? ⟨g, 2, none⟩ = some (.int .i64 s.d.c) /\ w.cell? ⟨g, 3, none⟩ = some (.int .i64 s.d.j) /\ w.cell? ⟨g, 4, none⟩ = some (.int .i64 s.d.lo) /\ w.cell? ⟨g, 5, none⟩ = some (.int .i64 s.d.hi) /\ w.cell? ⟨g, 6, none⟩ = some (.int .i64 s.d.dy) /\ w.cell? ⟨g, 7, none⟩ = some (.int .i64 s.d.bl) /\ w.cell? ⟨g, 8, none⟩ = some (.int .i64 s.p.q) /\ w.cell? ⟨g, 9, none⟩ = some (.int .i64 s.p.i) /\ w.cell? ⟨g, 10, none⟩ = some (.int .i64 s.p.h) /\ w.cell? ⟨g, 11, none⟩ = some (.bool s.p.pair) /\ w.cell? ⟨g, 12, none⟩ = some (.int .i64 s.now) /\ w.cell? ⟨g, 13, none⟩ = some (.slice ap np cp) /\ w.cell? ⟨g, 14, none⟩ = some (.slice al nl cl) /\ w.cell? ⟨g, 15, none⟩ = some (.slice ah nh ch) := ⟨K.cell 0, K.cell 1, K.cell 2, K.cell 3, K.cell 4, K.cell 5, K.cell 6, K.cell 7, K.cell 8, K.cell 9, K.cell 10, K.cell 11, K.cell 12, K.cell 13, K.cell 14, K.cell 15⟩
theorem cs16q {w : World} {g : Nat} {t : TypeId} {s : St} {ap : Option Addr} {np cp : Nat} {al : Option Addr} {nl cl : Nat} {ah : Option Addr} {nh ch : Nat} (K : Blok w g t #[.int .i64 s.d.b, .int .i64 s.d.k, .int .i64 s.d.c, .int .i64 s.d.j, .int .i64 s.d.lo, .int .i64 s.d.hi, .int .i64 s.d.dy, .int .i64 s.d.bl, .int .i64 s.p.q, .int .i64 s.p.i, .int .i64 s.p.h, .bool s.p.pair, .int .i64 s.now, .slice ap np cp, .slice al nl cl, .slice ah nh ch]) :
  (∀ d os, (Go.Sort.grow (redrawn w d) os).cell? ⟨g, 0, none⟩ = some (.int .i64 s.d.b)) /\ (∀ d os, (Go.Sort.grow (redrawn w d) os).cell? ⟨g, 1, none⟩ = some (.int .i64 s.d.k)) /\ (∀ d os, (Go.Sort.grow (redrawn w d) os).cell? ⟨g, 2, none⟩ = some (.int .i64 s.d.c)) /\ (∀ d os, (Go.Sort.grow (redrawn w d) os).cell? ⟨g, 3, none⟩ = some (.int .i64 s.d.j)) /\ (∀ d os, (Go.Sort.grow (redrawn w d) os).cell? ⟨g, 4, none⟩ = some (.int .i64 s.d.lo)) /\ (∀ d os, (Go.Sort.grow (redrawn w d) os).cell? ⟨g, 5, none⟩ = some (.int .i64 s.d.hi)) /\ (∀ d os, (Go.Sort.grow (redrawn w d) os).cell? ⟨g, 6, none⟩ = some (.int .i64 s.d.dy)) /\ (∀ d os, (Go.Sort.grow (redrawn w d) os).cell? ⟨g, 7, none⟩ = some (.int .i64 s.d.bl)) /\ (∀ d os, (Go.Sort.grow (redrawn w d) os).cell? ⟨g, 8, none⟩ = some (.int .i64 s.p.q)) /\ (∀ d os, (Go.Sort.grow (redrawn w d) os).cell? ⟨g, 9, none⟩ = some (.int .i64 s.p.i)) /\ (∀ d os, (Go.Sort.grow (redrawn w d) os).cell? ⟨g, 10, none⟩ = some (.int .i64 s.p.h)) /\ (∀ d os, (Go.Sort.grow (redrawn w d) os).cell? ⟨g, 11, none⟩ = some (.bool s.p.pair)) /\ (∀ d os, (Go.Sort.grow (redrawn w d) os).cell? ⟨g, 12, none⟩ = some (.int .i64 s.now)) /\ (∀ d os, (Go.Sort.grow (redrawn w d) os).cell? ⟨g, 13, none⟩ = some (.slice ap np cp)) /\ (∀ d os, (Go.Sort.grow (redrawn w d) os).cell? ⟨g, 14, none⟩ = some (.slice al nl cl)) /\ (∀ d os, (Go.Sort.grow (redrawn w d) os).cell? ⟨g, 15, none⟩ = some (.slice ah nh ch)) := ⟨fun d os => (K.below (below_regrown w d os) K.lt).cell 0, fun d os => (K.below (below_regrown w d os) K.lt).cell 1, fun d os => (K.below (below_regrown w d os) K.lt).cell 2, fun d os => (K.below (below_regrown w d os) K.lt).cell 3, fun d os => (K.below (below_regrown w d os) K.lt).cell 4, fun d os => (K.below (below_regrown w d os) K.lt).cell 5, fun d os => (K.below (below_regrown w d os) K.lt).cell 6, fun d os => (K.below (below_regrown w d os) K.lt).cell 7, fun d os => (K.below (below_regrown w d os) K.lt).cell 8, fun d os => (K.below (below_regrown w d os) K.lt).cell 9, fun d os => (K.below (below_regrown w d os) K.lt).cell 10, fun d os => (K.below (below_regrown w d os) K.lt).cell 11, fun d os => (K.below (below_regrown w d os) K.lt).cell 12, fun d os => (K.below (below_regrown w d os) K.lt).cell 13, fun d os => (K.below (below_regrown w d os) K.lt).cell 14, fun d os => (K.below (below_regrown w d os) K.lt).cell 15⟩
theorem cs9 {w : World} {g : Nat} {t : TypeId} {r : Rq} (K : Blok w g t #[.int .i64 r.k, .int .i64 r.s, .int .i64 r.a, .int .i64 r.b, .int .i64 r.n, .int .i64 r.p.q, .int .i64 r.p.i, .int .i64 r.p.h, .bool r.p.pair]) :
  w.cell? ⟨g, 0, none⟩ = some (.int .i64 r.k) /\ w.cell? ⟨g, 1, none⟩ = some (.int .i64 r.s) /\ w.cell? ⟨g, 2, none⟩ = some (.int .i64 r.a) /\ w.cell? ⟨g, 3, none⟩ = some (.int .i64 r.b) /\ w.cell? ⟨g, 4, none⟩ = some (.int .i64 r.n) /\ w.cell? ⟨g, 5, none⟩ = some (.int .i64 r.p.q) /\ w.cell? ⟨g, 6, none⟩ = some (.int .i64 r.p.i) /\ w.cell? ⟨g, 7, none⟩ = some (.int .i64 r.p.h) /\ w.cell? ⟨g, 8, none⟩ = some (.bool r.p.pair) := ⟨K.cell 0, K.cell 1, K.cell 2, K.cell 3, K.cell 4, K.cell 5, K.cell 6, K.cell 7, K.cell 8⟩
theorem cs9q {w : World} {g : Nat} {t : TypeId} {r : Rq} (K : Blok w g t #[.int .i64 r.k, .int .i64 r.s, .int .i64 r.a, .int .i64 r.b, .int .i64 r.n, .int .i64 r.p.q, .int .i64 r.p.i, .int .i64 r.p.h, .bool r.p.pair]) :
  (∀ d os, (Go.Sort.grow (redrawn w d) os).cell? ⟨g, 0, none⟩ = some (.int .i64 r.k)) /\ (∀ d os, (Go.Sort.grow (redrawn w d) os).cell? ⟨g, 1, none⟩ = some (.int .i64 r.s)) /\ (∀ d os, (Go.Sort.grow (redrawn w d) os).cell? ⟨g, 2, none⟩ = some (.int .i64 r.a)) /\ (∀ d os, (Go.Sort.grow (redrawn w d) os).cell? ⟨g, 3, none⟩ = some (.int .i64 r.b)) /\ (∀ d os, (Go.Sort.grow (redrawn w d) os).cell? ⟨g, 4, none⟩ = some (.int .i64 r.n)) /\ (∀ d os, (Go.Sort.grow (redrawn w d) os).cell? ⟨g, 5, none⟩ = some (.int .i64 r.p.q)) /\ (∀ d os, (Go.Sort.grow (redrawn w d) os).cell? ⟨g, 6, none⟩ = some (.int .i64 r.p.i)) /\ (∀ d os, (Go.Sort.grow (redrawn w d) os).cell? ⟨g, 7, none⟩ = some (.int .i64 r.p.h)) /\ (∀ d os, (Go.Sort.grow (redrawn w d) os).cell? ⟨g, 8, none⟩ = some (.bool r.p.pair)) := ⟨fun d os => (K.below (below_regrown w d os) K.lt).cell 0, fun d os => (K.below (below_regrown w d os) K.lt).cell 1, fun d os => (K.below (below_regrown w d os) K.lt).cell 2, fun d os => (K.below (below_regrown w d os) K.lt).cell 3, fun d os => (K.below (below_regrown w d os) K.lt).cell 4, fun d os => (K.below (below_regrown w d os) K.lt).cell 5, fun d os => (K.below (below_regrown w d os) K.lt).cell 6, fun d os => (K.below (below_regrown w d os) K.lt).cell 7, fun d os => (K.below (below_regrown w d os) K.lt).cell 8⟩
theorem cs5 {w : World} {g : Nat} {t : TypeId} {x : L.Ls} (K : Blok w g t #[.int .i64 x.s, .int .i64 x.a, .int .i64 x.b, .int .i64 x.f, .int .i64 x.t]) :
  w.cell? ⟨g, 0, none⟩ = some (.int .i64 x.s) /\ w.cell? ⟨g, 1, none⟩ = some (.int .i64 x.a) /\ w.cell? ⟨g, 2, none⟩ = some (.int .i64 x.b) /\ w.cell? ⟨g, 3, none⟩ = some (.int .i64 x.f) /\ w.cell? ⟨g, 4, none⟩ = some (.int .i64 x.t) := ⟨K.cell 0, K.cell 1, K.cell 2, K.cell 3, K.cell 4⟩
theorem cs5q {w : World} {g : Nat} {t : TypeId} {x : L.Ls} (K : Blok w g t #[.int .i64 x.s, .int .i64 x.a, .int .i64 x.b, .int .i64 x.f, .int .i64 x.t]) :
  (∀ d os, (Go.Sort.grow (redrawn w d) os).cell? ⟨g, 0, none⟩ = some (.int .i64 x.s)) /\ (∀ d os, (Go.Sort.grow (redrawn w d) os).cell? ⟨g, 1, none⟩ = some (.int .i64 x.a)) /\ (∀ d os, (Go.Sort.grow (redrawn w d) os).cell? ⟨g, 2, none⟩ = some (.int .i64 x.b)) /\ (∀ d os, (Go.Sort.grow (redrawn w d) os).cell? ⟨g, 3, none⟩ = some (.int .i64 x.f)) /\ (∀ d os, (Go.Sort.grow (redrawn w d) os).cell? ⟨g, 4, none⟩ = some (.int .i64 x.t)) := ⟨fun d os => (K.below (below_regrown w d os) K.lt).cell 0, fun d os => (K.below (below_regrown w d os) K.lt).cell 1, fun d os => (K.below (below_regrown w d os) K.lt).cell 2, fun d os => (K.below (below_regrown w d os) K.lt).cell 3, fun d os => (K.below (below_regrown w d os) K.lt).cell 4⟩
theorem cs3 {w : World} {g : Nat} {t : TypeId} {x : L.T3} (K : Blok w g t #[.int .i64 x.a, .int .i64 x.b, .int .i64 x.x]) :
  w.cell? ⟨g, 0, none⟩ = some (.int .i64 x.a) /\ w.cell? ⟨g, 1, none⟩ = some (.int .i64 x.b) /\ w.cell? ⟨g, 2, none⟩ = some (.int .i64 x.x) := ⟨K.cell 0, K.cell 1, K.cell 2⟩
theorem cs3q {w : World} {g : Nat} {t : TypeId} {x : L.T3} (K : Blok w g t #[.int .i64 x.a, .int .i64 x.b, .int .i64 x.x]) :
  (∀ d os, (Go.Sort.grow (redrawn w d) os).cell? ⟨g, 0, none⟩ = some (.int .i64 x.a)) /\ (∀ d os, (Go.Sort.grow (redrawn w d) os).cell? ⟨g, 1, none⟩ = some (.int .i64 x.b)) /\ (∀ d os, (Go.Sort.grow (redrawn w d) os).cell? ⟨g, 2, none⟩ = some (.int .i64 x.x)) := ⟨fun d os => (K.below (below_regrown w d os) K.lt).cell 0, fun d os => (K.below (below_regrown w d os) K.lt).cell 1, fun d os => (K.below (below_regrown w d os) K.lt).cell 2⟩
theorem cb2 {w : World} {g : Nat} {t : TypeId} {a b : Int} (K : Blok w g t #[.int .i64 a, .int .i64 b]) :
  w.cell? ⟨g, 0, none⟩ = some (.int .i64 a) /\ w.cell? ⟨g, 1, none⟩ = some (.int .i64 b) := ⟨K.cell 0, K.cell 1⟩
theorem cb2q {w : World} {g : Nat} {t : TypeId} {a b : Int} (K : Blok w g t #[.int .i64 a, .int .i64 b]) :
  (∀ d os, (Go.Sort.grow (redrawn w d) os).cell? ⟨g, 0, none⟩ = some (.int .i64 a)) /\ (∀ d os, (Go.Sort.grow (redrawn w d) os).cell? ⟨g, 1, none⟩ = some (.int .i64 b)) := ⟨fun d os => (K.below (below_regrown w d os) K.lt).cell 0, fun d os => (K.below (below_regrown w d os) K.lt).cell 1⟩
theorem cb3 {w : World} {g : Nat} {t : TypeId} {a b c : Int} (K : Blok w g t #[.int .i64 a, .int .i64 b, .int .i64 c]) :
  w.cell? ⟨g, 0, none⟩ = some (.int .i64 a) /\ w.cell? ⟨g, 1, none⟩ = some (.int .i64 b) /\ w.cell? ⟨g, 2, none⟩ = some (.int .i64 c) := ⟨K.cell 0, K.cell 1, K.cell 2⟩
theorem at5q {w : World} {a : Option Addr} {n c i : Nat} {l : List L.Ls} (h : RIn w a n c l) (hi : i < n) :
  ∃ b off x, a = some ⟨b, off, none⟩ /\ b < w.heap.size /\ l[i]? = some x /\ (w.cell? ⟨b, off + i * 5, none⟩ = some (.int .i64 x.s) /\ w.cell? ⟨b, off + i * 5 + 1, none⟩ = some (.int .i64 x.a) /\ w.cell? ⟨b, off + i * 5 + 2, none⟩ = some (.int .i64 x.b) /\ w.cell? ⟨b, off + i * 5 + 3, none⟩ = some (.int .i64 x.f) /\ w.cell? ⟨b, off + i * 5 + 4, none⟩ = some (.int .i64 x.t)) /\
   (∀ d os, (Go.Sort.grow (redrawn w d) os).cell? ⟨b, off + i * 5, none⟩ = some (.int .i64 x.s)) /\ (∀ d os, (Go.Sort.grow (redrawn w d) os).cell? ⟨b, off + i * 5 + 1, none⟩ = some (.int .i64 x.a)) /\ (∀ d os, (Go.Sort.grow (redrawn w d) os).cell? ⟨b, off + i * 5 + 2, none⟩ = some (.int .i64 x.b)) /\ (∀ d os, (Go.Sort.grow (redrawn w d) os).cell? ⟨b, off + i * 5 + 3, none⟩ = some (.int .i64 x.f)) /\ (∀ d os, (Go.Sort.grow (redrawn w d) os).cell? ⟨b, off + i * 5 + 4, none⟩ = some (.int .i64 x.t)) := by
 obtain ⟨b, off, x, ha, hb, hx, p⟩ := h.at5 hi
 refine ⟨b, off, x, ha, hb, hx, p, ?_⟩
 have k : ∀ d os, _ := fun d os => (h.below (below_regrown w d os)).at5 hi
 refine ⟨fun d os => ?_, fun d os => ?_, fun d os => ?_, fun d os => ?_, fun d os => ?_⟩ <;>
 ·obtain ⟨b', off', x', ha', _, hx', p'⟩ := k d os
  rw [ha] at ha'; cases ha'
  rw [hx] at hx'; cases hx'
  first | exact p'.1 | exact p'.2.1 | exact p'.2.2.1 | exact p'.2.2.2.1 | exact p'.2.2.2.2
theorem at3q {w : World} {a : Option Addr} {n c i : Nat} {l : List L.T3} (h : RIn w a n c l) (hi : i < n) :
  ∃ b off x, a = some ⟨b, off, none⟩ /\ b < w.heap.size /\ l[i]? = some x /\ (w.cell? ⟨b, off + i * 3, none⟩ = some (.int .i64 x.a) /\ w.cell? ⟨b, off + i * 3 + 1, none⟩ = some (.int .i64 x.b) /\ w.cell? ⟨b, off + i * 3 + 2, none⟩ = some (.int .i64 x.x)) /\
   (∀ d os, (Go.Sort.grow (redrawn w d) os).cell? ⟨b, off + i * 3, none⟩ = some (.int .i64 x.a)) /\ (∀ d os, (Go.Sort.grow (redrawn w d) os).cell? ⟨b, off + i * 3 + 1, none⟩ = some (.int .i64 x.b)) /\ (∀ d os, (Go.Sort.grow (redrawn w d) os).cell? ⟨b, off + i * 3 + 2, none⟩ = some (.int .i64 x.x)) := by
 obtain ⟨b, off, x, ha, hb, hx, p⟩ := h.at3 hi
 refine ⟨b, off, x, ha, hb, hx, p, ?_⟩
 have k : ∀ d os, _ := fun d os => (h.below (below_regrown w d os)).at3 hi
 refine ⟨fun d os => ?_, fun d os => ?_, fun d os => ?_⟩ <;>
 ·obtain ⟨b', off', x', ha', _, hx', p'⟩ := k d os
  rw [ha] at ha'; cases ha'
  rw [hx] at hx'; cases hx'
  first | exact p'.1 | exact p'.2.1 | exact p'.2.2
end Y
open Go.RowKit
theorem zd2 {fn : Func} {p : Tmp} (h : fn.results = #[.cell p 140]) {tmps : Array Value} {V : World} (g : Nat) (a b : Int)
  (hp : tmps.getD p undef = .pointer (some ⟨g, 0, none⟩)) (hg : Blok V g 140 #[.int .i64 a, .int .i64 b]) :
  (results fn tmps).run Tryz.prog V = .ok (.agg #[.int .i64 a, .int .i64 b]) V := by
 have hp' : tmps[p]?.getD undef = .pointer (some ⟨g, 0, none⟩) := by simpa using hp
 have hl := run_loadVar_row (P := Tryz.prog) V g 140 140 #[.int .i64 a, .int .i64 b] (0, 0) _ hg Tryz.underlying140 rfl (by kernel_rfl)
 simp [results, h, hp', asAddr, hl]
theorem zbe (p : Y.Po) (v : Bool) (hv : decide (Y.MayP p) = v) (w : World) :
  Calls Tryz.prog 24 #[Y.pval p] w fun e w' => e = .returned (.bool v) /\ Below w.heap.size w w' := by
 have HV := Zh hv
 have HB := Zh (((Below.refl w.heap.size w).alloc (Nat.le_refl _) (.cells #[.int .i64 p.q, .int .i64 p.i, .int .i64 p.h, .bool p.pair] 27)))
 clear hv
 unfold Y.pval
 go_enter Tryz.func24, Tryz.ntmps24
 by_cases k0 : 1 <= p.q
 ·have d0 : decide (1 <= p.q) = true := decide_eq_true k0
  by_cases k1 : p.q <= 8
  ·have d1 : decide (p.q <= 8) = true := decide_eq_true k1
   by_cases k2 : 1 <= p.i
   ·have d2 : decide (1 <= p.i) = true := decide_eq_true k2
    by_cases k3 : p.i <= 1048576
    ·have d3 : decide (p.i <= 1048576) = true := decide_eq_true k3
     by_cases k4 : 0 <= p.h
     ·have d4 : decide (0 <= p.h) = true := decide_eq_true k4
      by_cases k5 : p.h <= 1048576
      ·have d5 : decide (p.h <= 1048576) = true := decide_eq_true k5
       have HE : Hid (v = true) := Zh (by rw [<- HV.out]; exact decide_eq_true ⟨k0, k1, k2, k3, k4, k5⟩)
       go_wp2
       go_ret
       exact ⟨by rw [HE.out]; rfl, HB.out⟩
      ·have d5 : decide (p.h <= 1048576) = false := decide_eq_false k5
       have HE : Hid (v = false) := Zh (by rw [<- HV.out]; exact decide_eq_false fun h => k5 h.2.2.2.2.2)
       go_wp2
       go_ret
       exact ⟨by rw [HE.out]; rfl, HB.out⟩
     ·have d4 : decide (0 <= p.h) = false := decide_eq_false k4
      have HE : Hid (v = false) := Zh (by rw [<- HV.out]; exact decide_eq_false fun h => k4 h.2.2.2.2.1)
      go_wp2
      go_ret
      exact ⟨by rw [HE.out]; rfl, HB.out⟩
    ·have d3 : decide (p.i <= 1048576) = false := decide_eq_false k3
     have HE : Hid (v = false) := Zh (by rw [<- HV.out]; exact decide_eq_false fun h => k3 h.2.2.2.1)
     go_wp2
     go_ret
     exact ⟨by rw [HE.out]; rfl, HB.out⟩
   ·have d2 : decide (1 <= p.i) = false := decide_eq_false k2
    have HE : Hid (v = false) := Zh (by rw [<- HV.out]; exact decide_eq_false fun h => k2 h.2.2.1)
    go_wp2
    go_ret
    exact ⟨by rw [HE.out]; rfl, HB.out⟩
  ·have d1 : decide (p.q <= 8) = false := decide_eq_false k1
   have HE : Hid (v = false) := Zh (by rw [<- HV.out]; exact decide_eq_false fun h => k1 h.2.1)
   go_wp2
   go_ret
   exact ⟨by rw [HE.out]; rfl, HB.out⟩
 ·have d0 : decide (1 <= p.q) = false := decide_eq_false k0
  have HE : Hid (v = false) := Zh (by rw [<- HV.out]; exact decide_eq_false fun h => k0 h.1)
  go_wp2
  go_ret
  exact ⟨by rw [HE.out]; rfl, HB.out⟩
theorem zc3 (x : L.Ls) (w : World) :
  Calls Tryz.prog 129 #[L.val x] w fun e w' => e = .returned (.agg #[.int .i64 x.a, .int .i64 x.b]) /\ Below w.heap.size w w' := by
 have HB := Zh ((((Below.refl w.heap.size w).alloc (Nat.le_refl _) (.cells #[.int .i64 x.s, .int .i64 x.a, .int .i64 x.b, .int .i64 x.f, .int .i64 x.t] 58))).alloc (by simp) (.cells #[.int .i64 x.a, .int .i64 x.b] 140))
 have HR : Hid (Blok ((w.alloc (.cells #[.int .i64 x.s, .int .i64 x.a, .int .i64 x.b, .int .i64 x.f, .int .i64 x.t] 58)).alloc (.cells #[.int .i64 x.a, .int .i64 x.b] 140)) (w.heap.size + 1) 140 #[.int .i64 x.a, .int .i64 x.b]) := Zh (by
  have := Blok.new (w.alloc (.cells #[.int .i64 x.s, .int .i64 x.a, .int .i64 x.b, .int .i64 x.f, .int .i64 x.t] 58)) 140 #[.int .i64 x.a, .int .i64 x.b]
  simpa using this)
 unfold L.val
 go_enter Tryz.func129, Tryz.ntmps129
 go_wp2
 refine bodyPost_ret (zd2 rfl (w.heap.size + 1) x.a x.b (by kernel_rfl) HR.out) rfl ?_
 exact ⟨rfl, HB.out⟩
theorem zd3 (a b c d : Int) (v : Bool) (hv : decide (c < a \/ a = c /\ d < b) = v) (w : World) :
  Calls Tryz.prog 128 #[.agg #[.int .i64 a, .int .i64 b], .agg #[.int .i64 c, .int .i64 d]] w fun e w' => e = .returned (.bool v) /\ Below w.heap.size w w' := by
 have HB := Zh ((((Below.refl w.heap.size w).alloc (Nat.le_refl _) (.cells #[.int .i64 a, .int .i64 b] 140))).alloc (by simp) (.cells #[.int .i64 c, .int .i64 d] 140))
 obtain ⟨u, hu⟩ : ∃ u, decide (c < a) = u := ⟨_, rfl⟩
 obtain ⟨y, hy⟩ : ∃ v, (a == c) = v := ⟨_, rfl⟩
 obtain ⟨z, hz⟩ : ∃ z, decide (d < b) = z := ⟨_, rfl⟩
 have HE : Hid (v = (u || (y && z))) := Zh (by
  rw [<- hv, <- hu, <- hy, <- hz, Bool.eq_iff_iff]; simp)
 clear hv
 go_enter Tryz.func128, Tryz.ntmps128
 cases u with
 | true =>
  go_wp2
  go_ret
  exact ⟨by rw [HE.out]; rfl, HB.out⟩
 | false =>
  cases y with
  | false =>
   go_wp2
   go_ret
   exact ⟨by rw [HE.out]; rfl, HB.out⟩
  | true =>
   go_wp2
   go_ret
   exact ⟨by rw [HE.out]; rfl, HB.out⟩
theorem zd4 (x : E.D) (a b : Int) (v : Bool) (hv : E.blkB x a b = v) (w : World) (hb : x.b <= 9223372036854775807) (hc : x.c <= 9223372036854775807) :
  Calls Tryz.prog 131 #[.agg #[.int .i64 x.b, .int .i64 x.k, .int .i64 x.c, .int .i64 x.j, .int .i64 x.lo, .int .i64 x.hi, .int .i64 x.dy, .int .i64 x.bl], .agg #[.int .i64 a, .int .i64 b]] w fun e w' => e = .returned (.bool v) /\ Below w.heap.size w w' := by
 have HB := Zh ((((Below.refl w.heap.size w).alloc (Nat.le_refl _) (.cells #[.int .i64 x.b, .int .i64 x.k, .int .i64 x.c, .int .i64 x.j, .int .i64 x.lo, .int .i64 x.hi, .int .i64 x.dy, .int .i64 x.bl] 25))).alloc (by simp) (.cells #[.int .i64 a, .int .i64 b] 140))
 have c1 := zh6 x a b _ _ _ v ((w.alloc (.cells #[.int .i64 x.b, .int .i64 x.k, .int .i64 x.c, .int .i64 x.j, .int .i64 x.lo, .int .i64 x.hi, .int .i64 x.dy, .int .i64 x.bl] 25)).alloc (.cells #[.int .i64 a, .int .i64 b] 140)) hv rfl rfl rfl hb hc
 clear hv hb hc
 go_enter Tryz.func131, Tryz.ntmps131
 go_wp2_with fail
 refine c1.mono ?_
 rintro e w1 ⟨rfl, hb1⟩
 have HB1 := Zt HB hb1
 clear c1 hb1 HB
 go_wp2
 go_ret
 exact ⟨rfl, HB1.out.alloc HB1.out.size _⟩
theorem za3 (x : E.D) (s : Int) (hs : E.no x = s) (w : World) : Calls Tryz.prog 57 #[.agg #[.int .i64 x.b, .int .i64 x.k, .int .i64 x.c, .int .i64 x.j, .int .i64 x.lo, .int .i64 x.hi, .int .i64 x.dy, .int .i64 x.bl]] w fun e w' => e = .returned (.int .i64 s) /\ Below w.heap.size w w' := by
 have HB := Zh (zaq w x)
 have hsz := zc8 x.c x.j s (ebox w x) hs
 clear hs
 go_enter Tryz.func57, Tryz.ntmps57
 go_wp2_with fail
 refine hsz.mono ?_
 rintro e w1 ⟨rfl, hb1⟩
 go_wp2
 go_ret
 exact ⟨rfl, HB.out.trans (hb1.mono HB.out.size)⟩
def Y.pan (e : Int) : List PanicEntry := [{ v := .iface 38 (.int .i64 e), recovered := false }]
theorem zag (n : Int) (w : World) : Calls Tryz.prog 39 #[.bool true, .int .i64 n] w fun e w' => e = .returned (.tuple #[]) /\ Below w.heap.size w w' := by
 go_enter Tryz.func39, Tryz.ntmps39
 go_wp2
 go_end0
 exact ⟨rfl, Below.refl _ _⟩
theorem za0 (n : Int) (w : World) : Calls Tryz.prog 39 #[.bool false, .int .i64 n] w fun e w' => e = .panicked (Y.pan n) /\ Below w.heap.size w w' := by
 go_enter Tryz.func39, Tryz.ntmps39
 go_wp2
 exact ⟨rfl, rfl, Below.refl _ _⟩
end Go.Proofs.YtonejangijkdmaaGreat
