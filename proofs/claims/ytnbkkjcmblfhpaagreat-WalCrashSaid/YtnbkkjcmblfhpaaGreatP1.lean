import Derived.ArgAppend
import Derived.Laws.OwnMore
import Derived.Deep.AppendLies
import Derived.Deep.RegionLaw
import Derived.Lib.QuietBelow
import Derived.Deep.Cut
import Derived.Deep.CutRange
import Derived.RangeFuncBox
import Derived.RangeFuncNested
import Derived.RangeFuncBound
import Derived.RangeFuncCalls
import Derived.RangeFuncLeaves
import Derived.Shelf.Abstract
import Derived.Shelf.RegionOpen
import Derived.OwnWalkIn
import Derived.TacticsInMore
import Derived.LoopNIn
import Derived.LoopIn
import Derived.Test.YtnbkkjcmblfhpaaGreatP0
namespace Go.Proofs.YtnbkkjcmblfhpaaGreat
set_option maxHeartbeats 400000
set_option maxRecDepth 100000
namespace L
structure Ls where
 s : Int
 a : Int
 b : Int
 f : Int
 t : Int
deriving DecidableEq
structure T3 where
 a : Int
 b : Int
 x : Int
deriving DecidableEq
def had (x : Ls) : T3 := ⟨x.a, x.b, x.s⟩
def isOf (a b : Int) (x : T3) : Bool := decide (x.a = a /\ x.b = b)
def behind (a b : Int) (x : T3) : Bool := decide (a < x.a \/ x.a = a /\ b < x.b)
theorem isOf_iff {a b : Int} {x : T3} : isOf a b x = true ↔ x.a = a /\ x.b = b := by simp [isOf]
def plTo {α : Type} (p : α -> Bool) (l : List α) (k : Nat) : List (Fin l.length) := ((List.finRange l.length).take k).filter fun i => p l[i]
def pl {α : Type} (p : α -> Bool) (l : List α) : List (Fin l.length) := plTo p l l.length
theorem plTo_zero {α : Type} (p : α -> Bool) (l : List α) : plTo p l 0 = [] := rfl
theorem fin_take {n k : Nat} (h : k < n) : (List.finRange n).take (k + 1) = (List.finRange n).take k ++ [⟨k, h⟩] := by
 rw [List.take_succ_eq_append_getElem (by simpa using h)]
 simp
theorem plTo_yes {α : Type} {p : α -> Bool} {l : List α} {k : Nat} (h : k < l.length) (hp : p l[k] = true) : plTo p l (k + 1) = plTo p l k ++ [⟨k, h⟩] := by
 unfold plTo; rw [fin_take h, List.filter_append]; simp [hp]
theorem plTo_no {α : Type} {p : α -> Bool} {l : List α} {k : Nat} (h : k < l.length) (hp : p l[k] = false) : plTo p l (k + 1) = plTo p l k := by
 unfold plTo; rw [fin_take h, List.filter_append]; simp [hp]
theorem plTo_all {α : Type} {p : α -> Bool} {l : List α} {k : Nat} (h : l.length <= k) : plTo p l k = pl p l := by
 unfold pl plTo; rw [List.take_of_length_le (by simpa using h), List.take_of_length_le (by simp)]
theorem plTo_prefix {α : Type} (p : α -> Bool) (l : List α) (k : Nat) : plTo p l k <+: pl p l := by
 unfold pl plTo
 rw [List.take_of_length_le (l := List.finRange l.length) (i := l.length) (by simp)]
 exact (List.take_prefix _ _).filter _
theorem plTo_len {α : Type} (p : α -> Bool) (l : List α) (k : Nat) : (plTo p l k).length <= l.length :=
 Nat.le_trans (List.length_filter_le _ _) (by simp; omega)
theorem pl_eq {α : Type} (p : α -> Bool) (l : List α) : pl p l = (List.finRange l.length).filter fun i => p l[i] := by
 unfold pl plTo; rw [List.take_of_length_le (by simp)]
theorem pl_map {α : Type} (p : α -> Bool) (l : List α) : (pl p l).map (fun i => l[i]) = l.filter p := by
 rw [pl_eq]
 have h : l = (List.finRange l.length).map fun i => l[i] := by
  apply List.ext_getElem
  ·simp
  ·intro i h1 h2; simp
 conv => rhs; rw [h]
 rw [List.filter_map]
 rfl
theorem pl_nil {α : Type} {p : α -> Bool} {l : List α} (h : pl p l = []) : l.findIdx? p = none := by
 rw [List.findIdx?_eq_none_iff]
 intro x hx
 obtain ⟨i, hi, rfl⟩ := List.mem_iff_getElem.1 hx
 rw [pl_eq, List.filter_eq_nil_iff] at h
 simpa using h ⟨i, hi⟩ (by simp)
theorem pl_head {α : Type} {p : α -> Bool} {l : List α} {i : Fin l.length} (h : [i] <+: pl p l) : l.findIdx? p = some i.val := by
 rw [List.findIdx?_eq_some_iff_getElem]
 have hm : i ∈ pl p l := h.subset (by simp)
 rw [pl_eq] at hm
 refine ⟨i.2, by simpa using (List.mem_filter.1 hm).2, fun j hj => ?_⟩
 intro hp
 have hjl : j < l.length := by omega
 have h1 : plTo p l (j + 1) = plTo p l j ++ [⟨j, hjl⟩] := plTo_yes hjl (by simpa using hp)
 have h2 : plTo p l (j + 1) <+: pl p l := plTo_prefix _ _ _
 have h3 : [i] <+: plTo p l (j + 1) := List.prefix_of_prefix_length_le h h2 (by rw [h1]; simp)
 have h4 : i ∈ plTo p l (j + 1) := h3.subset (by simp)
 unfold plTo at h4
 have h5 := (List.mem_filter.1 h4).1
 obtain ⟨q, hq, hqe⟩ := List.mem_take_iff_getElem.1 h5
 have h6 : i.val = q := by rw [<- hqe]; simp
 omega
def at1 {α : Type} (p : α -> Bool) (l : List α) (d : Int) : Int := match l.findIdx? p with | some i => (i : Int) | none => d
theorem at1_some {α : Type} {p : α -> Bool} {l : List α} {d : Int} {i : Nat} (h : l.findIdx? p = some i) : at1 p l d = i := by unfold at1; rw [h]
theorem at1_none {α : Type} {p : α -> Bool} {l : List α} {d : Int} (h : l.findIdx? p = none) : at1 p l d = d := by unfold at1; rw [h]
theorem at1_map {α β : Type} {p : β -> Bool} {f : α -> β} {l : List α} {d : Int} : at1 p (l.map f) d = at1 (fun x => p (f x)) l d := by
 unfold at1; rw [List.findIdx?_map]; rfl
def find (l : List Ls) (a b : Int) : Int := at1 (isOf a b) (l.map had) (-1)
def spot (l : List Ls) (a b : Int) : Nat := l.findIdx fun y => behind a b (had y)
def put (l : List Ls) (x : Ls) : List Ls × Bool :=
 if 32 <= l.length \/ find l x.a x.b ≠ -1 then (l, false) else (l.take (spot l x.a x.b) ++ x :: l.drop (spot l x.a x.b), true)
def del (l : List Ls) (a b : Int) : List Ls × Bool :=
 if find l a b = -1 then (l, false) else (l.take (find l a b).toNat ++ l.drop ((find l a b).toNat + 1), true)
def others (h : List T3) (a b : Int) : List T3 := h.filter fun y => !isOf a b y
def hold (h : List T3) (x : T3) : List T3 :=
 (others h x.a x.b).take ((others h x.a x.b).findIdx (behind x.a x.b)) ++ x :: (others h x.a x.b).drop ((others h x.a x.b).findIdx (behind x.a x.b))
def clean (h : List T3) (now : Int) : List T3 := h.filter fun y => decide (now < y.x)
def of (l : List Ls) (s : Int) : List Int := (pl (fun x : T3 => (x.x == s)) (l.map had)).map fun i => (i.val : Int)
theorem find_cases (l : List Ls) (a b : Int) : (find l a b = -1 /\ ∀ x ∈ l, ¬ (x.a = a /\ x.b = b)) \/ ∃ (i : Nat) (x : Ls), find l a b = i /\ l[i]? = some x /\ x.a = a /\ x.b = b /\ ∀ y ∈ l.take i, ¬ (y.a = a /\ y.b = b) := by
 unfold find; rw [at1_map]
 cases h : l.findIdx? (fun x => isOf a b (had x)) with
 | none =>
  refine .inl ⟨at1_none h, fun x hx he => ?_⟩
  have := List.findIdx?_eq_none_iff.1 h x hx
  rw [isOf_iff.2 he] at this; cases this
 | some i =>
  obtain ⟨h1, h2, h3⟩ := List.findIdx?_eq_some_iff_getElem.1 h
  refine .inr ⟨i, l[i], at1_some h, List.getElem?_eq_getElem h1, (isOf_iff.1 h2).1, (isOf_iff.1 h2).2, fun y hy he => ?_⟩
  obtain ⟨j, hj, rfl⟩ := List.mem_take_iff_getElem.1 hy
  exact h3 j (by omega) (isOf_iff.2 he)
theorem find_none {l : List Ls} {a b : Int} : find l a b = -1 ↔ ∀ x ∈ l, ¬ (x.a = a /\ x.b = b) := by
 rcases find_cases l a b with ⟨h, h2⟩ | ⟨i, x, h, hi, ha, hb, _⟩
 ·exact ⟨fun _ => h2, fun _ => h⟩
 ·refine ⟨fun e => by omega, fun h2 => absurd ⟨ha, hb⟩ (h2 x (List.mem_of_getElem? hi))⟩
theorem find_lt (l : List Ls) (a b : Int) : -1 <= find l a b /\ find l a b < l.length := by
 rcases find_cases l a b with ⟨h, h2⟩ | ⟨i, x, h, hi, _⟩
 ·rw [h]; omega
 ·rw [h]; have := (List.getElem?_eq_some_iff.1 hi).1; omega
def Lt (x y : Ls) : Prop := x.a < y.a \/ x.a = y.a /\ x.b < y.b
instance (x y : Ls) : Decidable (Lt x y) := by unfold Lt; exact inferInstance
theorem Lt.trans {x y z : Ls} (h : Lt x y) (k : Lt y z) : Lt x z := by unfold Lt at *; omega
def Srt (l : List Ls) : Prop := l.Pairwise Lt
instance (l : List Ls) : Decidable (Srt l) := by unfold Srt; exact inferInstance
theorem Srt.snoc {l : List Ls} {j : Nat} {x y : Ls} (h : Srt (l.take (j + 1))) (hx : l[j]? = some x) (hy : l[j + 1]? = some y) (hl : Lt x y) : Srt (l.take (j + 1 + 1)) := by
 obtain ⟨l1, e1⟩ := List.getElem?_eq_some_iff.1 hy
 obtain ⟨l0, e0⟩ := List.getElem?_eq_some_iff.1 hx
 unfold Srt at *
 rw [List.take_succ_eq_append_getElem l1, List.pairwise_append]
 refine ⟨h, by simp, fun z hz u hu => ?_⟩
 obtain rfl : u = y := by rw [<- e1]; simpa using hu
 rw [List.take_succ_eq_append_getElem l0, List.pairwise_append] at h
 rw [List.take_succ_eq_append_getElem l0] at hz
 rcases List.mem_append.1 hz with hz | hz
 ·exact (h.2.2 z hz x (by rw [<- e0]; simp)).trans hl
 ·have : z = x := by rw [<- e0]; simpa using hz
  rw [this]; exact hl
theorem Srt.one (l : List Ls) : Srt (l.take 1) := by
 unfold Srt; cases l <;> simp
theorem Srt.no {l : List Ls} {j : Nat} {x y : Ls} (hx : l[j]? = some x) (hy : l[j + 1]? = some y) (hl : ¬ Lt x y) : ¬ Srt l := by
 intro h
 obtain ⟨l1, e1⟩ := List.getElem?_eq_some_iff.1 hy
 obtain ⟨l0, e0⟩ := List.getElem?_eq_some_iff.1 hx
 have := List.pairwise_iff_getElem.1 h j (j + 1) l0 l1 (by omega)
 rw [e0, e1] at this
 exact hl this
end L
open Go.RowKit
class L.Rec (α : Type) where
 k : Nat
 enc : α -> List Int
 len : ∀ x, (enc x).length = k
 pos : 0 < k
instance : L.Rec L.Ls := ⟨5, fun x => [x.s, x.a, x.b, x.f, x.t], fun _ => rfl, by decide⟩
instance : L.Rec L.T3 := ⟨3, fun x => [x.a, x.b, x.x], fun _ => rfl, by decide⟩
def L.cells {α : Type} [L.Rec α] (x : α) : List Value := (L.Rec.enc x).map (Value.int .i64)
def L.flat {α : Type} [L.Rec α] (l : List α) : List Value := l.flatMap L.cells
theorem L.cells_len {α : Type} [L.Rec α] (x : α) : (L.cells x).length = L.Rec.k α := by unfold L.cells; rw [List.length_map, L.Rec.len]
theorem L.flat_cons {α : Type} [L.Rec α] (x : α) (l : List α) : L.flat (x :: l) = L.cells x ++ L.flat l := rfl
theorem L.flat_append {α : Type} [L.Rec α] (l k : List α) : L.flat (l ++ k) = L.flat l ++ L.flat k := by simp [L.flat]
theorem L.flat_at {α : Type} [L.Rec α] : ∀ (l : List α) (i : Nat) (x : α), l[i]? = some x -> ∀ j, j < L.Rec.k α -> (L.flat l)[i * L.Rec.k α + j]? = (L.cells x)[j]?
 | [], _, _, h, _, _ => by simp at h
 | y :: l, 0, x, h, j, hj => by
  obtain rfl : y = x := by simpa using h
  rw [L.flat_cons, Nat.zero_mul, Nat.zero_add, List.getElem?_append_left (by rw [L.cells_len]; exact hj)]
 | y :: l, i + 1, x, h, j, hj => by
  have := L.flat_at l i x (by simpa using h) j hj
  rw [L.flat_cons, List.getElem?_append_right (by rw [L.cells_len, Nat.add_mul]; omega), L.cells_len, show (i + 1) * L.Rec.k α + j - L.Rec.k α = i * L.Rec.k α + j by rw [Nat.add_mul]; omega]
  exact this
theorem L.cells_one {α : Type} [L.Rec α] (x : α) : ∀ u ∈ L.cells x, u.oneCell' = true := by
 intro u hu; obtain ⟨n, _, rfl⟩ := List.mem_map.1 hu; rfl
def RIn {α : Type} [L.Rec α] (w : World) (a : Option Addr) (n c : Nat) (l : List α) : Prop :=
 l.length = n /\ (n <= c /\ c <= maxLen) /\ (a = none -> n = 0 /\ c = 0) /\ (l = [] \/ ∃ b off, a = some ⟨b, off, none⟩ /\ b < w.heap.size /\ ∀ i x, l[i]? = some x -> ∀ j u, (L.cells x)[j]? = some u -> w.cell? ⟨b, off + i * L.Rec.k α + j, none⟩ = some u)
theorem RIn.grown {α : Type} [L.Rec α] {w w' : World} {a : Option Addr} {n c : Nat} {l : List α} {row : Option Nat} (h : RIn w a n c l) (hg : w.grownBy w' row) (hr : ∀ x, a = some x -> some x.block ≠ row) : RIn w' a n c l := by
 refine ⟨h.1, h.2.1, h.2.2.1, ?_⟩
 rcases h.2.2.2 with h0 | ⟨b, off, rfl, hlt, hc⟩
 ·exact .inl h0
 ·refine .inr ⟨b, off, rfl, Nat.lt_of_lt_of_le hlt hg.size, fun i x hi j u hj => ?_⟩
  have hb : ∀ o, w'.cell? ⟨b, o, none⟩ = w.cell? ⟨b, o, none⟩ := fun o => by unfold World.cell?; rw [hg.block b hlt (hr _ rfl)]
  rw [hb]; exact hc i x hi j u hj
theorem RIn.on {α : Type} [L.Rec α] {w w' : World} {a : Option Addr} {n c : Nat} {l : List α} (h : RIn w a n c l) (hg : w.grownBy w' none) : RIn w' a n c l := h.grown hg (by simp)
theorem RIn.below {α : Type} [L.Rec α] {w w' : World} {a : Option Addr} {n c : Nat} {l : List α} (h : RIn w a n c l) (hb : Below w.heap.size w w') : RIn w' a n c l :=
 h.on ⟨hb.os, hb.tape, hb.output, hb.size, fun i hi _ => hb.block i hi⟩
theorem RIn.nil {α : Type} [L.Rec α] (w : World) : RIn w none 0 0 ([] : List α) := ⟨rfl, ⟨Nat.le_refl _, by simp [maxLen]⟩, fun _ => ⟨rfl, rfl⟩, .inl rfl⟩
theorem RIn.at {α : Type} [L.Rec α] {w : World} {a : Option Addr} {n c i : Nat} {l : List α} (h : RIn w a n c l) (hi : i < n) :
  ∃ b off x, a = some ⟨b, off, none⟩ /\ b < w.heap.size /\ l[i]? = some x /\ ∀ j u, (L.cells x)[j]? = some u -> w.cell? ⟨b, off + i * L.Rec.k α + j, none⟩ = some u := by
 rcases h.2.2.2 with rfl | ⟨b, off, rfl, hb, hc⟩
 ·have := h.1; simp at this; omega
 ·have hx := List.getElem?_eq_getElem (show i < l.length by rw [h.1]; exact hi)
  exact ⟨b, off, _, rfl, hb, hx, hc i _ hx⟩
theorem RIn.at5 {w : World} {a : Option Addr} {n c i : Nat} {l : List L.Ls} (h : RIn w a n c l) (hi : i < n) :
  ∃ b off x, a = some ⟨b, off, none⟩ /\ b < w.heap.size /\ l[i]? = some x /\ w.cell? ⟨b, off + i * 5, none⟩ = some (.int .i64 x.s) /\ w.cell? ⟨b, off + i * 5 + 1, none⟩ = some (.int .i64 x.a) /\ w.cell? ⟨b, off + i * 5 + 2, none⟩ = some (.int .i64 x.b) /\ w.cell? ⟨b, off + i * 5 + 3, none⟩ = some (.int .i64 x.f) /\ w.cell? ⟨b, off + i * 5 + 4, none⟩ = some (.int .i64 x.t) := by
 obtain ⟨b, off, x, ha, hb, hx, hc⟩ := h.at hi
 exact ⟨b, off, x, ha, hb, hx, hc 0 _ rfl, hc 1 _ rfl, hc 2 _ rfl, hc 3 _ rfl, hc 4 _ rfl⟩
theorem RIn.at3 {w : World} {a : Option Addr} {n c i : Nat} {l : List L.T3} (h : RIn w a n c l) (hi : i < n) :
  ∃ b off x, a = some ⟨b, off, none⟩ /\ b < w.heap.size /\ l[i]? = some x /\ w.cell? ⟨b, off + i * 3, none⟩ = some (.int .i64 x.a) /\ w.cell? ⟨b, off + i * 3 + 1, none⟩ = some (.int .i64 x.b) /\ w.cell? ⟨b, off + i * 3 + 2, none⟩ = some (.int .i64 x.x) := by
 obtain ⟨b, off, x, ha, hb, hx, hc⟩ := h.at hi
 exact ⟨b, off, x, ha, hb, hx, hc 0 _ rfl, hc 1 _ rfl, hc 2 _ rfl⟩
theorem zgc {α : Type} [L.Rec α] {w : World} {B n t : Nat} {v : Value} {l : List α} (h : w.ownsRow B t (L.Rec.k α) v n (L.flat l)) (hn : l.length = n) : ∃ a c, v = .slice a n c /\ RIn w a n c l := by
 rcases h.2 with ⟨rfl, h0⟩ | ⟨g, cap, cur, rfl, _, hg, hle, hm, _⟩
 ·obtain rfl : l = [] := List.eq_nil_of_length_eq_zero (by omega)
  exact ⟨none, 0, by rw [h0], by rw [h0]; exact RIn.nil w⟩
 ·refine ⟨_, cap, rfl, hn, ⟨by omega, hm⟩, fun h => (by cases h), .inr ⟨g, 0, rfl, (Array.getElem?_eq_some_iff.1 hg).1, fun i x hi j u hj => ?_⟩⟩
  have hjk : j < L.Rec.k α := by rw [<- L.cells_len x]; exact (List.getElem?_eq_some_iff.1 hj).1
  have c1 := h.cells (g := g) rfl _ _ ((L.flat_at l i x hi j hjk).trans hj)
  rw [WideShapes.add_plain] at c1
  rw [Nat.add_assoc]; exact c1
theorem zcn {w : World} {B n t : Nat} {v : Value} {l : List L.Ls} (h : w.ownsRow B t 5 v n (L.flat l)) (hn : l.length = n) : ∃ a c, v = .slice a n c /\ RIn w a n c l := zgc h hn
theorem zdl {w : World} {B n t : Nat} {v : Value} {l : List L.T3} (h : w.ownsRow B t 3 v n (L.flat l)) (hn : l.length = n) : ∃ a c, v = .slice a n c /\ RIn w a n c l := zgc h hn
theorem zg7 : (Tryz.prog.info? 104).map (fun i => (i.zero, i.size, i.bytes)) = some (some (.agg #[.int .i64 0, .int .i64 0, .int .i64 0, .int .i64 0, .int .i64 0]), 5, 40) := by kernel_rfl
theorem zh7 : (Tryz.prog.info? 135).map (fun i => (i.zero, i.size, i.bytes)) = some (some (.agg #[.int .i64 0, .int .i64 0, .int .i64 0]), 3, 24) := by kernel_rfl
theorem zj2 : (Tryz.prog.info? 266).map (fun i => (i.zero, i.size, i.bytes)) = some (some (.agg #[.int .i64 0, .int .i64 0, .int .i64 0]), 3, 24) := by kernel_rfl
theorem zay : ∃ i, Tryz.prog.info? 104 = some i /\ i.zero = some (.agg #[.int .i64 0, .int .i64 0, .int .i64 0, .int .i64 0, .int .i64 0]) /\ i.size = 5 /\ i.bytes = 40 := info_parts zg7
theorem zbh : ∃ i, Tryz.prog.info? 135 = some i /\ i.zero = some (.agg #[.int .i64 0, .int .i64 0, .int .i64 0]) /\ i.size = 3 /\ i.bytes = 24 := info_parts zh7
theorem zh9 : ∃ i, Tryz.prog.info? 266 = some i /\ i.zero = some (.agg #[.int .i64 0, .int .i64 0, .int .i64 0]) /\ i.size = 3 /\ i.bytes = 24 := info_parts zj2
theorem zbx {a b : World} {row : Option Nat} (h : a.grownBy b none) : a.grownBy b row := ⟨h.os, h.tape, h.output, h.size, fun i hi _ => h.block i hi (by simp)⟩
theorem zf6 (w : World) (b i : Nat) (u : Value) : w.grownBy (w.setCell ⟨b, i, none⟩ u) (some b) :=
 ⟨rfl, rfl, rfl, by simp, fun k _ hk => Below.heap_setCell w ⟨b, i, none⟩ u k (fun e => hk (by simp [e]))⟩
namespace L
theorem below_none {w w' : World} (hb : Below w.heap.size w w') : w.grownBy w' none := ⟨hb.os, hb.tape, hb.output, hb.size, fun i hi _ => hb.block i hi⟩
def val (x : Ls) : Value := .agg #[.int .i64 x.s, .int .i64 x.a, .int .i64 x.b, .int .i64 x.f, .int .i64 x.t]
def val3 (x : T3) : Value := .agg #[.int .i64 x.a, .int .i64 x.b, .int .i64 x.x]
def Bx {α : Type} [Rec α] (w : World) (b : Nat) (t : TypeId) (x : α) : Prop := Blok w b t (cells x).toArray
theorem cell_one {α : Type} [Rec α] {w : World} {nb : Nat} {t : TypeId} {x : α} (hb : Bx w nb t x) (j : Nat) (u : Value) (hj : (cells x)[j]? = some u) : w.cell? ((⟨nb, 0, none⟩ : Addr).add j) = some u := by
 rw [WideShapes.add_plain, Blok.cell hb, Nat.zero_add]
 simpa using hj
end L
theorem zaw {α : Type} [L.Rec α] {w : World} {ops : Array Oper} {rest : List Oper} {o : Oper} {a : Act} {Q : Exit -> Act -> World -> Prop} (hgd : o.guard = none) (s x : Operand) (ts t : TypeId)
  (ho : o.op = .call { callee := .builtin .append, args := #[s, x], argTypes := #[ts, ts] }) (z : Value) (by' : Nat) (hts : Tryz.prog.underlying ts = some (.slice t)) (hp : ∃ i, Tryz.prog.info? t = some i /\ i.zero = some z /\ i.size = L.Rec.k α /\ i.bytes = by') (hz : z.cells.size = L.Rec.k α) (hby : 0 < by' /\ by' <= 40)
  (B : Nat) (v : Value) (p : Nat) (l : List α) (tm : α) (hs : a.eval s = v) (hown : w.ownsRow B t (L.Rec.k α) v p (L.flat l)) (nb : Nat) (t' : TypeId) (hx : a.eval x = .slice (some ⟨nb, 0, none⟩) 1 1) (hb : L.Bx w nb t' tm) (hpn : p <= 10000) (hB : B <= w.heap.size)
  (h : ∀ g cap w', w'.ownsRow B t (L.Rec.k α) (.slice (some ⟨g, 0, none⟩) (p + 1) cap) (p + 1) (L.flat (l ++ [tm])) -> w.grownBy w' v.ownBlock -> (v.ownBlock = some g \/ g = w.heap.size) -> g < w'.heap.size -> wpList Tryz.prog ops Q rest (a.put o.dst (.slice (some ⟨g, 0, none⟩) (p + 1) cap)) w') :
  wpList Tryz.prog ops Q (o :: rest) a w := by
 obtain ⟨i0, hi, hz0, hz1, hz2⟩ := hp
 have hk := L.Rec.pos (α := α)
 exact wpList_append_lies w hgd s x ts ho B t i0 z (L.Rec.k α) by' hts hi hz0 hz1 hz2 hz (by omega) v p (L.flat l) hs hown ⟨nb, 0, none⟩ 1 1 (L.cells tm) hx (by rw [L.cells_len, Nat.one_mul]) (L.cell_one hb) (L.cells_one tm) (by decide) (by unfold maxLen; omega) (by have : (p + 1) * by' <= 10001 * 40 := Nat.mul_le_mul (by omega) hby.2; omega) hB w.heap.size rfl
  (fun g cap w' h1 h2 h3 h4 => h g cap w' (by rw [L.flat_append]; simpa [L.flat] using h1) h2 h3 h4)
open Go.RowKit
theorem zgs (x : L.T3) (a b : Int) (r : Bool) (hr : L.isOf a b x = r) (w : World) :
  Calls Tryz.prog 264 #[.agg #[.int .i64 x.a, .int .i64 x.b], .agg #[.int .i64 a, .int .i64 b]] w fun e w' => e = .returned (.bool r) /\ Below w.heap.size w w' := by
 obtain ⟨xa, xb, xx⟩ := x
 by_cases h1 : xa = a
 ·subst h1
  by_cases h2 : xb = b
  ·subst h2
   have HE : Hid (r = true) := Zh (by rw [<- hr, L.isOf_iff]; exact ⟨rfl, rfl⟩)
   clear hr
   go_enter Tryz.func264, Tryz.ntmps264
   go_wp2_with fail
   go_ret
   exact ⟨by rw [HE.out]; rfl, ((Below.refl _ w).alloc (Nat.le_refl _) _).alloc (by simp) _⟩
  ·have HE : Hid (r = false) := Zh (by rw [<- hr, Bool.eq_false_iff]; intro h; exact h2 (L.isOf_iff.1 h).2)
   clear hr
   go_enter Tryz.func264, Tryz.ntmps264
   go_wp2_with fail
   go_ret
   exact ⟨by rw [HE.out]; rfl, ((Below.refl _ w).alloc (Nat.le_refl _) _).alloc (by simp) _⟩
 ·have HE : Hid (r = false) := Zh (by rw [<- hr, Bool.eq_false_iff]; intro h; exact h1 (L.isOf_iff.1 h).1)
  clear hr
  go_enter Tryz.func264, Tryz.ntmps264
  go_wp2_with fail
  go_ret
  exact ⟨by rw [HE.out]; rfl, ((Below.refl _ w).alloc (Nat.le_refl _) _).alloc (by simp) _⟩
def KpL (H X : Nat) (W W' : World) : Prop := Below 0 W W' /\ ∀ i, i < H -> i ≠ X -> W'.heap[i]? = W.heap[i]?
theorem KpL.r (H X : Nat) (W : World) : KpL H X W W := ⟨Below.refl _ _, fun _ _ _ => rfl⟩
theorem KpL.t {H X : Nat} {A B C : World} (h : KpL H X A B) (k : KpL H X B C) : KpL H X A C := ⟨h.1.trans k.1, fun i hi hx => (k.2 i hi hx).trans (h.2 i hi hx)⟩
theorem KpL.of_below {H H' X : Nat} {W W' : World} (h : Below H' W W') (hH : H <= H') : KpL H X W W' := ⟨h.mono (Nat.zero_le _), fun i hi _ => h.block i (by omega)⟩
theorem KpL.blok {H X : Nat} {W W' : World} (h : KpL H X W W') {B : Nat} {t : TypeId} {cs : Array Value} (hb : Blok W B t cs) (hB : B < H) (hx : B ≠ X) : Blok W' B t cs := (h.2 B hB hx).trans hb
def Far {α : Type} (H X : Nat) (a : Option Addr) (l : List α) : Prop := l = [] \/ ∀ x, a = some x -> x.block < H /\ x.block ≠ X
theorem RIn.far {α : Type} [L.Rec α] {w : World} {a : Option Addr} {n c : Nat} {l : List α} (h : RIn w a n c l) {H X : Nat} (hH : w.heap.size <= H) (hX : l = [] \/ ∀ x, a = some x -> x.block ≠ X) : Far H X a l := by
 rcases h.2.2.2 with h0 | ⟨b, off, rfl, hlt, _⟩
 ·exact .inl h0
 rcases hX with h0 | hX
 ·exact .inl h0
 ·exact .inr fun x hx => ⟨by cases hx; show b < H; omega, hX x hx⟩
theorem RIn.off {α : Type} [L.Rec α] {w : World} {a : Option Addr} {n c : Nat} {l : List α} (h : RIn w a n c l) {X : Nat} (hX : w.heap.size <= X) : l = [] \/ ∀ x, a = some x -> x.block ≠ X := by
 rcases h.2.2.2 with h0 | ⟨b, off, rfl, hlt, _⟩
 ·exact .inl h0
 ·exact .inr fun x hx => by cases hx; show b ≠ X; omega
theorem KpL.mono {H H' X : Nat} {W W' : World} (h : KpL H X W W') (hH : H' <= H) : KpL H' X W W' := ⟨h.1, fun i hi hx => h.2 i (by omega) hx⟩
theorem KpL.rin {α : Type} [L.Rec α] {H X : Nat} {W W' : World} (h : KpL H X W W') {a : Option Addr} {n c : Nat} {l : List α} (hr : RIn W a n c l) (ha : Far H X a l) : RIn W' a n c l := by
 refine ⟨hr.1, hr.2.1, hr.2.2.1, ?_⟩
 rcases hr.2.2.2 with h0 | ⟨b, off, rfl, hlt, hc⟩
 ·exact .inl h0
 rcases ha with h0 | ha
 ·exact .inl h0
 ·have hb := ha _ rfl
  refine .inr ⟨b, off, rfl, Nat.lt_of_lt_of_le hlt h.1.size, fun i x hi j u hj => ?_⟩
  have he : ∀ o, W'.cell? ⟨b, o, none⟩ = W.cell? ⟨b, o, none⟩ := fun o => by unfold World.cell?; rw [h.2 b hb.1 hb.2]
  rw [he]; exact hc i x hi j u hj
def Asks (H X : Nat) (f : FuncId) (lb : Array Value) (p : L.T3 -> Bool) (W0 : World) : Prop :=
 ∀ W, KpL H X W0 W -> ∀ x, Calls Tryz.prog f (#[L.val3 x] ++ lb) W fun e w' => e = .returned (.bool (p x)) /\ Below W.heap.size W w'
theorem Asks.mono {H H' X : Nat} {f : FuncId} {lb : Array Value} {p : L.T3 -> Bool} {W0 : World} (h : Asks H X f lb p W0) (hH : H <= H') : Asks H' X f lb p W0 := fun W hW x => h W (hW.mono hH) x
theorem Asks.on {H X : Nat} {f : FuncId} {lb : Array Value} {p : L.T3 -> Bool} {W0 W1 : World} (h : Asks H X f lb p W0) (hb : KpL H X W0 W1) : Asks H X f lb p W1 := fun W hW x => h W (hb.t hW) x
open Go.RowKit
theorem zmw (B : Nat) (a b : Int) (W0 : World) (hB : Blok W0 B 183 #[.int .i64 a, .int .i64 b]) (H X : Nat) (hH : B < H) (hX : B ≠ X) : Asks H X 263 #[.pointer (some ⟨B, 0, none⟩)] (fun x => L.isOf a b x) W0 := by
 intro W hW x
 have HB := Zh (hW.blok hB hH hX)
 obtain ⟨r, hr⟩ : ∃ r, L.isOf a b x = r := ⟨_, rfl⟩
 have c1 := fun V => zgs x a b r hr V
 have HR := Zh hr
 clear hB hW hr hH hX
 obtain ⟨V, hV⟩ : ∃ V, W.alloc (.cells #[.int .i64 x.a, .int .i64 x.b, .int .i64 x.x] 266) = V := ⟨_, rfl⟩
 have HV : Hid (Below W.heap.size W V) := Zh (by rw [<- hV]; exact (Below.refl _ W).alloc (Nat.le_refl _) _)
 have b0 := Zv (HB.out.below HV.out HB.out.lt) 0 (.int .i64 a)
 have b1 := Zv (HB.out.below HV.out HB.out.lt) 1 (.int .i64 b)
 have x0 : V.cell? ⟨W.heap.size, 0, none⟩ = some (.int .i64 x.a) := by rw [<- hV]; exact (Blok.new W _ _).cell 0
 have x1 : V.cell? ⟨W.heap.size, 1, none⟩ = some (.int .i64 x.b) := by rw [<- hV]; exact (Blok.new W _ _).cell 1
 unfold L.val3
 go_enter Tryz.func263, Tryz.ntmps263
 go_wp2_with fail
 refine (c1 _).mono ?_
 rintro e w2 ⟨rfl, hb2⟩
 have HB2 := Zt HV hb2
 clear c1 hb2
 go_wp2
 go_ret
 exact ⟨by rw [HR.out]; rfl, HB2.out⟩
theorem of1 (B : Nat) (a : Int) (W0 : World) (hB : Blok W0 B 3 #[.int .i64 a]) (H X : Nat) (hH : B < H) (hX : B ≠ X) : Asks H X 296 #[.pointer (some ⟨B, 0, none⟩)] (fun x => (x.x == a)) W0 := by
 intro W hW x
 have HB := Zh (hW.blok hB hH hX)
 obtain ⟨r, hr⟩ : ∃ r, (x.x == a) = r := ⟨_, rfl⟩
 have HR : Hid ((x.x == a) = r) := Zh hr
 clear hB hW hH hX
 obtain ⟨V, hV⟩ : ∃ V, W.alloc (.cells #[.int .i64 x.a, .int .i64 x.b, .int .i64 x.x] 266) = V := ⟨_, rfl⟩
 have HV : Hid (Below W.heap.size W V) := Zh (by rw [<- hV]; exact (Below.refl _ W).alloc (Nat.le_refl _) _)
 have b0 := Zv (HB.out.below HV.out HB.out.lt) 0 (.int .i64 a)
 have x0 : V.cell? ⟨W.heap.size, 2, none⟩ = some (.int .i64 x.x) := by rw [<- hV]; exact (Blok.new W _ _).cell 2
 unfold L.val3
 go_enter Tryz.func296, Tryz.ntmps296
 go_wp2_with fail
 go_ret
 exact ⟨by rw [HR.out]; rfl, HV.out⟩
open Go.RowKit
theorem L.map_snoc {l : List L.Ls} {j : Nat} {x : L.Ls} (hx : l[j]? = some x) : (l.take (j + 1)).map L.had = (l.take j).map L.had ++ [L.had x] := by
 obtain ⟨h0, h1⟩ := List.getElem?_eq_some_iff.1 hx
 rw [List.take_succ_eq_append_getElem h0, List.map_append, h1]; rfl
theorem zg9 (a : Option Addr) (n c : Nat) (l : List L.Ls) (w : World) (h : RIn w a n c l) (hn : n <= 1000) :
  Calls Tryz.prog 262 #[.slice a n c] w fun e w' => ∃ v, e = .returned v /\ Hid (w'.ownsRow w.heap.size 266 3 v n (L.flat (l.map L.had))) /\ Below w.heap.size w w' := by
 have HT := Zh h
 clear h
 go_enter Tryz.func262, Tryz.ntmps262
 go_wp2_with fail
 go_loopw [3, 8] (fun s3 s8 wx => ∃ (v : Value) (j : Nat), v = s3 /\ s8 = .int .i64 j /\ j <= n /\ Hid (wx.ownsRow w.heap.size 266 3 v j (L.flat ((l.take j).map L.had))) /\ Hid (Below w.heap.size w wx)) (fun _ i _ => n - (intOf i).toNat)
 case atStart => exact ⟨_, 0, rfl, by go_num, by omega, Zh (World.ownsRow_nil _ _ _ _), Zh (Below.refl _ _)⟩
 case round =>
  obtain ⟨v, j, rfl, rfl, hjn, HO, HB⟩ := hrel
  by_cases hlt : j < n
  ·have dj : decide ((j : Int) < n) = true := by simp; omega
   obtain ⟨b, off, x, rfl, hbl, hx, p0, p1, p2, p3, p4⟩ := (HT.out.below HB.out).at5 hlt
   have j0 : (0 : Int) <= j := by omega
   have j1 : (j : Int) < n := by omega
   have HS := Zh (L.map_snoc hx)
   clear hx
   have TB : Hid (Below wr.heap.size wr (wr.alloc (.cells #[.int .i64 x.s, .int .i64 x.a, .int .i64 x.b, .int .i64 x.f, .int .i64 x.t] 104))) := Zh ((Below.refl _ wr).alloc (Nat.le_refl _) _)
   have TK : Hid (Blok (wr.alloc (.cells #[.int .i64 x.s, .int .i64 x.a, .int .i64 x.b, .int .i64 x.f, .int .i64 x.t] 104)) wr.heap.size 104 #[.int .i64 x.s, .int .i64 x.a, .int .i64 x.b, .int .i64 x.f, .int .i64 x.t]) := Zh (Blok.new _ _ _)
   have HBt := Zh (HB.out.trans (TB.out.mono HB.out.size))
   have HOt := Zh (zab HO.out TB.out)
   obtain ⟨acc, hacc⟩ : ∃ acc, (l.take j).map L.had = acc := ⟨_, rfl⟩
   rw [hacc] at HOt HS
   clear hacc
   go_upto_region 5 with fail
   obtain ⟨V, hV⟩ : ∃ V, wr.alloc (.cells #[.int .i64 x.s, .int .i64 x.a, .int .i64 x.b, .int .i64 x.f, .int .i64 x.t] 104) = V := ⟨_, rfl⟩
   rw [hV] at HOt HBt TK ⊢
   clear hV TB p0
   have t0 := Blok.cell TK.out 0
   have t1 := Blok.cell TK.out 1
   have t2 := Blok.cell TK.out 2
   simp only [List.getElem?_toArray, List.getElem?_cons_zero, List.getElem?_cons_succ] at t0 t1 t2
   go_wp2_with (at_builtin; refine zaw (α := L.T3) rfl (.tmp 12) (.tmp 21) 267 266 rfl _ 24 Tryz.underlying267 zh9 rfl (by decide) w.heap.size v j acc (L.had x) (by simp [Act.eval]) (zab HOt.out ((Below.refl _ V).alloc (Nat.le_refl _) _)) V.heap.size 266 (by simp [Act.eval]) (Blok.new V _ _) (by omega) (by have := HBt.out.size; simp; omega) ?_; intro g cap w3 h1 h2 h3 h4)
   have HB3 : Hid (Below w.heap.size w w3) := Zh ((HBt.out.alloc HBt.out.size _).grown h2 (Nat.le_trans HBt.out.size (by simp)) (fun i hi => (HOt.out.lt i hi).1))
   have H1 := Zh h1
   clear h1 h2 h3 h4
   go_wp2
   go_roundw
   case rel => exact ⟨_, j + 1, rfl, by go_num, by omega, by rw [HS.out]; exact H1, HB3⟩
   case measure => simp [intOf] <;> omega
  ·have dj : decide ((j : Int) < n) = false := by simp; omega
   obtain rfl : j = n := by omega
   have HE : Hid (l.take j = l) := Zh (List.take_of_length_le (by rw [HT.out.1]; omega))
   rw [HE.out] at HO
   go_wp2
   go_ret
   exact ⟨_, rfl, HO, HB.out⟩
theorem zco (a : Option Addr) (n c : Nat) (l : List L.Ls) (w : World) (h : RIn w a n c l) (hn : n <= 1000) :
  Calls Tryz.prog 262 #[.slice a n c] w fun e w' => ∃ a2 c2, e = .returned (.slice a2 n c2) /\ Hid (RIn w' a2 n c2 (l.map L.had)) /\ Below w.heap.size w w' /\ Hid (∀ x, a2 = some x -> w.heap.size <= x.block) := by
 refine (zg9 a n c l w h hn).mono ?_
 rintro e w' ⟨v, rfl, ho, hb⟩
 obtain ⟨a2, c2, rfl, ht⟩ := zdl ho.out (by have := h.1; simpa using this)
 exact ⟨a2, c2, rfl, Zh ht, hb, Zh (fun x hx => (ho.out.lt x.block (by rw [hx]; rfl)).1)⟩
open Go.RowKit Go.Shelf
attribute [local go_sem] Oper.semAt_some
abbrev encL {n : Nat} (x : Fin n) : Array Value := #[.int .i64 (x.val : Int)]
def zdm (F : FuncId) (lb : Array Value) (H X m : Nat) (ys : List (Fin m)) (w : World) : Prop :=
 ∀ n, 4 <= n -> SeqStopsK Fence.wide n Tryz.prog F lb (fun x : Fin m => encL x) (KpL H X) (fun l => l = ys) (fun pre => pre <+: ys) (m + 1) w
theorem zli (n r Bl Bf H X : Nat) (hn : 4 <= n) (a : Option Addr) (m c : Nat) (l : List L.T3) (g : FuncId) (hE : Enters Tryz.prog g) (lb : Array Value) (p : L.T3 -> Bool) (J Jx : List (Fin l.length) -> World -> Prop)
  (hJ : ∀ W W' pre, Below W.heap.size W W' -> J pre W -> J pre W')
  (hY : ∀ pre x W, J pre W -> pre.length < l.length + 1 -> YieldAt Fence.wide (n - 1) Tryz.prog r (encL x) W fun e W' =>
   (e = .returned (.bool true) /\ J (pre ++ [x]) W' /\ KpL H X W W') \/ (e = .returned (.bool false) /\ Jx (pre ++ [x]) W'))
  (W : World) (hBl : Blok W Bl 267 #[.slice a m c]) (hBf : Blok W Bf 270 #[.func (.func g) #[] lb]) (hr : RIn W a m c l) (hA : Asks H X g lb p W)
  (hH : H <= W.heap.size) (hBfH : Bf < H /\ Bf ≠ X) (haH : Far H X a l) (h0 : J [] W) :
  CallsIn Fence.wide n Tryz.prog 299 #[.func (.yield r) #[] #[], .pointer (some ⟨Bl, 0, none⟩), .pointer (some ⟨Bf, 0, none⟩)] W fun e W' => (∃ v, e = .returned v) /\
   ((∃ ys, ys = L.pl p l /\ J ys W') \/ (∃ pre, pre <+: L.pl p l /\ Jx pre W')) := by
 have hf1 : Fence.wide.fn 299 := trivial
 have hro : Fence.wide.round = none := rfl
 have hfg : Fence.wide.fn g := trivial
 have HBf := Zh hBf
 have HR := Zh hr
 have HA := Zh hA
 have c0 := Zv hBl 0 (.slice a m c)
 have h1 : 1 <= n := by omega
 have h2 : 1 <= n - 1 := by omega
 have h3 : 1 <= n - 1 - 1 := by omega
 have hlm : l.length = m := hr.1
 have hmx : m <= 9223372036854775807 := by have := hr.2.1; unfold maxLen at this; omega
 clear hBl hBf hr hA
 refine callsIn_of_wp Tryz.func299 rfl hf1 ?_ hro
 simp only [Tryz.ntmps299, List.size_toArray, List.length_cons, List.length_nil, Nat.reduceAdd, Nat.reduceSub, Array.replicate_succ, Array.replicate_zero, List.push_toArray, List.append_toArray, List.nil_append, List.cons_append]
 gi_wp2_with fail
 gi_loopw [8] (fun i wr => ∃ k : Nat, i = .int .i64 k /\ k <= m /\ Hid (J (L.plTo p l k) wr) /\ Hid (KpL H X W wr)) (fun i _ => m - (intOf i).toNat)
 case atStart => exact ⟨0, rfl, by omega, Zh (by rw [L.plTo_zero]; exact h0), Zh (KpL.r _ _ _)⟩
 case round =>
  obtain ⟨k, rfl, hk, HJ, HK⟩ := hrel
  by_cases hlt : k < m
  ·have dk : decide ((k : Int) < m) = true := by simp; omega
   obtain ⟨b, off, x, hab, hbl, hx, p0, p1, p2⟩ := (HK.out.rin HR.out haH).at3 hlt
   subst hab
   have k0 : (0 : Int) <= k := by omega
   have k1 : (k : Int) < m := by omega
   have hkl : k < l.length := by omega
   have hxe : l[k]'hkl = x := (List.getElem?_eq_some_iff.1 hx).2
   have TB : Hid (Below wr.heap.size wr (wr.alloc (.cells #[.int .i64 x.a, .int .i64 x.b, .int .i64 x.x] 266))) := Zh ((Below.refl _ wr).alloc (Nat.le_refl _) _)
   have TK : Hid (Blok (wr.alloc (.cells #[.int .i64 x.a, .int .i64 x.b, .int .i64 x.x] 266)) wr.heap.size 266 #[.int .i64 x.a, .int .i64 x.b, .int .i64 x.x]) := Zh (Blok.new _ _ _)
   have hHw : H <= wr.heap.size := Nat.le_trans hH HK.out.1.size
   have HJt := Zh (hJ _ _ _ TB.out HJ.out)
   have HKt := Zh (HK.out.t (KpL.of_below TB.out hHw))
   obtain ⟨V, hV⟩ : ∃ V, wr.alloc (.cells #[.int .i64 x.a, .int .i64 x.b, .int .i64 x.x] 266) = V := ⟨_, rfl⟩
   rw [hV] at TB TK HJt HKt
   have hfb : V.cell? ⟨Bf, 0, none⟩ = some (.func (.func g) #[] lb) := Blok.cell (HKt.out.blok HBf.out hBfH.1 hBfH.2) 0
   have t0 := Zv TK.out 0 (.int .i64 x.a)
   have t1 := Zv TK.out 1 (.int .i64 x.b)
   have t2 := Zv TK.out 2 (.int .i64 x.x)
   have hsV : H <= V.heap.size := Nat.le_trans hH HKt.out.1.size
   obtain ⟨u, hu⟩ : ∃ u, p x = u := ⟨_, rfl⟩
   have ca := HA.out V HKt.out x
   rw [hu] at ca
   unfold L.val3 at ca
   have he := hE (#[.agg #[.int .i64 x.a, .int .i64 x.b, .int .i64 x.x]] ++ lb) V
   have HX := Zh hxe
   have HU := Zh hu
   have HaH := Zh haH
   have HBfH := Zh hBfH
   clear hx hxe hu TB TK HK HJ haH hBfH
   gi_wp2_with fail
   refine (callsIn_wide.2 ca).mono ?_
   rintro e w2 ⟨rfl, hb2⟩
   have HJ2 := Zh (hJ _ _ _ hb2 HJt.out)
   have HK2 := Zh (HKt.out.t (KpL.of_below hb2 hsV))
   clear hb2 ca he t0 t1 t2 hfb HJt HKt
   cases u with
   | true =>
    have hp : p (l[k]'hkl) = true := by rw [HX.out, HU.out]
    have HS := Zh (L.plTo_yes (p := p) hkl hp)
    have hlen : (L.plTo p l k).length < l.length + 1 := by have := L.plTo_len p l k; omega
    obtain ⟨fn, tmps, assign, body, hy, hR⟩ := hY (L.plTo p l k) ⟨k, hkl⟩ w2 HJ2.out hlen
    dsimp only [encL] at hy
    clear hlen hp
    gi_wp2
    refine hR.mono ?_
    rintro e3 W3 (⟨rfl, hJ3, hk3⟩ | ⟨rfl, hx3⟩)
    ·have HJ3 := Zh hJ3
     have HK3 := Zh (HK2.out.t hk3)
     clear hJ3 hk3 hR hy
     gi_wp2
     go_roundw
     case rel => exact ⟨k + 1, by go_num, by omega, Zh (by rw [HS.out]; exact HJ3.out), HK3⟩
     case measure => simp [intOf] <;> omega
    ·have HX3 := Zh hx3
     clear hx3 hR hy
     gi_wp2
     refine bodyPost_ret (results_none rfl _ _ _) rfl ?_
     exact ⟨⟨_, rfl⟩, .inr ⟨_, by rw [<- HS.out]; exact L.plTo_prefix _ _ _, HX3.out⟩⟩
   | false =>
    have hp : p (l[k]'hkl) = false := by rw [HX.out, HU.out]
    have HS := Zh (L.plTo_no (p := p) hkl hp)
    clear hp
    gi_wp2
    refine ⟨by simp, ?_⟩
    gi_wp2
    go_roundw
    case rel => exact ⟨k + 1, by go_num, by omega, Zh (by rw [HS.out]; exact HJ2.out), HK2⟩
    case measure => simp [intOf] <;> omega
  ·have dk : decide ((k : Int) < m) = false := by simp; omega
   have HE : Hid (L.plTo p l k = L.pl p l) := Zh (L.plTo_all (by omega))
   gi_wp2
   go_end0
   exact ⟨⟨_, rfl⟩, .inl ⟨_, HE.out, HJ.out⟩⟩
theorem zib (Bl Bf H X : Nat) (a : Option Addr) (m c : Nat) (l : List L.T3) (g : FuncId) (hE : Enters Tryz.prog g) (lb : Array Value) (p : L.T3 -> Bool) (w : World) (hBl : Blok w Bl 267 #[.slice a m c]) (hBf : Blok w Bf 270 #[.func (.func g) #[] lb]) (hr : RIn w a m c l) (hA : Asks H X g lb p w)
  (hH : H <= w.heap.size) (hBfH : Bf < H /\ Bf ≠ X) (haH : Far H X a l) : zdm 299 #[.pointer (some ⟨Bl, 0, none⟩), .pointer (some ⟨Bf, 0, none⟩)] H X l.length (L.pl p l) w := by
 intro n hn r J Jx W hW hJ _ hY h0
 exact zli n r Bl Bf H X hn a m c l g hE lb p J Jx (fun W1 W2 pre hb hj => hJ pre W1 W2 none hj (L.below_none hb) (fun r e => by cases e)) hY W (hBl.below hW hBl.lt) (hBf.below hW hBf.lt) (hr.below hW) (hA.on (KpL.of_below hW hH)) (Nat.le_trans hH hW.size) hBfH haH h0
theorem zj3 (a : Option Addr) (m c : Nat) (g : FuncId) (lb : Array Value) (w : World) :
  Calls Tryz.prog 261 #[.slice a m c, .func (.func g) #[] lb] w fun e w' => e = .returned (.func (.func 299) #[] #[.pointer (some ⟨w.heap.size, 0, none⟩), .pointer (some ⟨w.heap.size + 1, 0, none⟩)]) /\ w' = (w.alloc (.cells #[.slice a m c] 267)).alloc (.cells #[.func (.func g) #[] lb] 270) := by
 go_enter Tryz.func261, Tryz.ntmps261
 go_wp2
 go_ret
 exact ⟨rfl, rfl⟩
theorem zgd (X : Nat) (a : Option Addr) (m c : Nat) (l : List L.T3) (g : FuncId) (hE : Enters Tryz.prog g) (lb : Array Value) (p : L.T3 -> Bool) (w : World) (hr : RIn w a m c l) (hA : Asks w.heap.size X g lb p w)
  (hX : X ≠ w.heap.size /\ X ≠ w.heap.size + 1) (haH : l = [] \/ ∀ x, a = some x -> x.block ≠ X) :
  Calls Tryz.prog 261 #[.slice a m c, .func (.func g) #[] lb] w fun e w' => ∃ bl, e = .returned (.func (.func 299) #[] bl) /\ zdm 299 bl (w.heap.size + 2) X l.length (L.pl p l) w' /\ Below w.heap.size w w' /\ w'.heap.size = w.heap.size + 2 := by
 refine (zj3 a m c g lb w).mono ?_
 rintro e w' ⟨rfl, rfl⟩
 have hb : Below w.heap.size w ((w.alloc (.cells #[.slice a m c] 267)).alloc (.cells #[.func (.func g) #[] lb] 270)) := ((Below.refl _ w).alloc (Nat.le_refl _) _).alloc (by simp) _
 have h1 := (Blok.new w 267 #[.slice a m c]).alloc (.cells #[.func (.func g) #[] lb] 270)
 have h2 := Blok.new (w.alloc (.cells #[.slice a m c] 267)) 270 #[.func (.func g) #[] lb]
 rw [World.size_alloc] at h2
 refine ⟨_, rfl, zib w.heap.size (w.heap.size + 1) (w.heap.size + 2) X a m c l g hE lb p _ h1 h2 (hr.below hb) ((hA.on (KpL.of_below hb (Nat.le_refl _))).mono (by omega)) (by simp) ⟨by omega, fun e => hX.2 e.symm⟩ (hr.far (by omega) haH), hb, by simp⟩
end Go.Proofs.YtnbkkjcmblfhpaaGreat
