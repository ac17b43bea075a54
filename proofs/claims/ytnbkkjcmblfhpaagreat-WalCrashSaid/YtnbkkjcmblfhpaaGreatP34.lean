import Derived.OpenShut
import Derived.ChangeOld
import Derived.Lib.SmallJoins
import Derived.Deep.Slices
import Derived.Deep.SlicePairs
import Derived.DataShut
import Derived.SizedLaws
import Derived.Test.YtnbkkjcmblfhpaaGreatP31
import Derived.Test.YtnbkkjcmblfhpaaGreatP2
import Derived.Test.YtnbkkjcmblfhpaaGreatP10
import Derived.Test.YtnbkkjcmblfhpaaGreatP1
import Derived.Test.YtnbkkjcmblfhpaaGreatP8
namespace Go.Proofs.YtnbkkjcmblfhpaaGreat
set_option maxRecDepth 100000
open Go.RowKit Go.ChangeShapes Go.WideShapes Go.Joins Go.Deep
section
variable {H : Type} {enc : TypeId × Value -> H} {W : World} {held : Bool}
theorem zx2 {fuel : Nat} {v : Value} {y : DataW H × List MemPlace} (h : DataW.trod enc Tryz.prog W 0 (fun _ => true) held fuel 51 [v] = some y) : ∃ a len cap zs, v = .slice a len cap /\ zsp .u8 W a len cap zs := by
 rcases open_ints Tryz.underlying51 Tryz.underlying5 (by kernel_rfl) h with ⟨hcs, _⟩ | ⟨x, l, c, zs, hcs, _, hl, hm, hz, _, hcell, hwz⟩
 ·simp at hcs
  exact ⟨none, 0, 0, [], hcs, .inl ⟨rfl, rfl, rfl, rfl⟩⟩
 ·simp at hcs
  exact ⟨some x, l, c, zs, hcs, .inr ⟨_, rfl, hl, hm, by simpa using hz, hcell, hwz⟩⟩
theorem zyl {fuel : Nat} {v : Value} {y : DataW H × List MemPlace} (h : DataW.trod enc Tryz.prog W 0 (fun _ => true) held fuel 22 [v] = some y) : ∃ a n c xs, v = .slice a n c /\ zf0 W a n c xs := by
 rcases open_slice Tryz.underlying22 h with ⟨hcs, _⟩ | ⟨x, len, cap, m, n, D0, Pl, hcs, _, hl, hm, hmm, _, hx⟩
 ·simp only [List.cons.injEq, and_true] at hcs
  exact ⟨none, 0, 0, [], hcs, zf0.empty W⟩
 ·simp only [List.cons.injEq, and_true] at hcs
  have hml : m = cap := by simpa using hmm
  subst hml
  have each : ∀ i, ∃ z : FP, i < len -> (∀ j u, (FP.cells z)[j]? = some u -> W.cell? (x.add (i * 3 + j)) = some u) /\ FP.ok W z := by
   intro i
   by_cases hi : i < len
   ·obtain ⟨cs', h1, h2⟩ := hx i (by omega)
    have hce : Tryz.prog.cellsOf 53 = 3 := by kernel_rfl
    rw [hce] at h1
    obtain ⟨_, hlen, hcell⟩ := World.cells?_some h1
    obtain ⟨ys, q, _, _, _, hyl, hf⟩ := DataW.trod_struct Tryz.underlying53 h2
    match ys, hyl, cs', hlen with
    | [y0, y1, y2], _, [v0, v1, v2], _ =>
     have g0 : DataW.trod enc Tryz.prog W 0 (fun _ => true) held q 3 [v0] = some y0 := hf 0 _ rfl
     have g1 : DataW.trod enc Tryz.prog W 0 (fun _ => true) held q 51 [v1] = some y1 := hf 1 _ rfl
     have g2 : DataW.trod enc Tryz.prog W 0 (fun _ => true) held q 3 [v2] = some y2 := hf 2 _ rfl
     obtain ⟨no, e0, _, _⟩ := DataW.trod_int (k := .i64) Tryz.underlying3 g0
     obtain ⟨s, e2, _, _⟩ := DataW.trod_int (k := .i64) Tryz.underlying3 g2
     obtain ⟨a', n', c', zs, e1, hr⟩ := zx2 g1
     simp only [List.cons.injEq, and_true] at e0 e2
     subst e0 e1 e2
     obtain ⟨r1, r2⟩ := hr.rowIn
     refine ⟨⟨no, a', n', c', zs.take n', s⟩, fun _ => ⟨fun j u hu => ?_, r2, r1, hr.nil⟩⟩
     have hj : j < 3 := (List.getElem?_eq_some_iff.1 hu).1
     have h3 := hcell j hj
     rw [add_add] at h3
     rw [h3]
     exact hu
   ·exact ⟨⟨0, none, 0, 0, [], 0⟩, fun h => absurd h hi⟩
  obtain ⟨f, hf⟩ := Classical.axiomOfChoice each
  have hflat : ∀ (l : Nat) (i : Nat) (u : Value), (FP.flat ((List.range l).map f))[i]? = some u -> i / 3 < l /\ (FP.cells (f (i / 3)))[i % 3]? = some u := by
   intro l
   induction l with
   | zero => intro i u hu; simp [FP.flat] at hu
   | succ l ih =>
    intro i u hu
    rw [List.range_succ, List.map_append, FP.flat_append] at hu
    have hlen : (FP.flat ((List.range l).map f)).length = l * 3 := by rw [FP.flat_len]; simp
    by_cases hi : i < l * 3
    ·rw [List.getElem?_append_left (by rw [hlen]; exact hi)] at hu
     obtain ⟨h1, h2⟩ := ih i u hu
     exact ⟨by omega, h2⟩
    ·rw [List.getElem?_append_right (by rw [hlen]; omega), hlen] at hu
     have hc : FP.flat ([l].map f) = FP.cells (f l) := by simp [FP.flat]
     rw [hc] at hu
     have h3 : i - l * 3 < 3 := (List.getElem?_eq_some_iff.1 hu).1
     have e1 : i / 3 = l := by omega
     have e2 : i % 3 = i - l * 3 := by omega
     rw [e1, e2]
     exact ⟨by omega, hu⟩
  refine ⟨some x, len, m, (List.range len).map f, hcs, by simp, ⟨⟨by simp; omega, hm⟩, ?_, ?_⟩, fun h => by cases h⟩
  ·intro y hy
   obtain ⟨i, hi, rfl⟩ := List.mem_map.1 hy
   exact (hf i (List.mem_range.1 hi)).2
  ·by_cases h0 : len = 0
   ·exact .inl (by simp [h0])
   ·have c0 := (hf 0 (by omega)).1 0 _ rfl
    obtain ⟨b, off, spot⟩ := x
    have hspot : spot = none := by simpa [Addr.add] using World.cell?_spot c0
    subst hspot
    rw [WideShapes.add_plain] at c0
    refine .inr ⟨b, off, rfl, World.block_lt_of_cell? (a := ⟨b, off + (0 * 3 + 0), none⟩) _ c0, fun i u hu => ?_⟩
    obtain ⟨h1, h2⟩ := hflat len i u hu
    have h3 := (hf (i / 3) h1).1 (i % 3) u h2
    rw [WideShapes.add_plain, show i / 3 * 3 + i % 3 = i by omega] at h3
    exact h3
end
end Go.Proofs.YtnbkkjcmblfhpaaGreat
namespace Go.Proofs.YtnbkkjcmblfhpaaGreat
open Go.RowKit Go.ChangeShapes Go.WideShapes Go.Deep
section
variable {H : Type} {enc : TypeId × Value -> H} {P : Program} {w : World} {base : Nat} {spare : Nat -> Bool} {held : Bool}
def zft (P : Program) (fs : Array Field) : Bool := (List.range fs.size).all fun j => match fs[j]? with
 | some f => f.offset == j && P.cellsOf f.type == 1 && (match P.underlying f.type with | some (.int .i64) => true | _ => false)
 | none => false
theorem zfu {P : Program} {fs : Array Field} (h : zft P fs = true) (j : Nat) (f : Field) (hj : fs[j]? = some f) : f.offset = j /\ P.cellsOf f.type = 1 /\ P.underlying f.type = some (.int .i64) := by
 have h1 := List.all_eq_true.1 h j (List.mem_range.2 (Array.getElem?_eq_some_iff.1 hj).1)
 rw [hj] at h1
 simp only [Bool.and_eq_true, beq_iff_eq] at h1
 refine ⟨h1.1.1, h1.1.2, ?_⟩
 have h2 := h1.2
 split at h2
 ·assumption
 ·cases h2
theorem zlb {z : Int} (h : (Lit.int .i64 z).wf = true) : -9223372036854775808 <= z /\ z <= 9223372036854775807 := (Lit.wf_int_iff .i64 z).1 h
theorem zax {t e : TypeId} {fs : Array Field} {fuel : Nat} {cs : List Value} {x : DataW H × List MemPlace} (ht : P.underlying t = some (.slice e)) (he : P.underlying e = some (.struct fs)) (K : Nat) (hk : fs.size = K) (ce : P.cellsOf e = K)
  (hfs0 : zft P fs = true) (h : DataW.trod enc P w base spare held fuel t cs = some x) :
  cs = [.slice none 0 0] \/ ∃ (a : Addr) (len cap : Nat) (f : Nat -> Nat -> Int), cs = [.slice (some a) len cap] /\ len <= cap /\ cap <= maxLen /\
   ∀ i, i < len -> ∀ j, j < K -> w.cell? (a.add (i * K + j)) = some (.int .i64 (f i j)) /\ (Lit.int .i64 (f i j)).wf = true := by
 subst hk
 have hfs := zfu hfs0
 rcases open_slice ht h with ⟨rfl, _⟩ | ⟨a, len, cap, m, n, D, Pl, rfl, hb, hl, hm, hmm, rfl, hx⟩
 ·exact .inl rfl
 right
 have hlm : len <= m := by rw [hmm]; split <;> omega
 have each : ∀ i j, ∃ z : Int, i < len -> j < fs.size -> w.cell? (a.add (i * fs.size + j)) = some (.int .i64 z) /\ (Lit.int .i64 z).wf = true := by
  intro i j
  by_cases hi : i < len
  ·by_cases hj : j < fs.size
   ·obtain ⟨cs', h1, h2⟩ := hx i (by omega)
    rw [ce] at h1
    obtain ⟨_, hlen, hcell⟩ := World.cells?_some h1
    obtain ⟨xs, k, _, _, _, hxl, hf⟩ := DataW.trod_struct he h2
    have hjf := Array.getElem?_eq_getElem hj
    obtain ⟨o0, c0, u0⟩ := hfs j _ hjf
    have g0 := hf j _ hjf
    rw [List.getElem?_eq_getElem (by omega), o0, c0] at g0
    obtain ⟨z, hz, _, hw⟩ := DataW.trod_int u0 g0
    have e0 := hcell j (by omega)
    rw [add_add] at e0
    have hz' : cs'[j]? = some (.int .i64 z) := by
     have := congrArg (fun l : List Value => l[0]?) hz
     simpa [List.getElem?_drop] using this
    exact ⟨z, fun _ _ => ⟨by rw [e0, hz'], hw⟩⟩
   ·exact ⟨0, fun _ h => absurd h hj⟩
  ·exact ⟨0, fun h => absurd h hi⟩
 obtain ⟨f, hf⟩ := Classical.axiomOfChoice fun i => Classical.axiomOfChoice (each i)
 exact ⟨a, len, cap, f, rfl, hl, hm, fun i hi j hj => hf i j hi hj⟩
end
open Go.RowKit
open Go.ChangeShapes Go.WideShapes Go.Joins
section
variable {H : Type} {enc : TypeId × Value -> H} {W : World} {held : Bool}
theorem zjq {fuel : Nat} {v : Value} {y : DataW H × List MemPlace} (h : DataW.trod enc Tryz.prog W 0 (fun _ => true) held fuel 3 [v] = some y) : ∃ k : Int, v = .int .i64 k /\ -9223372036854775808 <= k /\ k <= 9223372036854775807 := by
 obtain ⟨k, hk, _, wk⟩ := DataW.trod_int (k := .i64) Tryz.underlying3 h
 simp at hk
 refine ⟨k, hk, ?_⟩
 simp [Lit.wf, IntKind.min, IntKind.max, IntKind.bits, IntKind.signed] at wk
 omega
theorem zg5 {fuel : Nat} {u v : Value} {y : DataW H × List MemPlace} (h : DataW.trod enc Tryz.prog W 0 (fun _ => true) held fuel 28 [u, v] = some y) : ∃ b k : Int, u = .int .i64 b /\ v = .int .i64 k /\ b <= 9223372036854775807 := by
 obtain ⟨y0, y1, n, hx, _, h0, h1⟩ := trod_struct2 Tryz.underlying28 h
 have z1 : Tryz.prog.cellsOf 3 = 1 := by kernel_rfl
 obtain ⟨b, rfl, _, hb⟩ := zjq (v := u) (by simpa [z1] using h0)
 obtain ⟨k, rfl, _, _⟩ := zjq (v := v) (by simpa [z1] using h1)
 exact ⟨b, k, rfl, rfl, hb⟩
end
open Go.RowKit Go.ChangeShapes Go.WideShapes Go.Joins Go.Deep
section
variable {H : Type} {enc : TypeId × Value -> H} {V : World} {held : Bool}
theorem zhv {v : Value} {d : DataW H} {p : List MemPlace} (hv : ∃ a n c, v = .slice a n c) (h : DataW.Trod enc Tryz.prog V 0 (fun _ => true) held 33 v d p) : ∃ a n c l, v = .slice a n c /\ QIn V a n c l /\ O.Sm l := by
 obtain ⟨a, n, c, rfl⟩ := hv
 obtain ⟨fuel, hf⟩ := h
 rcases zax Tryz.underlying33 Tryz.underlying170 3 rfl (by kernel_rfl) (by kernel_rfl) hf with hcs | ⟨x, len, cap, f, hcs, hl, hm, hx⟩
 ·simp [Value.cells] at hcs
  obtain ⟨rfl, rfl, rfl⟩ := hcs
  exact ⟨none, 0, 0, [], rfl, QIn.nil V, fun x hx => by cases hx⟩
 ·simp [Value.cells] at hcs
  obtain ⟨rfl, rfl, rfl⟩ := hcs
  refine ⟨some x, n, c, (List.range n).map fun i => ⟨f i 0, f i 1, f i 2⟩, rfl, ⟨by simp, ⟨hl, hm⟩, fun h => (by cases h), ?_⟩, ?_⟩
  ·by_cases h0 : n = 0
   ·exact .inl (by simp [h0])
   ·have c0 := (hx 0 (by omega) 0 (by decide)).1
    obtain ⟨b, off, spot⟩ := x
    have hspot : spot = none := by simpa [Addr.add] using World.cell?_spot c0
    subst hspot
    rw [WideShapes.add_plain] at c0
    refine .inr ⟨b, off, rfl, World.block_lt_of_cell? (a := ⟨b, off + (0 * 3 + 0), none⟩) _ c0, fun i y hi => ?_⟩
    obtain ⟨hi1, hi2⟩ := List.getElem?_eq_some_iff.1 hi
    simp at hi1 hi2
    have d0 := (hx i hi1 0 (by decide)).1
    have d1 := (hx i hi1 1 (by decide)).1
    have d2 := (hx i hi1 2 (by decide)).1
    rw [WideShapes.add_plain] at d0 d1 d2
    rw [<- hi2]
    exact ⟨d0, by rw [Nat.add_assoc]; exact d1, by rw [Nat.add_assoc]; exact d2⟩
  ·intro y hy
   obtain ⟨i, hi, rfl⟩ := List.mem_map.1 hy
   have h1 := (hx i (List.mem_range.1 hi) 0 (by decide)).2
   exact (zlb h1).2
theorem open_busy {v : Value} {d : DataW H} {p : List MemPlace} (hv : ∃ a n c, v = .slice a n c) (h : DataW.Trod enc Tryz.prog V 0 (fun _ => true) held 74 v d p) : ∃ a n c l, v = .slice a n c /\ BIn V a n c l := by
 obtain ⟨a, n, c, rfl⟩ := hv
 obtain ⟨fuel, hf⟩ := h
 rcases open_ints Tryz.underlying74 Tryz.underlying3 (by kernel_rfl) hf with ⟨hcs, _⟩ | ⟨x, l, c', zs, hcs, _, hl, hm, hz, _, hcell, hwz⟩
 ·simp [Value.cells] at hcs
  obtain ⟨rfl, rfl, rfl⟩ := hcs
  exact ⟨none, 0, 0, [], rfl, BIn.nil V⟩
 ·simp [Value.cells] at hcs
  obtain ⟨rfl, rfl, rfl⟩ := hcs
  have hr : zsp .i64 V (some x) n c zs := .inr ⟨_, rfl, hl, hm, by simpa using hz, hcell, hwz⟩
  obtain ⟨r1, r2⟩ := hr.rowIn
  exact ⟨some x, n, c, zs.take n, rfl, r2, r1⟩
end
open Go.RowKit Go.ChangeShapes Go.WideShapes Go.Joins Go.Deep
section
variable {H : Type} {enc : TypeId × Value -> H} {V : World} {held : Bool}
theorem zlc {α : Type} [L.Rec α] {x : Addr} {n c : Nat} (f : Nat -> Nat -> Int) (mk : Nat -> α) (hmk : ∀ i, L.Rec.enc (mk i) = (List.range (L.Rec.k α)).map (f i)) (hl : n <= c) (hm : c <= maxLen)
  (hx : ∀ i, i < n -> ∀ j, j < L.Rec.k α -> V.cell? (x.add (i * L.Rec.k α + j)) = some (.int .i64 (f i j)) /\ (Lit.int .i64 (f i j)).wf = true) : RIn V (some x) n c ((List.range n).map mk) := by
 have hk := L.Rec.pos (α := α)
 refine ⟨by simp, ⟨hl, hm⟩, fun h => (by cases h), ?_⟩
 by_cases h0 : n = 0
 ·exact .inl (by simp [h0])
 ·have c0 := (hx 0 (by omega) 0 hk).1
  obtain ⟨b, off, spot⟩ := x
  have hspot : spot = none := by simpa [Addr.add] using World.cell?_spot c0
  subst hspot
  rw [WideShapes.add_plain] at c0
  refine .inr ⟨b, off, rfl, World.block_lt_of_cell? (a := ⟨b, off + (0 * L.Rec.k α + 0), none⟩) _ c0, fun i y hi j u hj => ?_⟩
  obtain ⟨hi1, hi2⟩ := List.getElem?_eq_some_iff.1 hi
  simp at hi1 hi2
  have hjk : j < L.Rec.k α := by rw [<- L.cells_len y]; exact (List.getElem?_eq_some_iff.1 hj).1
  have d0 := (hx i hi1 j hjk).1
  rw [WideShapes.add_plain] at d0
  rw [<- hi2] at hj
  unfold L.cells at hj
  rw [hmk, List.map_map, List.getElem?_map, List.getElem?_range hjk] at hj
  simp at hj
  rw [<- hj, Nat.add_assoc]; exact d0
theorem zgp {v : Value} {d : DataW H} {p : List MemPlace} (hv : ∃ a n c, v = .slice a n c) (h : DataW.Trod enc Tryz.prog V 0 (fun _ => true) held 34 v d p) : ∃ a n c l, v = .slice a n c /\ RIn (α := L.Ls) V a n c l := by
 obtain ⟨a, n, c, rfl⟩ := hv
 obtain ⟨fuel, hf⟩ := h
 rcases zax Tryz.underlying34 Tryz.underlying104 5 rfl (by kernel_rfl) (by kernel_rfl) hf with hcs | ⟨x, len, cap, f, hcs, hl, hm, hx⟩
 ·simp [Value.cells] at hcs
  obtain ⟨rfl, rfl, rfl⟩ := hcs
  exact ⟨none, 0, 0, [], rfl, RIn.nil V⟩
 ·simp [Value.cells] at hcs
  obtain ⟨rfl, rfl, rfl⟩ := hcs
  exact ⟨some x, n, c, _, rfl, zlc (α := L.Ls) f (fun i => ⟨f i 0, f i 1, f i 2, f i 3, f i 4⟩) (fun i => rfl) hl hm hx⟩
theorem zhw {v : Value} {d : DataW H} {p : List MemPlace} (hv : ∃ a n c, v = .slice a n c) (h : DataW.Trod enc Tryz.prog V 0 (fun _ => true) held 35 v d p) : ∃ a n c l, v = .slice a n c /\ RIn (α := L.T3) V a n c l := by
 obtain ⟨a, n, c, rfl⟩ := hv
 obtain ⟨fuel, hf⟩ := h
 rcases zax Tryz.underlying35 Tryz.underlying135 3 rfl (by kernel_rfl) (by kernel_rfl) hf with hcs | ⟨x, len, cap, f, hcs, hl, hm, hx⟩
 ·simp [Value.cells] at hcs
  obtain ⟨rfl, rfl, rfl⟩ := hcs
  exact ⟨none, 0, 0, [], rfl, RIn.nil V⟩
 ·simp [Value.cells] at hcs
  obtain ⟨rfl, rfl, rfl⟩ := hcs
  exact ⟨some x, n, c, _, rfl, zlc (α := L.T3) f (fun i => ⟨f i 0, f i 1, f i 2⟩) (fun i => rfl) hl hm hx⟩
end
end Go.Proofs.YtnbkkjcmblfhpaaGreat
namespace Go.Proofs.YtnbkkjcmblfhpaaGreat
set_option maxRecDepth 100000
open Go.RowKit Go.ChangeShapes Go.WideShapes Go.Joins Go.Deep
theorem zmr {cs : Array Value} (h : cs.size = 9) : ∃ c0 c1 c2 c3 c4 c5 c6 c7 c8, cs = #[c0, c1, c2, c3, c4, c5, c6, c7, c8] := by
 obtain ⟨l⟩ := cs
 simp at h
 match l, h with
 | [c0, c1, c2, c3, c4, c5, c6, c7, c8], _ => exact ⟨c0, c1, c2, c3, c4, c5, c6, c7, c8, rfl⟩
theorem zm7 {cs : List Value} (h : cs.length = 9) : ∃ c0 c1 c2 c3 c4 c5 c6 c7 c8, cs = [c0, c1, c2, c3, c4, c5, c6, c7, c8] := by
 match cs, h with
 | [c0, c1, c2, c3, c4, c5, c6, c7, c8], _ => exact ⟨c0, c1, c2, c3, c4, c5, c6, c7, c8, rfl⟩
section
variable {H : Type} {enc : TypeId × Value -> H} {V : World} {held : Bool}
theorem zb1 {fuel : Nat} {v : Value} {y : DataW H × List MemPlace} (h : DataW.trod enc Tryz.prog V 0 (fun _ => true) held fuel 3 [v] = some y) : ∃ k : Int, v = .int .i64 k /\ -9223372036854775808 <= k /\ k <= 9223372036854775807 := by
 obtain ⟨k, hk, _, wk⟩ := DataW.trod_int (k := .i64) Tryz.underlying3 h
 simp at hk
 exact ⟨k, hk, zlb wk⟩
theorem zl2 {fuel : Nat} {v : Value} {y : DataW H × List MemPlace} (h : DataW.trod enc Tryz.prog V 0 (fun _ => true) held fuel 4 [v] = some y) : ∃ k : Bool, v = .bool k := by
 obtain ⟨k, hk, _⟩ := DataW.trod_bool Tryz.underlying4 h
 simp at hk
 exact ⟨k, hk⟩
theorem zld {fuel : Nat} {c0 c1 c2 c3 : Value} {y : DataW H × List MemPlace} (h : DataW.trod enc Tryz.prog V 0 (fun _ => true) held fuel 32 [c0, c1, c2, c3] = some y) : ∃ p : Y.Po, c0 = .int .i64 p.q /\ c1 = .int .i64 p.i /\ c2 = .int .i64 p.h /\ c3 = .bool p.pair := by
 obtain ⟨xs, n, -, -, -, hl, hx⟩ := DataW.trod_struct Tryz.underlying32 h
 have get : ∀ i (hi : i < 4), ∃ y, xs[i]? = some y := fun i hi => ⟨xs[i]'(by rw [hl]; exact hi), List.getElem?_eq_getElem _⟩
 obtain ⟨y0, g0⟩ := get 0 (by decide)
 obtain ⟨y1, g1⟩ := get 1 (by decide)
 obtain ⟨y2, g2⟩ := get 2 (by decide)
 obtain ⟨y3, g3⟩ := get 3 (by decide)
 have t0 := (hx 0 _ rfl).trans g0
 have t1 := (hx 1 _ rfl).trans g1
 have t2 := (hx 2 _ rfl).trans g2
 have t3 := (hx 3 _ rfl).trans g3
 obtain ⟨q, rfl, -, -⟩ := zb1 t0
 obtain ⟨i, rfl, -, -⟩ := zb1 t1
 obtain ⟨hh, rfl, -, -⟩ := zb1 t2
 obtain ⟨b, rfl⟩ := zl2 t3
 exact ⟨⟨q, i, hh, b⟩, rfl, rfl, rfl, rfl⟩
end
end Go.Proofs.YtnbkkjcmblfhpaaGreat
namespace Go.Proofs.YtnbkkjcmblfhpaaGreat
set_option maxRecDepth 100000
open Go.RowKit Go.ChangeShapes Go.WideShapes Go.Joins Go.Deep
instance : V.Rec Y.Rq := ⟨9, Y.rs, fun _ => rfl, by decide, fun x u hu => by
 simp only [Y.rs, List.mem_cons, List.not_mem_nil, or_false] at hu
 rcases hu with rfl | rfl | rfl | rfl | rfl | rfl | rfl | rfl | rfl <;> rfl⟩
theorem zl1 {cs : Array Value} (h : cs.size = 16) : ∃ c0 c1 c2 c3 c4 c5 c6 c7 c8 c9 c10 c11 c12 c13 c14 c15, cs = #[c0, c1, c2, c3, c4, c5, c6, c7, c8, c9, c10, c11, c12, c13, c14, c15] := by
 obtain ⟨l⟩ := cs
 simp at h
 match l, h with
 | [c0, c1, c2, c3, c4, c5, c6, c7, c8, c9, c10, c11, c12, c13, c14, c15], _ => exact ⟨c0, c1, c2, c3, c4, c5, c6, c7, c8, c9, c10, c11, c12, c13, c14, c15, rfl⟩
section
variable {H : Type} {enc : TypeId × Value -> H} {V : World} {held : Bool}
theorem zms {fuel : Nat} {c0 c1 c2 c3 c4 c5 c6 c7 : Value} {y : DataW H × List MemPlace} (h : DataW.trod enc Tryz.prog V 0 (fun _ => true) held fuel 30 [c0, c1, c2, c3, c4, c5, c6, c7] = some y) :
  ∃ x : E.D, [c0, c1, c2, c3, c4, c5, c6, c7] = [.int .i64 x.b, .int .i64 x.k, .int .i64 x.c, .int .i64 x.j, .int .i64 x.lo, .int .i64 x.hi, .int .i64 x.dy, .int .i64 x.bl] /\ x.b <= 9223372036854775807 /\ x.c <= 9223372036854775807 := by
 obtain ⟨xs, n, -, -, -, hl, hx⟩ := DataW.trod_struct Tryz.underlying30 h
 have get : ∀ i (hi : i < 6), ∃ y, xs[i]? = some y := fun i hi => ⟨xs[i]'(by rw [hl]; exact hi), List.getElem?_eq_getElem _⟩
 obtain ⟨y0, g0⟩ := get 0 (by decide)
 obtain ⟨y1, g1⟩ := get 1 (by decide)
 obtain ⟨y2, g2⟩ := get 2 (by decide)
 obtain ⟨y3, g3⟩ := get 3 (by decide)
 obtain ⟨y4, g4⟩ := get 4 (by decide)
 obtain ⟨y5, g5⟩ := get 5 (by decide)
 have t0 := (hx 0 _ rfl).trans g0
 have t1 := (hx 1 _ rfl).trans g1
 have t2 := (hx 2 _ rfl).trans g2
 have t3 := (hx 3 _ rfl).trans g3
 have t4 := (hx 4 _ rfl).trans g4
 have t5 := (hx 5 _ rfl).trans g5
 obtain ⟨b, k, rfl, rfl, hb⟩ := zg5 t0
 obtain ⟨c, j, rfl, rfl, hc⟩ := zg5 t1
 obtain ⟨lo, rfl, -, -⟩ := zb1 t2
 obtain ⟨hi, rfl, -, -⟩ := zb1 t3
 obtain ⟨dy, rfl, -, -⟩ := zb1 t4
 obtain ⟨bl, rfl, -, -⟩ := zb1 t5
 exact ⟨⟨b, k, c, j, lo, hi, dy, bl⟩, rfl, hb, hc⟩
theorem zk4 {fuel : Nat} {v : Value} {y : DataW H × List MemPlace} (h : DataW.trod enc Tryz.prog V 0 (fun _ => true) held fuel 33 [v] = some y) : ∃ a n c l, v = .slice a n c /\ QIn V a n c l /\ O.Sm l := by
 have hv : ∃ a n c, v = .slice a n c := by
  rcases zax Tryz.underlying33 Tryz.underlying170 3 rfl (by kernel_rfl) (by kernel_rfl) h with hcs | ⟨x, len, cap, f, hcs, _⟩
  ·simp at hcs; exact ⟨_, _, _, hcs⟩
  ·simp at hcs; exact ⟨_, _, _, hcs⟩
 obtain ⟨a, n, c, rfl⟩ := hv
 exact zhv ⟨a, n, c, rfl⟩ ⟨fuel, h⟩
theorem zjr {fuel : Nat} {v : Value} {y : DataW H × List MemPlace} (h : DataW.trod enc Tryz.prog V 0 (fun _ => true) held fuel 34 [v] = some y) : ∃ a n c l, v = .slice a n c /\ RIn (α := L.Ls) V a n c l := by
 have hv : ∃ a n c, v = .slice a n c := by
  rcases zax Tryz.underlying34 Tryz.underlying104 5 rfl (by kernel_rfl) (by kernel_rfl) h with hcs | ⟨x, len, cap, f, hcs, _⟩
  ·simp at hcs; exact ⟨_, _, _, hcs⟩
  ·simp at hcs; exact ⟨_, _, _, hcs⟩
 obtain ⟨a, n, c, rfl⟩ := hv
 exact zgp ⟨a, n, c, rfl⟩ ⟨fuel, h⟩
theorem zk5 {fuel : Nat} {v : Value} {y : DataW H × List MemPlace} (h : DataW.trod enc Tryz.prog V 0 (fun _ => true) held fuel 35 [v] = some y) : ∃ a n c l, v = .slice a n c /\ RIn (α := L.T3) V a n c l := by
 have hv : ∃ a n c, v = .slice a n c := by
  rcases zax Tryz.underlying35 Tryz.underlying135 3 rfl (by kernel_rfl) (by kernel_rfl) h with hcs | ⟨x, len, cap, f, hcs, _⟩
  ·simp at hcs; exact ⟨_, _, _, hcs⟩
  ·simp at hcs; exact ⟨_, _, _, hcs⟩
 obtain ⟨a, n, c, rfl⟩ := hv
 exact zhw ⟨a, n, c, rfl⟩ ⟨fuel, h⟩
theorem open_state {r : Reach} {b0 : Nat} {v : Value} {d : DataW H} {p : List MemPlace} (hv : Value.okWide Tryz.prog V r b0 37 v) (h : DataW.Trod enc Tryz.prog V 0 (fun _ => true) held 37 v d p) :
  ∃ (s : Y.St) (A : Y.A9), v = Y.val s A /\ Y.SIn V A s /\ O.Sm s.ps /\ s.d.b <= 9223372036854775807 /\ s.d.c <= 9223372036854775807 := by
 obtain ⟨cs, rfl, hsz⟩ := okWide_struct Tryz.underlying37 hv
 obtain ⟨c0, c1, c2, c3, c4, c5, c6, c7, c8, c9, c10, c11, c12, c13, c14, c15, rfl⟩ := zl1 (hsz.trans (show Tryz.prog.cellsOf 37 = 16 by kernel_rfl))
 obtain ⟨fuel, hf⟩ := h
 obtain ⟨xs, n, -, -, -, hl, hx⟩ := DataW.trod_struct Tryz.underlying37 hf
 have get : ∀ i (hi : i < 6), ∃ y, xs[i]? = some y := fun i hi => ⟨xs[i]'(by rw [hl]; exact hi), List.getElem?_eq_getElem _⟩
 obtain ⟨y0, g0⟩ := get 0 (by decide)
 obtain ⟨y1, g1⟩ := get 1 (by decide)
 obtain ⟨y2, g2⟩ := get 2 (by decide)
 obtain ⟨y3, g3⟩ := get 3 (by decide)
 obtain ⟨y4, g4⟩ := get 4 (by decide)
 obtain ⟨y5, g5⟩ := get 5 (by decide)
 have t0 := (hx 0 _ rfl).trans g0
 have t1 := (hx 1 _ rfl).trans g1
 have t2 := (hx 2 _ rfl).trans g2
 have t3 := (hx 3 _ rfl).trans g3
 have t4 := (hx 4 _ rfl).trans g4
 have t5 := (hx 5 _ rfl).trans g5
 obtain ⟨x, hd, hb, hc⟩ := zms t0
 simp only [List.cons.injEq, and_true] at hd
 obtain ⟨rfl, rfl, rfl, rfl, rfl, rfl, rfl, rfl⟩ := hd
 obtain ⟨p, rfl, rfl, rfl, rfl⟩ := zld t1
 obtain ⟨now, rfl, -, -⟩ := zb1 t2
 obtain ⟨ap, np, cp, ps, rfl, hp, hs⟩ := zk4 t3
 obtain ⟨al, nl, cl, l, rfl, hl2⟩ := zjr t4
 obtain ⟨ah, nh, ch, h, rfl, hh⟩ := zk5 t5
 exact ⟨⟨x, p, now, ps, l, h⟩, ⟨ap, np, cp, al, nl, cl, ah, nh, ch⟩, rfl, ⟨hp, hl2, hh⟩, hs, hb, hc⟩
end
end Go.Proofs.YtnbkkjcmblfhpaaGreat
namespace Go.Proofs.YtnbkkjcmblfhpaaGreat
set_option maxRecDepth 100000
open Go.RowKit Go.ChangeShapes Go.WideShapes Go.Joins Go.Deep
def Y.es (q : Y.Ev) : List Value := V.cells q
section
variable {H : Type} {enc : TypeId × Value -> H} {V : World} {held : Bool}
theorem zts {fuel : Nat} {c0 c1 c2 c3 c4 c5 c6 c7 c8 : Value} {y : DataW H × List MemPlace} (h : DataW.trod enc Tryz.prog V 0 (fun _ => true) held fuel 70 [c0, c1, c2, c3, c4, c5, c6, c7, c8] = some y) : ∃ q : Y.Ev, [c0, c1, c2, c3, c4, c5, c6, c7, c8] = Y.es q := by
 obtain ⟨xs, n, -, -, -, hl, hx⟩ := DataW.trod_struct Tryz.underlying70 h
 have get : ∀ i (hi : i < 6), ∃ y, xs[i]? = some y := fun i hi => ⟨xs[i]'(by rw [hl]; exact hi), List.getElem?_eq_getElem _⟩
 obtain ⟨y0, g0⟩ := get 0 (by decide)
 obtain ⟨y1, g1⟩ := get 1 (by decide)
 obtain ⟨y2, g2⟩ := get 2 (by decide)
 obtain ⟨y3, g3⟩ := get 3 (by decide)
 obtain ⟨y4, g4⟩ := get 4 (by decide)
 obtain ⟨y5, g5⟩ := get 5 (by decide)
 have t0 := (hx 0 _ rfl).trans g0
 have t1 := (hx 1 _ rfl).trans g1
 have t2 := (hx 2 _ rfl).trans g2
 have t3 := (hx 3 _ rfl).trans g3
 have t4 := (hx 4 _ rfl).trans g4
 have t5 := (hx 5 _ rfl).trans g5
 obtain ⟨k, rfl, -, -⟩ := zb1 t0
 obtain ⟨s, rfl, -, -⟩ := zb1 t1
 obtain ⟨a, rfl, -, -⟩ := zb1 t2
 obtain ⟨b, rfl, -, -⟩ := zb1 t3
 obtain ⟨m, rfl, -, -⟩ := zb1 t4
 obtain ⟨p, rfl, rfl, rfl, rfl⟩ := zld t5
 exact ⟨⟨k, s, a, b, m, p⟩, rfl⟩
theorem open_ev {r : Reach} {b0 : Nat} {v : Value} {d : DataW H} {p : List MemPlace} (hv : Value.okWide Tryz.prog V r b0 70 v) (h : DataW.Trod enc Tryz.prog V 0 (fun _ => true) held 70 v d p) :
  ∃ q : Y.Ev, v = .agg #[.int .i64 q.k, .int .i64 q.t, .int .i64 q.a, .int .i64 q.b, .int .i64 q.c, .int .i64 q.p.q, .int .i64 q.p.i, .int .i64 q.p.h, .bool q.p.pair] := by
 obtain ⟨cs, rfl, hsz⟩ := okWide_struct Tryz.underlying70 hv
 obtain ⟨c0, c1, c2, c3, c4, c5, c6, c7, c8, rfl⟩ := zmr (hsz.trans (show Tryz.prog.cellsOf 70 = 9 by kernel_rfl))
 obtain ⟨fuel, hf⟩ := h
 obtain ⟨q, hq⟩ := zts hf
 simp only [Y.es, Go.Proofs.YtnbkkjcmblfhpaaGreat.V.cells, Go.Proofs.YtnbkkjcmblfhpaaGreat.V.Rec.cells, List.cons.injEq, and_true] at hq
 obtain ⟨rfl, rfl, rfl, rfl, rfl, rfl, rfl, rfl, rfl⟩ := hq
 exact ⟨q, rfl⟩
theorem open_evs {v : Value} {d : DataW H} {p : List MemPlace} (hv : ∃ a n c, v = .slice a n c) (h : DataW.Trod enc Tryz.prog V 0 (fun _ => true) held 38 v d p) : ∃ a n c l, v = .slice a n c /\ VIn (α := Y.Ev) V a n c l /\ ((n = 0 /\ c = 0) \/ ∃ el sp, d = .slice el sp /\ el.length + sp.length = c) := by
 obtain ⟨a, n, c, rfl⟩ := hv
 obtain ⟨fuel, hf⟩ := h
 have ce : Tryz.prog.cellsOf 70 = 9 := by kernel_rfl
 rcases open_slice Tryz.underlying38 hf with ⟨hcs, _⟩ | ⟨x, len, cap, m, k, D, Pl, hcs, hb, hl, hm, hmm, hxx, hx⟩
 ·simp [Value.cells] at hcs
  obtain ⟨rfl, rfl, rfl⟩ := hcs
  exact ⟨none, 0, 0, [], rfl, VIn.nil V, .inl ⟨rfl, rfl⟩⟩
 ·simp [Value.cells] at hcs
  obtain ⟨rfl, rfl, rfl⟩ := hcs
  have hlm : n <= m := by rw [hmm]; split <;> omega
  have each : ∀ i, ∃ q : Y.Ev, i < n -> (∀ j u, (Y.es q)[j]? = some u -> V.cell? (x.add (i * 9 + j)) = some u) := by
   intro i
   by_cases hi : i < n
   ·obtain ⟨cs', h1, h2⟩ := hx i (by omega)
    rw [ce] at h1
    obtain ⟨_, hlen, hcell⟩ := World.cells?_some h1
    obtain ⟨c0, c1, c2, c3, c4, c5, c6, c7, c8, rfl⟩ := zm7 hlen
    obtain ⟨q, hq⟩ := zts h2
    refine ⟨q, fun _ => fun j u hj => ?_⟩
    have hj9 : j < 9 := (List.getElem?_eq_some_iff.1 hj).1
    have e0 := hcell j (by omega)
    rw [add_add] at e0
    rw [e0, hq]; exact hj
   ·exact ⟨⟨0, 0, 0, 0, 0, Y.zp⟩, fun h => absurd h hi⟩
  obtain ⟨f, hf'⟩ := Classical.axiomOfChoice each
  refine ⟨some x, n, c, (List.range n).map f, rfl, ⟨by simp, ⟨hl, hm⟩, fun h => (by cases h), ?_⟩, .inr ⟨_, _, congrArg Prod.fst hxx, ?_⟩⟩
  ·by_cases h0 : n = 0
   ·exact .inl (by simp [h0])
   ·have c0 := hf' 0 (by omega) 0 _ rfl
    obtain ⟨b, off, spot⟩ := x
    have hspot : spot = none := by simpa [Addr.add] using World.cell?_spot c0
    subst hspot
    rw [WideShapes.add_plain] at c0
    refine .inr ⟨b, off, rfl, World.block_lt_of_cell? (a := ⟨b, off + (0 * 9 + 0), none⟩) _ c0, fun i y hi j u hj => ?_⟩
    obtain ⟨hi1, hi2⟩ := List.getElem?_eq_some_iff.1 hi
    simp at hi1 hi2
    have d0 := hf' i hi1 j u (by rw [hi2]; exact hj)
    rw [WideShapes.add_plain] at d0
    rw [show Go.Proofs.YtnbkkjcmblfhpaaGreat.V.Rec.k Y.Ev = 9 from rfl, Nat.add_assoc]; exact d0
  ·have hm' : m = c := by simpa using hmm
   simp only [List.length_map, List.length_range]
   omega
end
end Go.Proofs.YtnbkkjcmblfhpaaGreat
