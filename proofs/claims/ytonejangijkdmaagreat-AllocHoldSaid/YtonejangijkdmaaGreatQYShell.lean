
import Derived.Test.YtonejangijkdmaaGreatQI
import Derived.Test.YtonejangijkdmaaGreatQSH
import Derived.Test.YtonejangijkdmaaGreatYB
import Derived.Lib.SmallJoins
namespace Go.Proofs.YtonejangijkdmaaGreat
set_option maxRecDepth 100000
open Go.RowKit Go.ChangeShapes Go.WideShapes Go.Joins Go.Deep
instance : V.Rec Y.Rq := ⟨9, Y.rs, fun _ => rfl, by decide, fun x u hu => by
 simp only [Y.rs, List.mem_cons, List.not_mem_nil, or_false] at hu
 rcases hu with rfl | rfl | rfl | rfl | rfl | rfl | rfl | rfl | rfl <;> rfl⟩
theorem zm6 {cs : Array Value} (h : cs.size = 4) : ∃ c0 c1 c2 c3, cs = #[c0, c1, c2, c3] := by
 obtain ⟨l⟩ := cs
 simp at h
 match l, h with
 | [c0, c1, c2, c3], _ => exact ⟨c0, c1, c2, c3, rfl⟩
theorem zmr {cs : Array Value} (h : cs.size = 9) : ∃ c0 c1 c2 c3 c4 c5 c6 c7 c8, cs = #[c0, c1, c2, c3, c4, c5, c6, c7, c8] := by
 obtain ⟨l⟩ := cs
 simp at h
 match l, h with
 | [c0, c1, c2, c3, c4, c5, c6, c7, c8], _ => exact ⟨c0, c1, c2, c3, c4, c5, c6, c7, c8, rfl⟩
theorem zm7 {cs : List Value} (h : cs.length = 9) : ∃ c0 c1 c2 c3 c4 c5 c6 c7 c8, cs = [c0, c1, c2, c3, c4, c5, c6, c7, c8] := by
 match cs, h with
 | [c0, c1, c2, c3, c4, c5, c6, c7, c8], _ => exact ⟨c0, c1, c2, c3, c4, c5, c6, c7, c8, rfl⟩
section
variable {H : Type} {enc : TypeId × Value -> H} {V : World} {held : Bool}
theorem zb1 {fuel : Nat} {v : Value} {y : DataW H × List MemPlace} (h : DataW.trod enc Tryz.prog V 0 (fun _ => true) held fuel 3 [v] = some y) : ∃ k : Int, v = .int .i64 k /\ -9223372036854775808 <= k /\ k <= 9223372036854775807 := by
 obtain ⟨k, hk, _, wk⟩ := DataW.trod_int (k := .i64) Tryz.underlying3 h
 simp at hk
 exact ⟨k, hk, zlb wk⟩
theorem zl2 {fuel : Nat} {v : Value} {y : DataW H × List MemPlace} (h : DataW.trod enc Tryz.prog V 0 (fun _ => true) held fuel 4 [v] = some y) : ∃ k : Bool, v = .bool k := by
 obtain ⟨k, hk, _⟩ := DataW.trod_bool Tryz.underlying4 h
 simp at hk
 exact ⟨k, hk⟩
theorem zld {fuel : Nat} {c0 c1 c2 c3 : Value} {y : DataW H × List MemPlace} (h : DataW.trod enc Tryz.prog V 0 (fun _ => true) held fuel 27 [c0, c1, c2, c3] = some y) : ∃ p : Y.Po, c0 = .int .i64 p.q /\ c1 = .int .i64 p.i /\ c2 = .int .i64 p.h /\ c3 = .bool p.pair := by
 obtain ⟨xs, n, -, -, -, hl, hx⟩ := DataW.trod_struct Tryz.underlying27 h
 have get : ∀ i (hi : i < 4), ∃ y, xs[i]? = some y := fun i hi => ⟨xs[i]'(by rw [hl]; exact hi), List.getElem?_eq_getElem _⟩
 obtain ⟨y0, g0⟩ := get 0 (by decide)
 obtain ⟨y1, g1⟩ := get 1 (by decide)
 obtain ⟨y2, g2⟩ := get 2 (by decide)
 obtain ⟨y3, g3⟩ := get 3 (by decide)
 have t0 := (hx 0 _ rfl).trans g0
 have t1 := (hx 1 _ rfl).trans g1
 have t2 := (hx 2 _ rfl).trans g2
 have t3 := (hx 3 _ rfl).trans g3
 obtain ⟨q, rfl, -, -⟩ := zb1 t0
 obtain ⟨i, rfl, -, -⟩ := zb1 t1
 obtain ⟨hh, rfl, -, -⟩ := zb1 t2
 obtain ⟨b, rfl⟩ := zl2 t3
 exact ⟨⟨q, i, hh, b⟩, rfl, rfl, rfl, rfl⟩
theorem zmt {fuel : Nat} {c0 c1 c2 c3 c4 c5 c6 c7 c8 : Value} {y : DataW H × List MemPlace} (h : DataW.trod enc Tryz.prog V 0 (fun _ => true) held fuel 34 [c0, c1, c2, c3, c4, c5, c6, c7, c8] = some y) : ∃ q : Y.Rq, [c0, c1, c2, c3, c4, c5, c6, c7, c8] = Y.rs q /\ q.a <= 9223372036854775807 := by
 obtain ⟨xs, n, -, -, -, hl, hx⟩ := DataW.trod_struct Tryz.underlying34 h
 have get : ∀ i (hi : i < 6), ∃ y, xs[i]? = some y := fun i hi => ⟨xs[i]'(by rw [hl]; exact hi), List.getElem?_eq_getElem _⟩
 obtain ⟨y0, g0⟩ := get 0 (by decide)
 obtain ⟨y1, g1⟩ := get 1 (by decide)
 obtain ⟨y2, g2⟩ := get 2 (by decide)
 obtain ⟨y3, g3⟩ := get 3 (by decide)
 obtain ⟨y4, g4⟩ := get 4 (by decide)
 obtain ⟨y5, g5⟩ := get 5 (by decide)
 have t0 := (hx 0 _ rfl).trans g0
 have t1 := (hx 1 _ rfl).trans g1
 have t2 := (hx 2 _ rfl).trans g2
 have t3 := (hx 3 _ rfl).trans g3
 have t4 := (hx 4 _ rfl).trans g4
 have t5 := (hx 5 _ rfl).trans g5
 obtain ⟨k, rfl, -, -⟩ := zb1 t0
 obtain ⟨s, rfl, -, -⟩ := zb1 t1
 obtain ⟨a, rfl, -, ha⟩ := zb1 t2
 obtain ⟨b, rfl, -, -⟩ := zb1 t3
 obtain ⟨m, rfl, -, -⟩ := zb1 t4
 obtain ⟨p, rfl, rfl, rfl, rfl⟩ := zld t5
 exact ⟨⟨k, s, a, b, m, p⟩, rfl, ha⟩
theorem open_pol {r : Reach} {b0 : Nat} {v : Value} {d : DataW H} {p : List MemPlace} (hv : Value.okWide Tryz.prog V r b0 27 v) (h : DataW.Trod enc Tryz.prog V 0 (fun _ => true) held 27 v d p) :
  ∃ q : Y.Po, v = Y.pval q := by
 obtain ⟨cs, rfl, hsz⟩ := okWide_struct Tryz.underlying27 hv
 obtain ⟨c0, c1, c2, c3, rfl⟩ := zm6 (hsz.trans (show Tryz.prog.cellsOf 27 = 4 by kernel_rfl))
 obtain ⟨fuel, hf⟩ := h
 obtain ⟨q, rfl, rfl, rfl, rfl⟩ := zld hf
 exact ⟨q, rfl⟩
theorem open_reqs {v : Value} {d : DataW H} {p : List MemPlace} (hv : ∃ a n c, v = .slice a n c) (h : DataW.Trod enc Tryz.prog V 0 (fun _ => true) held 50 v d p) : ∃ a n c l, v = .slice a n c /\ VIn (α := Y.Rq) V a n c l /\ ∀ q ∈ l, q.a <= 9223372036854775807 := by
 obtain ⟨a, n, c, rfl⟩ := hv
 obtain ⟨fuel, hf⟩ := h
 have ce : Tryz.prog.cellsOf 34 = 9 := by kernel_rfl
 rcases open_slice Tryz.underlying50 hf with ⟨hcs, _⟩ | ⟨x, len, cap, m, k, D, Pl, hcs, hb, hl, hm, hmm, hxx, hx⟩
 ·simp [Value.cells] at hcs
  obtain ⟨rfl, rfl, rfl⟩ := hcs
  exact ⟨none, 0, 0, [], rfl, VIn.nil V, fun x hx => by cases hx⟩
 ·simp [Value.cells] at hcs
  obtain ⟨rfl, rfl, rfl⟩ := hcs
  have hlm : n <= m := by rw [hmm]; split <;> omega
  have each : ∀ i, ∃ q : Y.Rq, i < n -> (∀ j u, (Y.rs q)[j]? = some u -> V.cell? (x.add (i * 9 + j)) = some u) /\ q.a <= 9223372036854775807 := by
   intro i
   by_cases hi : i < n
   ·obtain ⟨cs', h1, h2⟩ := hx i (by omega)
    rw [ce] at h1
    obtain ⟨_, hlen, hcell⟩ := World.cells?_some h1
    obtain ⟨c0, c1, c2, c3, c4, c5, c6, c7, c8, rfl⟩ := zm7 hlen
    obtain ⟨q, hq, ha⟩ := zmt h2
    refine ⟨q, fun _ => ⟨fun j u hj => ?_, ha⟩⟩
    have hj9 : j < 9 := (List.getElem?_eq_some_iff.1 hj).1
    have e0 := hcell j (by omega)
    rw [add_add] at e0
    rw [e0, hq]; exact hj
   ·exact ⟨⟨0, 0, 0, 0, 0, Y.zp⟩, fun h => absurd h hi⟩
  obtain ⟨f, hf'⟩ := Classical.axiomOfChoice each
  refine ⟨some x, n, c, (List.range n).map f, rfl, ⟨by simp, ⟨hl, hm⟩, fun h => (by cases h), ?_⟩, fun q hq => ?_⟩
  ·by_cases h0 : n = 0
   ·exact .inl (by simp [h0])
   ·have c0 := (hf' 0 (by omega)).1 0 _ rfl
    obtain ⟨b, off, spot⟩ := x
    have hspot : spot = none := by simpa [Addr.add] using World.cell?_spot c0
    subst hspot
    rw [WideShapes.add_plain] at c0
    refine .inr ⟨b, off, rfl, World.block_lt_of_cell? (a := ⟨b, off + (0 * 9 + 0), none⟩) _ c0, fun i y hi j u hj => ?_⟩
    obtain ⟨hi1, hi2⟩ := List.getElem?_eq_some_iff.1 hi
    simp at hi1 hi2
    have d0 := (hf' i hi1).1 j u (by rw [hi2]; exact hj)
    rw [WideShapes.add_plain] at d0
    rw [show Go.Proofs.YtonejangijkdmaaGreat.V.Rec.k Y.Rq = 9 from rfl, Nat.add_assoc]; exact d0
  ·obtain ⟨i, hi, rfl⟩ := List.mem_map.1 hq
   exact (hf' i (List.mem_range.1 hi)).2
end
end Go.Proofs.YtonejangijkdmaaGreat
