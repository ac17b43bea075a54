/-
  What arguments read as: events, slices of events, bytes.
-/
import Derived.Test.YtebiogadkamgcaaYShp
import Derived.Deep.Slices
import Derived.SizedLaws
namespace Go.Proofs.Ytebiogadkamgcaa
open Go.RowKit Go.ChangeShapes Go.WideShapes Go.Joins Go.Deep
def Y.es (q : Y.Ev) : List Value := V.cells q
section
variable {H : Type} {enc : TypeId × Value → H} {V : World} {held : Bool}
set_option maxRecDepth 100000 in
/-- An event within a slice. -/
theorem ev_of {fuel : Nat} {c0 c1 c2 c3 c4 c5 c6 c7 c8 : Value} {y : DataW H × List MemPlace} (h : DataW.trod enc Try.prog V 0 (fun _ => true) held fuel 34 [c0, c1, c2, c3, c4, c5, c6, c7, c8] = some y) : ∃ q : Y.Ev, [c0, c1, c2, c3, c4, c5, c6, c7, c8] = Y.es q := by
  obtain ⟨xs, n, -, -, -, hl, hx⟩ := DataW.trod_struct Try.underlying34 h
  have get : ∀ i (hi : i < 6), ∃ y, xs[i]? = some y := fun i hi => ⟨xs[i]'(by rw [hl]; exact hi), List.getElem?_eq_getElem _⟩
  obtain ⟨y0, g0⟩ := get 0 (by decide)
  obtain ⟨y1, g1⟩ := get 1 (by decide)
  obtain ⟨y2, g2⟩ := get 2 (by decide)
  obtain ⟨y3, g3⟩ := get 3 (by decide)
  obtain ⟨y4, g4⟩ := get 4 (by decide)
  obtain ⟨y5, g5⟩ := get 5 (by decide)
  have t0 := (hx 0 _ rfl).trans g0
  have t1 := (hx 1 _ rfl).trans g1
  have t2 := (hx 2 _ rfl).trans g2
  have t3 := (hx 3 _ rfl).trans g3
  have t4 := (hx 4 _ rfl).trans g4
  have t5 := (hx 5 _ rfl).trans g5
  obtain ⟨k, rfl, -, -⟩ := int_of t0
  obtain ⟨s, rfl, -, -⟩ := int_of t1
  obtain ⟨a, rfl, -, -⟩ := int_of t2
  obtain ⟨b, rfl, -, -⟩ := int_of t3
  obtain ⟨m, rfl, -, -⟩ := int_of t4
  obtain ⟨p, rfl, rfl, rfl, rfl⟩ := pol_of t5
  exact ⟨⟨k, s, a, b, m, p⟩, rfl⟩
set_option maxRecDepth 100000 in
/-- An event. -/
theorem open_ev {r : Reach} {b0 : Nat} {v : Value} {d : DataW H} {p : List MemPlace} (hv : Value.okWide Try.prog V r b0 34 v) (h : DataW.Trod enc Try.prog V 0 (fun _ => true) held 34 v d p) :
    ∃ q : Y.Ev, v = .agg #[.int .i64 q.k, .int .i64 q.t, .int .i64 q.a, .int .i64 q.b, .int .i64 q.c, .int .i64 q.p.q, .int .i64 q.p.i, .int .i64 q.p.h, .bool q.p.pair] := by
  obtain ⟨cs, rfl, hsz⟩ := okWide_struct Try.underlying34 hv
  obtain ⟨c0, c1, c2, c3, c4, c5, c6, c7, c8, rfl⟩ := array9 (hsz.trans (show Try.prog.cellsOf 34 = 9 by kernel_rfl))
  obtain ⟨fuel, hf⟩ := h
  obtain ⟨q, hq⟩ := ev_of hf
  simp only [Y.es, Go.Proofs.Ytebiogadkamgcaa.V.cells, Go.Proofs.Ytebiogadkamgcaa.V.Rec.cells, List.cons.injEq, and_true] at hq
  obtain ⟨rfl, rfl, rfl, rfl, rfl, rfl, rfl, rfl, rfl⟩ := hq
  exact ⟨q, rfl⟩
set_option maxRecDepth 100000 in
/-- A slice of events. -/
theorem open_evs {v : Value} {d : DataW H} {p : List MemPlace} (hv : ∃ a n c, v = .slice a n c) (h : DataW.Trod enc Try.prog V 0 (fun _ => true) held 22 v d p) : ∃ a n c l, v = .slice a n c ∧ VIn (α := Y.Ev) V a n c l ∧ ((n = 0 ∧ c = 0) ∨ ∃ el sp, d = .slice el sp ∧ el.length + sp.length = c) := by
  obtain ⟨a, n, c, rfl⟩ := hv
  obtain ⟨fuel, hf⟩ := h
  have ce : Try.prog.cellsOf 34 = 9 := by kernel_rfl
  rcases open_slice Try.underlying22 hf with ⟨hcs, _⟩ | ⟨x, len, cap, m, k, D, Pl, hcs, hb, hl, hm, hmm, hxx, hx⟩
  · simp [Value.cells] at hcs
    obtain ⟨rfl, rfl, rfl⟩ := hcs
    exact ⟨none, 0, 0, [], rfl, VIn.nil V, .inl ⟨rfl, rfl⟩⟩
  · simp [Value.cells] at hcs
    obtain ⟨rfl, rfl, rfl⟩ := hcs
    have hlm : n ≤ m := by rw [hmm]; split <;> omega
    have each : ∀ i, ∃ q : Y.Ev, i < n → (∀ j u, (Y.es q)[j]? = some u → V.cell? (x.add (i * 9 + j)) = some u) := by
      intro i
      by_cases hi : i < n
      · obtain ⟨cs', h1, h2⟩ := hx i (by omega)
        rw [ce] at h1
        obtain ⟨_, hlen, hcell⟩ := World.cells?_some h1
        obtain ⟨c0, c1, c2, c3, c4, c5, c6, c7, c8, rfl⟩ := list9 hlen
        obtain ⟨q, hq⟩ := ev_of h2
        refine ⟨q, fun _ => fun j u hj => ?_⟩
        have hj9 : j < 9 := (List.getElem?_eq_some_iff.1 hj).1
        have e0 := hcell j (by omega)
        rw [add_add] at e0
        rw [e0, hq]; exact hj
      · exact ⟨⟨0, 0, 0, 0, 0, Y.zp⟩, fun h => absurd h hi⟩
    obtain ⟨f, hf'⟩ := Classical.axiomOfChoice each
    refine ⟨some x, n, c, (List.range n).map f, rfl, ⟨by simp, ⟨hl, hm⟩, fun h => (by cases h), ?_⟩, .inr ⟨_, _, congrArg Prod.fst hxx, ?_⟩⟩
    · by_cases h0 : n = 0
      · exact .inl (by simp [h0])
      · have c0 := hf' 0 (by omega) 0 _ rfl
        obtain ⟨b, off, spot⟩ := x
        have hspot : spot = none := by simpa [Addr.add] using World.cell?_spot c0
        subst hspot
        rw [WideShapes.add_plain] at c0
        refine .inr ⟨b, off, rfl, World.block_lt_of_cell? (a := ⟨b, off + (0 * 9 + 0), none⟩) _ c0, fun i y hi j u hj => ?_⟩
        obtain ⟨hi1, hi2⟩ := List.getElem?_eq_some_iff.1 hi
        simp at hi1 hi2
        have d0 := hf' i hi1 j u (by rw [hi2]; exact hj)
        rw [WideShapes.add_plain] at d0
        rw [show Go.Proofs.Ytebiogadkamgcaa.V.Rec.k Y.Ev = 9 from rfl, Nat.add_assoc]; exact d0
    · have hm' : m = c := by simpa using hmm
      simp only [List.length_map, List.length_range]
      omega
/-- A slice of bytes. -/
theorem open_bytes {v : Value} {d : DataW H} {p : List MemPlace} (hv : ∃ a n c, v = .slice a n c) (h : DataW.Trod enc Try.prog V 0 (fun _ => true) held 23 v d p) : ∃ a n c l, v = .slice a n c ∧ l.length = n ∧ RowIn .u8 V a c l := by
  obtain ⟨a0, n0, c0, rfl⟩ := hv
  obtain ⟨fuel, hf⟩ := h
  rcases open_ints Try.underlying23 Try.underlying5 (by kernel_rfl) hf with ⟨hcs, _⟩ | ⟨x, l, c, zs, hcs, _, hl, hm, hz, _, hcell, hwz⟩
  · simp [Value.cells] at hcs
    obtain ⟨rfl, rfl, rfl⟩ := hcs
    exact ⟨none, 0, 0, [], rfl, rfl, by simp [maxLen], by simp, .inl rfl⟩
  · simp [Value.cells] at hcs
    obtain ⟨rfl, rfl, rfl⟩ := hcs
    have hr : IsRow .u8 V (some x) _ _ zs := .inr ⟨_, rfl, hl, hm, by simpa using hz, hcell, hwz⟩
    exact ⟨some x, _, _, zs.take _, rfl, hr.rowIn.2, hr.rowIn.1⟩
end
theorem evs_reach {H : Type} {ts : List TypeId} {ds : List (DataW H)} (h : (DataW.weightsEach Try.prog ts ds).all (· ≤ reachBytes) = true) {j : Nat} {d : DataW H} {n c : Nat} (ht : ts[j]? = some 22) (hd : ds[j]? = some d) (z : (n = 0 ∧ c = 0) ∨ ∃ el sp, d = .slice el sp ∧ el.length + sp.length = c) (hn : n ≤ c) : n * 72 ≤ 140737488351232 := by
  rcases z with ⟨rfl, -⟩ | ⟨el, sp, rfl, hl⟩
  · decide
  · have := sized_slice h ht hd Try.underlying22
    rw [show Try.prog.bytesOf 34 = 72 by kernel_rfl, hl] at this
    unfold reachBytes at this
    omega
end Go.Proofs.Ytebiogadkamgcaa
