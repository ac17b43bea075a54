/-
  What arguments read as: slices of leases, of what is held; a lease.
-/
import Derived.Test.YtbnhaoimdponkaaIntsS
import Derived.Test.YtbnhaoimdponkaaLRows
import Derived.Lib.SmallJoins
namespace Go.Proofs.Ytbnhaoimdponkaa
open Go.RowKit Go.ChangeShapes Go.WideShapes Go.Joins Go.Deep
section
variable {H : Type} {enc : TypeId × Value → H} {V : World} {held : Bool}

theorem rin_of {α : Type} [L.Rec α] {x : Addr} {n c : Nat} (f : Nat → Nat → Int) (mk : Nat → α) (hmk : ∀ i, L.Rec.enc (mk i) = (List.range (L.Rec.k α)).map (f i)) (hl : n ≤ c) (hm : c ≤ maxLen)
    (hx : ∀ i, i < n → ∀ j, j < L.Rec.k α → V.cell? (x.add (i * L.Rec.k α + j)) = some (.int .i64 (f i j)) ∧ (Lit.int .i64 (f i j)).wf = true) : RIn V (some x) n c ((List.range n).map mk) := by
  have hk := L.Rec.pos (α := α)
  refine ⟨by simp, ⟨hl, hm⟩, fun h => (by cases h), ?_⟩
  by_cases h0 : n = 0
  · exact .inl (by simp [h0])
  · have c0 := (hx 0 (by omega) 0 hk).1
    obtain ⟨b, off, spot⟩ := x
    have hspot : spot = none := by simpa [Addr.add] using World.cell?_spot c0
    subst hspot
    rw [WideShapes.add_plain] at c0
    refine .inr ⟨b, off, rfl, World.block_lt_of_cell? (a := ⟨b, off + (0 * L.Rec.k α + 0), none⟩) _ c0, fun i y hi j u hj => ?_⟩
    obtain ⟨hi1, hi2⟩ := List.getElem?_eq_some_iff.1 hi
    simp at hi1 hi2
    have hjk : j < L.Rec.k α := by rw [← L.cells_len y]; exact (List.getElem?_eq_some_iff.1 hj).1
    have d0 := (hx i hi1 j hjk).1
    rw [WideShapes.add_plain] at d0
    rw [← hi2] at hj
    unfold L.cells at hj
    rw [hmk, List.map_map, List.getElem?_map, List.getElem?_range hjk] at hj
    simp at hj
    rw [← hj, Nat.add_assoc]; exact d0
/-- A slice of leases. -/
theorem open_leases {v : Value} {d : DataW H} {p : List MemPlace} (hv : ∃ a n c, v = .slice a n c) (h : DataW.Trod enc Try.prog V 0 (fun _ => true) held 22 v d p) : ∃ a n c l, v = .slice a n c ∧ RIn (α := L.Ls) V a n c l := by
  obtain ⟨a, n, c, rfl⟩ := hv
  obtain ⟨fuel, hf⟩ := h
  rcases open_slice_ints Try.underlying22 Try.underlying30 5 rfl (by kernel_rfl) (by kernel_rfl) hf with hcs | ⟨x, len, cap, f, hcs, hl, hm, hx⟩
  · simp [Value.cells] at hcs
    obtain ⟨rfl, rfl, rfl⟩ := hcs
    exact ⟨none, 0, 0, [], rfl, RIn.nil V⟩
  · simp [Value.cells] at hcs
    obtain ⟨rfl, rfl, rfl⟩ := hcs
    exact ⟨some x, n, c, _, rfl, rin_of (α := L.Ls) f (fun i => ⟨f i 0, f i 1, f i 2, f i 3, f i 4⟩) (fun i => rfl) hl hm hx⟩
/-- A slice of what is held. -/
theorem open_helds {v : Value} {d : DataW H} {p : List MemPlace} (hv : ∃ a n c, v = .slice a n c) (h : DataW.Trod enc Try.prog V 0 (fun _ => true) held 23 v d p) : ∃ a n c l, v = .slice a n c ∧ RIn (α := L.T3) V a n c l := by
  obtain ⟨a, n, c, rfl⟩ := hv
  obtain ⟨fuel, hf⟩ := h
  rcases open_slice_ints Try.underlying23 Try.underlying45 3 rfl (by kernel_rfl) (by kernel_rfl) hf with hcs | ⟨x, len, cap, f, hcs, hl, hm, hx⟩
  · simp [Value.cells] at hcs
    obtain ⟨rfl, rfl, rfl⟩ := hcs
    exact ⟨none, 0, 0, [], rfl, RIn.nil V⟩
  · simp [Value.cells] at hcs
    obtain ⟨rfl, rfl, rfl⟩ := hcs
    exact ⟨some x, n, c, _, rfl, rin_of (α := L.T3) f (fun i => ⟨f i 0, f i 1, f i 2⟩) (fun i => rfl) hl hm hx⟩
theorem array5 {cs : Array Value} (h : cs.size = 5) : ∃ c0 c1 c2 c3 c4, cs = #[c0, c1, c2, c3, c4] := by
  obtain ⟨l⟩ := cs
  simp at h
  match l, h with
  | [c0, c1, c2, c3, c4], _ => exact ⟨c0, c1, c2, c3, c4, rfl⟩
theorem lone_int {fuel : Nat} {v : Value} {y : DataW H × List MemPlace} (h : DataW.trod enc Try.prog V 0 (fun _ => true) held fuel 3 [v] = some y) : ∃ k : Int, v = .int .i64 k := by
  obtain ⟨k, hk, _, _⟩ := DataW.trod_int (k := .i64) Try.underlying3 h
  simp at hk
  exact ⟨k, hk⟩
set_option maxRecDepth 100000 in
/-- A lease. -/
theorem open_lease {r : Reach} {b0 : Nat} {v : Value} {d : DataW H} {p : List MemPlace} (hv : Value.okWide Try.prog V r b0 30 v) (h : DataW.Trod enc Try.prog V 0 (fun _ => true) held 30 v d p) :
    ∃ x : L.Ls, v = .agg #[.int .i64 x.s, .int .i64 x.a, .int .i64 x.b, .int .i64 x.f, .int .i64 x.t] := by
  obtain ⟨cs, rfl, hsz⟩ := okWide_struct Try.underlying30 hv
  obtain ⟨c0, c1, c2, c3, c4, rfl⟩ := array5 (hsz.trans (show Try.prog.cellsOf 30 = 5 by kernel_rfl))
  obtain ⟨fuel, hf⟩ := h
  obtain ⟨xs, n, -, -, -, hl, hx⟩ := DataW.trod_struct Try.underlying30 hf
  have get : ∀ i (hi : i < 5), ∃ y, xs[i]? = some y := fun i hi => ⟨xs[i]'(by rw [hl]; exact hi), List.getElem?_eq_getElem _⟩
  obtain ⟨y0, g0⟩ := get 0 (by decide)
  obtain ⟨y1, g1⟩ := get 1 (by decide)
  obtain ⟨y2, g2⟩ := get 2 (by decide)
  obtain ⟨y3, g3⟩ := get 3 (by decide)
  obtain ⟨y4, g4⟩ := get 4 (by decide)
  have t0 := (hx 0 _ rfl).trans g0
  have t1 := (hx 1 _ rfl).trans g1
  have t2 := (hx 2 _ rfl).trans g2
  have t3 := (hx 3 _ rfl).trans g3
  have t4 := (hx 4 _ rfl).trans g4
  obtain ⟨s, rfl⟩ := lone_int t0
  obtain ⟨a, rfl⟩ := lone_int t1
  obtain ⟨b, rfl⟩ := lone_int t2
  obtain ⟨f, rfl⟩ := lone_int t3
  obtain ⟨t, rfl⟩ := lone_int t4
  exact ⟨⟨s, a, b, f, t⟩, rfl⟩
end
end Go.Proofs.Ytbnhaoimdponkaa
