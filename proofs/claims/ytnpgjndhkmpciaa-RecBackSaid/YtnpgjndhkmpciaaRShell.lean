/-
  What arguments read as: a slice of bytes, a record, a slice of records.
-/
import Derived.Test.YtnpgjndhkmpciaaRRows
import Derived.OpenShut
import Derived.ChangeOld
import Derived.Lib.SmallJoins
import Derived.Deep.SlicePairs
namespace Go.Proofs.Ytnpgjndhkmpciaa
open Go.RowKit Go.ChangeShapes Go.WideShapes Go.Joins Go.Deep
section
variable {H : Type} {enc : TypeId × Value → H} {W : World} {held : Bool}

theorem isRow_of {fuel : Nat} {v : Value} {y : DataW H × List MemPlace} (h : DataW.trod enc Try.prog W 0 (fun _ => true) held fuel 22 [v] = some y) : ∃ a len cap zs, v = .slice a len cap ∧ IsRow .u8 W a len cap zs := by
  rcases open_ints Try.underlying22 Try.underlying5 (by kernel_rfl) h with ⟨hcs, _⟩ | ⟨x, l, c, zs, hcs, _, hl, hm, hz, _, hcell, hwz⟩
  · simp at hcs
    exact ⟨none, 0, 0, [], hcs, .inl ⟨rfl, rfl, rfl, rfl⟩⟩
  · simp at hcs
    exact ⟨some x, l, c, zs, hcs, .inr ⟨_, rfl, hl, hm, by simpa using hz, hcell, hwz⟩⟩
/-- A record. -/
theorem open_rec {r : Reach} {b0 : Nat} {v : Value} {d : DataW H} {p : List MemPlace} (hv : Value.okWide Try.prog W r b0 24 v) (h : DataW.Trod enc Try.prog W 0 (fun _ => true) held 24 v d p) :
    ∃ k a len cap zs, v = .agg #[.int .i64 k, .slice a len cap] ∧ IsRow .u8 W a len cap zs := by
  obtain ⟨v0, v1, y0, y1, n, rfl, _, _, h0, h1⟩ := open_agg2 Try.underlying24 (by kernel_rfl) (by kernel_rfl) hv h
  obtain ⟨k, hk, _, _⟩ := DataW.trod_int (k := .i64) Try.underlying3 h0
  obtain ⟨a, len, cap, zs, rfl, hr⟩ := isRow_of h1
  simp at hk
  exact ⟨k, a, len, cap, zs, by rw [hk], hr⟩
/-- A slice of records. -/
theorem open_recs {r : Reach} {b0 : Nat} {v : Value} {d : DataW H} {p : List MemPlace} (hv : Value.okWide Try.prog W r b0 27 v) (h : DataW.Trod enc Try.prog W 0 (fun _ => true) held 27 v d p) :
    ∃ a len cap xs, v = .slice a len cap ∧ RecsIn W a cap xs ∧ xs.length = len ∧ (a = none → len = 0 ∧ cap = 0) := by
  obtain ⟨a, len, cap, rfl⟩ := okWide_slice Try.underlying27 hv
  obtain ⟨fuel, hf⟩ := h
  rcases open_slice_pairs Try.underlying27 Try.underlying24 (by kernel_rfl) rfl rfl (by kernel_rfl) (by kernel_rfl) hf with ⟨hcs, _⟩ | ⟨x, l, c, m, n, V0, V1, D0, D1, P0, P1, hcs, _, hl, hm, hmm, _, hx⟩
  · simp [Value.cells] at hcs
    obtain ⟨rfl, rfl, rfl⟩ := hcs
    exact ⟨none, 0, 0, [], rfl, RecsIn.nil _ _ (by simp [maxLen]), rfl, fun _ => ⟨rfl, rfl⟩⟩
  · simp [Value.cells] at hcs
    obtain ⟨rfl, rfl, rfl⟩ := hcs
    have hmc : m = cap := by simpa using hmm
    subst hmc
    have each : ∀ i, ∃ y : RP, i < len → (W.cell? (x.add (i * 2)) = some (.int .i64 y.1) ∧ W.cell? (x.add (i * 2 + 1)) = some (.slice y.2.1 y.2.2.1 y.2.2.2.1)) ∧ RP.ok W y := by
      intro i
      by_cases hi : i < len
      · obtain ⟨c0, c1, t0, t1⟩ := hx i (by omega)
        obtain ⟨k, hk, _, _⟩ := DataW.trod_int (k := .i64) Try.underlying3 t0
        obtain ⟨a', n', cap', zs, hv1, hr⟩ := isRow_of t1
        simp at hk
        obtain ⟨r1, r2⟩ := hr.rowIn
        exact ⟨(k, a', n', cap', zs.take n'), fun _ => ⟨⟨by rw [c0, hk], by rw [c1, hv1]⟩, r2, r1, hr.nil⟩⟩
      · exact ⟨(0, none, 0, 0, []), fun h => absurd h hi⟩
    obtain ⟨f, hf'⟩ := Classical.axiomOfChoice each
    refine ⟨some x, len, m, (List.range len).map f, rfl, ⟨⟨by simp; omega, hm⟩, ?_, ?_⟩, by simp, fun h => by cases h⟩
    · intro y hy
      obtain ⟨i, hi, rfl⟩ := List.mem_map.1 hy
      exact (hf' i (List.mem_range.1 hi)).2
    · by_cases h0 : len = 0
      · exact .inl (by simp [h0])
      · have c0 := (hf' 0 (by omega)).1.1
        obtain ⟨b, off, spot⟩ := x
        have hspot : spot = none := by simpa [Addr.add] using World.cell?_spot c0
        subst hspot
        rw [WideShapes.add_plain] at c0
        refine .inr ⟨b, off, rfl, World.block_lt_of_cell? (a := ⟨b, off + 0 * 2, none⟩) _ c0, fun i y hi => ?_⟩
        obtain ⟨hi1, hi2⟩ := List.getElem?_eq_some_iff.1 hi
        simp at hi1 hi2
        obtain ⟨d1, d2⟩ := (hf' i hi1).1
        rw [WideShapes.add_plain] at d1 d2
        rw [← hi2]
        exact ⟨d1, by rw [Nat.add_assoc]; exact d2⟩
end
end Go.Proofs.Ytnpgjndhkmpciaa
