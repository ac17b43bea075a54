/-
  What arguments read as: slices of pools, slices of integers.
-/
import Derived.Test.YtejckbnapcdhpaaIntsS
import Derived.Test.YtejckbnapcdhpaaOLose
import Derived.Test.YtejckbnapcdhpaaOMay
import Derived.Lib.SmallJoins
namespace Go.Proofs.Ytejckbnapcdhpaa
open Go.RowKit Go.ChangeShapes Go.WideShapes Go.Joins Go.Deep
section
variable {H : Type} {enc : TypeId × Value → H} {V : World} {held : Bool}

/-- A slice of pools. -/
theorem open_pools {v : Value} {d : DataW H} {p : List MemPlace} (hv : ∃ a n c, v = .slice a n c) (h : DataW.Trod enc Try.prog V 0 (fun _ => true) held 22 v d p) : ∃ a n c l, v = .slice a n c ∧ QIn V a n c l ∧ O.Sm l := by
  obtain ⟨a, n, c, rfl⟩ := hv
  obtain ⟨fuel, hf⟩ := h
  rcases open_slice_ints Try.underlying22 Try.underlying37 3 rfl (by kernel_rfl) (by kernel_rfl) hf with hcs | ⟨x, len, cap, f, hcs, hl, hm, hx⟩
  · simp [Value.cells] at hcs
    obtain ⟨rfl, rfl, rfl⟩ := hcs
    exact ⟨none, 0, 0, [], rfl, QIn.nil V, fun x hx => by cases hx⟩
  · simp [Value.cells] at hcs
    obtain ⟨rfl, rfl, rfl⟩ := hcs
    refine ⟨some x, n, c, (List.range n).map fun i => ⟨f i 0, f i 1, f i 2⟩, rfl, ⟨by simp, ⟨hl, hm⟩, fun h => (by cases h), ?_⟩, ?_⟩
    · by_cases h0 : n = 0
      · exact .inl (by simp [h0])
      · have c0 := (hx 0 (by omega) 0 (by decide)).1
        obtain ⟨b, off, spot⟩ := x
        have hspot : spot = none := by simpa [Addr.add] using World.cell?_spot c0
        subst hspot
        rw [WideShapes.add_plain] at c0
        refine .inr ⟨b, off, rfl, World.block_lt_of_cell? (a := ⟨b, off + (0 * 3 + 0), none⟩) _ c0, fun i y hi => ?_⟩
        obtain ⟨hi1, hi2⟩ := List.getElem?_eq_some_iff.1 hi
        simp at hi1 hi2
        have d0 := (hx i hi1 0 (by decide)).1
        have d1 := (hx i hi1 1 (by decide)).1
        have d2 := (hx i hi1 2 (by decide)).1
        rw [WideShapes.add_plain] at d0 d1 d2
        rw [← hi2]
        exact ⟨d0, by rw [Nat.add_assoc]; exact d1, by rw [Nat.add_assoc]; exact d2⟩
    · intro y hy
      obtain ⟨i, hi, rfl⟩ := List.mem_map.1 hy
      have h1 := (hx i (List.mem_range.1 hi) 0 (by decide)).2
      exact (i64_wf h1).2
/-- A slice of integers. -/
theorem open_busy {v : Value} {d : DataW H} {p : List MemPlace} (hv : ∃ a n c, v = .slice a n c) (h : DataW.Trod enc Try.prog V 0 (fun _ => true) held 23 v d p) : ∃ a n c l, v = .slice a n c ∧ BIn V a n c l := by
  obtain ⟨a, n, c, rfl⟩ := hv
  obtain ⟨fuel, hf⟩ := h
  rcases open_ints Try.underlying23 Try.underlying3 (by kernel_rfl) hf with ⟨hcs, _⟩ | ⟨x, l, c', zs, hcs, _, hl, hm, hz, _, hcell, hwz⟩
  · simp [Value.cells] at hcs
    obtain ⟨rfl, rfl, rfl⟩ := hcs
    exact ⟨none, 0, 0, [], rfl, BIn.nil V⟩
  · simp [Value.cells] at hcs
    obtain ⟨rfl, rfl, rfl⟩ := hcs
    have hr : IsRow .i64 V (some x) n c zs := .inr ⟨_, rfl, hl, hm, by simpa using hz, hcell, hwz⟩
    obtain ⟨r1, r2⟩ := hr.rowIn
    exact ⟨some x, n, c, zs.take n, rfl, r2, r1⟩
end
end Go.Proofs.Ytejckbnapcdhpaa
