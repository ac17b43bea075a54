/-
  What arguments read as: a wheel, a timer.
-/
import Derived.Test.YtmegkfonodcoiaaWRows
import Derived.OpenShut
import Derived.ChangeOld
import Derived.Lib.SmallJoins
import Derived.Deep.SlicePairs
namespace Go.Proofs.Ytmegkfonodcoiaa
open Go.RowKit Go.ChangeShapes Go.WideShapes Go.Joins Go.Deep
section
variable {H : Type} {enc : TypeId × Value → H} {V : World} {held : Bool}

/-- A slice of timers. -/
theorem timers_of {fuel : Nat} {v : Value} {y : DataW H × List MemPlace} (h : DataW.trod enc Try.prog V 0 (fun _ => true) held fuel 22 [v] = some y) : ∃ a n c l, v = .slice a n c ∧ TIn V a n c l := by
  rcases open_slice_pairs Try.underlying22 Try.underlying40 (by kernel_rfl) rfl rfl (by kernel_rfl) (by kernel_rfl) h with ⟨hcs, _⟩ | ⟨x, len, c, m, n, U0, U1, D0, D1, P0, P1, hcs, _, hl, hm, hmm, _, hx⟩
  · simp only [List.cons.injEq, and_true] at hcs
    exact ⟨none, 0, 0, [], hcs, TIn.nil V⟩
  · simp only [List.cons.injEq, and_true] at hcs
    have hmc : m = c := by simpa using hmm
    subst hmc
    have each : ∀ i, ∃ z : W.Tm, i < len → V.cell? (x.add (i * 2)) = some (.int .i64 z.1) ∧ V.cell? (x.add (i * 2 + 1)) = some (.int .i64 z.2) := by
      intro i
      by_cases hi : i < len
      · obtain ⟨c0, c1, t0, t1⟩ := hx i (by omega)
        obtain ⟨k, hk, _, _⟩ := DataW.trod_int (k := .i64) Try.underlying3 t0
        obtain ⟨k', hk', _, _⟩ := DataW.trod_int (k := .i64) Try.underlying3 t1
        simp only [List.cons.injEq, and_true] at hk hk'
        exact ⟨(k, k'), fun _ => ⟨by rw [c0, hk], by rw [c1, hk']⟩⟩
      · exact ⟨(0, 0), fun h => absurd h hi⟩
    obtain ⟨f, hf'⟩ := Classical.axiomOfChoice each
    refine ⟨some x, len, m, (List.range len).map f, hcs, by simp, ⟨hl, hm⟩, fun h => (by cases h), ?_⟩
    by_cases h0 : len = 0
    · exact .inl (by simp [h0])
    · have c0 := (hf' 0 (by omega)).1
      obtain ⟨b, off, spot⟩ := x
      have hspot : spot = none := by simpa [Addr.add] using World.cell?_spot c0
      subst hspot
      rw [WideShapes.add_plain] at c0
      refine .inr ⟨b, off, rfl, World.block_lt_of_cell? (a := ⟨b, off + 0 * 2, none⟩) _ c0, fun i y hi => ?_⟩
      obtain ⟨hi1, hi2⟩ := List.getElem?_eq_some_iff.1 hi
      simp at hi1 hi2
      obtain ⟨d1, d2⟩ := hf' i hi1
      rw [WideShapes.add_plain] at d1 d2
      rw [← hi2]
      exact ⟨d1, by rw [Nat.add_assoc]; exact d2⟩
/-- A wheel. -/
theorem open_wheel {r : Reach} {b0 : Nat} {v : Value} {d : DataW H} {p : List MemPlace} (hv : Value.okWide Try.prog V r b0 24 v) (h : DataW.Trod enc Try.prog V 0 (fun _ => true) held 24 v d p) :
    ∃ k a n c l, v = .agg #[.int .i64 k, .slice a n c] ∧ TIn V a n c l := by
  obtain ⟨v0, v1, y0, y1, n, rfl, _, _, h0, h1⟩ := open_agg2 Try.underlying24 (by kernel_rfl) (by kernel_rfl) hv h
  obtain ⟨k, hk, _, _⟩ := DataW.trod_int (k := .i64) Try.underlying3 h0
  obtain ⟨a, n, c, l, rfl, hr⟩ := timers_of h1
  simp at hk
  exact ⟨k, a, n, c, l, by rw [hk], hr⟩
/-- A timer. -/
theorem open_timer {r : Reach} {b0 : Nat} {v : Value} {d : DataW H} {p : List MemPlace} (hv : Value.okWide Try.prog V r b0 40 v) (h : DataW.Trod enc Try.prog V 0 (fun _ => true) held 40 v d p) :
    ∃ i t : Int, v = .agg #[.int .i64 i, .int .i64 t] := by
  obtain ⟨v0, v1, y0, y1, n, rfl, _, _, h0, h1⟩ := open_agg2 Try.underlying40 (by kernel_rfl) (by kernel_rfl) hv h
  obtain ⟨k, hk, _, _⟩ := DataW.trod_int (k := .i64) Try.underlying3 h0
  obtain ⟨k', hk', _, _⟩ := DataW.trod_int (k := .i64) Try.underlying3 h1
  simp at hk hk'
  exact ⟨k, k', by rw [hk, hk']⟩
end
end Go.Proofs.Ytmegkfonodcoiaa
