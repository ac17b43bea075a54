/-
  What a mapping reads as that comes in.
-/
import Derived.Test.YtbnhaoimdponkaaEBox
import Derived.OpenShut
import Derived.ChangeOld
import Derived.Lib.SmallJoins
namespace Go.Proofs.Ytbnhaoimdponkaa
open Go.RowKit

open Go.ChangeShapes Go.WideShapes Go.Joins
theorem array8 {cs : Array Value} (h : cs.size = 8) : ∃ c0 c1 c2 c3 c4 c5 c6 c7, cs = #[c0, c1, c2, c3, c4, c5, c6, c7] := by
  obtain ⟨l⟩ := cs
  simp at h
  match l, h with
  | [c0, c1, c2, c3, c4, c5, c6, c7], _ => exact ⟨c0, c1, c2, c3, c4, c5, c6, c7, rfl⟩
section
variable {H : Type} {enc : TypeId × Value → H} {W : World} {held : Bool}
theorem one_int {fuel : Nat} {v : Value} {y : DataW H × List MemPlace} (h : DataW.trod enc Try.prog W 0 (fun _ => true) held fuel 3 [v] = some y) : ∃ k : Int, v = .int .i64 k ∧ -9223372036854775808 ≤ k ∧ k ≤ 9223372036854775807 := by
  obtain ⟨k, hk, _, wk⟩ := DataW.trod_int (k := .i64) Try.underlying3 h
  simp at hk
  refine ⟨k, hk, ?_⟩
  simp [Lit.wf, IntKind.min, IntKind.max, IntKind.bits, IntKind.signed] at wk
  omega
/-- A prefix within a struct. -/
theorem two_ints {fuel : Nat} {u v : Value} {y : DataW H × List MemPlace} (h : DataW.trod enc Try.prog W 0 (fun _ => true) held fuel 38 [u, v] = some y) : ∃ b k : Int, u = .int .i64 b ∧ v = .int .i64 k ∧ b ≤ 9223372036854775807 := by
  obtain ⟨y0, y1, n, hx, _, h0, h1⟩ := trod_struct2 Try.underlying38 h
  have z1 : Try.prog.cellsOf 3 = 1 := by kernel_rfl
  obtain ⟨b, rfl, _, hb⟩ := one_int (v := u) (by simpa [z1] using h0)
  obtain ⟨k, rfl, _, _⟩ := one_int (v := v) (by simpa [z1] using h1)
  exact ⟨b, k, rfl, rfl, hb⟩
set_option maxRecDepth 100000 in
/-- A mapping. -/
theorem open_det {r : Reach} {b0 : Nat} {v : Value} {d : DataW H} {p : List MemPlace} (hv : Value.okWide Try.prog W r b0 40 v) (h : DataW.Trod enc Try.prog W 0 (fun _ => true) held 40 v d p) :
    ∃ x : E.D, v = .agg #[.int .i64 x.b, .int .i64 x.k, .int .i64 x.c, .int .i64 x.j, .int .i64 x.lo, .int .i64 x.hi, .int .i64 x.dy, .int .i64 x.bl] ∧ x.b ≤ 9223372036854775807 ∧ x.c ≤ 9223372036854775807 := by
  obtain ⟨cs, rfl, hsz⟩ := okWide_struct Try.underlying40 hv
  obtain ⟨c0, c1, c2, c3, c4, c5, c6, c7, rfl⟩ := array8 (hsz.trans (show Try.prog.cellsOf 40 = 8 by kernel_rfl))
  obtain ⟨fuel, hf⟩ := h
  obtain ⟨xs, n, -, -, -, hl, hx⟩ := DataW.trod_struct Try.underlying40 hf
  have get : ∀ i (hi : i < 6), ∃ y, xs[i]? = some y := fun i hi => ⟨xs[i]'(by rw [hl]; exact hi), List.getElem?_eq_getElem _⟩
  obtain ⟨y0, g0⟩ := get 0 (by decide)
  obtain ⟨y1, g1⟩ := get 1 (by decide)
  obtain ⟨y2, g2⟩ := get 2 (by decide)
  obtain ⟨y3, g3⟩ := get 3 (by decide)
  obtain ⟨y4, g4⟩ := get 4 (by decide)
  obtain ⟨y5, g5⟩ := get 5 (by decide)
  have t0 := (hx 0 _ rfl).trans g0
  have t1 := (hx 1 _ rfl).trans g1
  have t2 := (hx 2 _ rfl).trans g2
  have t3 := (hx 3 _ rfl).trans g3
  have t4 := (hx 4 _ rfl).trans g4
  have t5 := (hx 5 _ rfl).trans g5
  obtain ⟨b, k, rfl, rfl, hb⟩ := two_ints t0
  obtain ⟨c, j, rfl, rfl, hc⟩ := two_ints t1
  obtain ⟨lo, rfl, -, -⟩ := one_int t2
  obtain ⟨hi, rfl, -, -⟩ := one_int t3
  obtain ⟨dy, rfl, -, -⟩ := one_int t4
  obtain ⟨bl, rfl, -, -⟩ := one_int t5
  exact ⟨⟨b, k, c, j, lo, hi, dy, bl⟩, rfl, hb, hc⟩
end
end Go.Proofs.Ytbnhaoimdponkaa
