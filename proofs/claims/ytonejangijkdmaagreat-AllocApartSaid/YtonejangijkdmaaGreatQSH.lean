
import Derived.Test.YtonejangijkdmaaGreatQI
import Derived.Deep.SlicePairs
import Derived.OpenShut
import Derived.ChangeOld
import Derived.DataShut
import Derived.Test.YtonejangijkdmaaGreatBE
import Derived.Lib.SmallJoins
import Derived.Test.YtonejangijkdmaaGreatOC
import Derived.Test.YtonejangijkdmaaGreatBL
namespace Go.Proofs.YtonejangijkdmaaGreat
set_option maxRecDepth 100000
open Go.RowKit Go.ChangeShapes Go.WideShapes Go.Deep
section
variable {H : Type} {enc : TypeId × Value -> H} {P : Program} {w : World} {base : Nat} {spare : Nat -> Bool} {held : Bool}
theorem zlb {z : Int} (h : (Lit.int .i64 z).wf = true) : -9223372036854775808 <= z /\ z <= 9223372036854775807 := (Lit.wf_int_iff .i64 z).1 h
end
open Go.RowKit
open Go.ChangeShapes Go.WideShapes Go.Joins
theorem zm5 {cs : Array Value} (h : cs.size = 8) : ∃ c0 c1 c2 c3 c4 c5 c6 c7, cs = #[c0, c1, c2, c3, c4, c5, c6, c7] := by
 obtain ⟨l⟩ := cs
 simp at h
 match l, h with
 | [c0, c1, c2, c3, c4, c5, c6, c7], _ => exact ⟨c0, c1, c2, c3, c4, c5, c6, c7, rfl⟩
section
variable {H : Type} {enc : TypeId × Value -> H} {W : World} {held : Bool}
theorem zjq {fuel : Nat} {v : Value} {y : DataW H × List MemPlace} (h : DataW.trod enc Tryz.prog W 0 (fun _ => true) held fuel 3 [v] = some y) : ∃ k : Int, v = .int .i64 k /\ -9223372036854775808 <= k /\ k <= 9223372036854775807 := by
 obtain ⟨k, hk, _, wk⟩ := DataW.trod_int (k := .i64) Tryz.underlying3 h
 simp at hk
 refine ⟨k, hk, ?_⟩
 simp [Lit.wf, IntKind.min, IntKind.max, IntKind.bits, IntKind.signed] at wk
 omega
theorem zg5 {fuel : Nat} {u v : Value} {y : DataW H × List MemPlace} (h : DataW.trod enc Tryz.prog W 0 (fun _ => true) held fuel 23 [u, v] = some y) : ∃ b k : Int, u = .int .i64 b /\ v = .int .i64 k /\ b <= 9223372036854775807 := by
 obtain ⟨y0, y1, n, hx, _, h0, h1⟩ := trod_struct2 Tryz.underlying23 h
 have z1 : Tryz.prog.cellsOf 3 = 1 := by kernel_rfl
 obtain ⟨b, rfl, _, hb⟩ := zjq (v := u) (by simpa [z1] using h0)
 obtain ⟨k, rfl, _, _⟩ := zjq (v := v) (by simpa [z1] using h1)
 exact ⟨b, k, rfl, rfl, hb⟩
theorem open_det {r : Reach} {b0 : Nat} {v : Value} {d : DataW H} {p : List MemPlace} (hv : Value.okWide Tryz.prog W r b0 25 v) (h : DataW.Trod enc Tryz.prog W 0 (fun _ => true) held 25 v d p) :
  ∃ x : E.D, v = .agg #[x.b, x.k, x.c, x.j, x.lo, x.hi, x.dy, x.bl] /\ x.b <= 9223372036854775807 /\ x.c <= 9223372036854775807 := by
 obtain ⟨cs, rfl, hsz⟩ := okWide_struct Tryz.underlying25 hv
 obtain ⟨c0, c1, c2, c3, c4, c5, c6, c7, rfl⟩ := zm5 (hsz.trans (show Tryz.prog.cellsOf 25 = 8 by kernel_rfl))
 obtain ⟨fuel, hf⟩ := h
 obtain ⟨xs, n, -, -, -, hl, hx⟩ := DataW.trod_struct Tryz.underlying25 hf
 have get : ∀ i (hi : i < 6), ∃ y, xs[i]? = some y := fun i hi => ⟨xs[i]'(by rw [hl]; exact hi), List.getElem?_eq_getElem _⟩
 obtain ⟨y0, g0⟩ := get 0 (by decide)
 obtain ⟨y1, g1⟩ := get 1 (by decide)
 obtain ⟨y2, g2⟩ := get 2 (by decide)
 obtain ⟨y3, g3⟩ := get 3 (by decide)
 obtain ⟨y4, g4⟩ := get 4 (by decide)
 obtain ⟨y5, g5⟩ := get 5 (by decide)
 have t0 := (hx 0 _ rfl).trans g0
 have t1 := (hx 1 _ rfl).trans g1
 have t2 := (hx 2 _ rfl).trans g2
 have t3 := (hx 3 _ rfl).trans g3
 have t4 := (hx 4 _ rfl).trans g4
 have t5 := (hx 5 _ rfl).trans g5
 obtain ⟨b, k, rfl, rfl, hb⟩ := zg5 t0
 obtain ⟨c, j, rfl, rfl, hc⟩ := zg5 t1
 obtain ⟨lo, rfl, -, -⟩ := zjq t2
 obtain ⟨hi, rfl, -, -⟩ := zjq t3
 obtain ⟨dy, rfl, -, -⟩ := zjq t4
 obtain ⟨bl, rfl, -, -⟩ := zjq t5
 exact ⟨⟨b, k, c, j, lo, hi, dy, bl⟩, rfl, hb, hc⟩
end
open Go.RowKit Go.ChangeShapes Go.WideShapes Go.Joins Go.Deep
section
variable {H : Type} {enc : TypeId × Value -> H} {V : World} {held : Bool}
end
open Go.RowKit Go.ChangeShapes Go.WideShapes Go.Joins Go.Deep
section
variable {H : Type} {enc : TypeId × Value -> H} {V : World} {held : Bool}
end
end Go.Proofs.YtonejangijkdmaaGreat
