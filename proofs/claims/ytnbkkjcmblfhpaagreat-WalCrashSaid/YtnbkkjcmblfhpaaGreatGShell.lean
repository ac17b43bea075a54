import Derived.Test.YtnbkkjcmblfhpaaGreatP34
import Derived.Test.YtnbkkjcmblfhpaaGreatP21
namespace Go.Proofs.YtnbkkjcmblfhpaaGreat
set_option maxRecDepth 100000
open Go.RowKit Go.ChangeShapes Go.WideShapes Go.Joins Go.Deep
theorem open_wal {H : Type} {enc : TypeId × Value -> H} {W : World} {held : Bool} {r : Reach} {b0 : Nat} {v : Value} {d : DataW H} {p : List MemPlace} (hv : Value.okWide Tryz.prog W r b0 26 v) (h : DataW.Trod enc Tryz.prog W 0 (fun _ => true) held 26 v d p) :
  ∃ k a n c wn wt xs, v = .agg #[.int .i64 k, .slice a n c, .int .i64 wn, .int .i64 wt] /\ zf0 W a n c xs := by
 obtain ⟨cs, rfl, hsz⟩ := okWide_struct Tryz.underlying26 hv
 have hce : Tryz.prog.cellsOf 26 = 4 := by kernel_rfl
 obtain ⟨fuel, hf0⟩ := h
 obtain ⟨ys, q, _, _, _, hyl, hf⟩ := DataW.trod_struct Tryz.underlying26 hf0
 obtain ⟨l⟩ := cs
 match l, hsz.trans hce, ys, hyl with
 | [v0, v1, v2, v3], _, [y0, y1, y2], _ =>
  have g0 : DataW.trod enc Tryz.prog W 0 (fun _ => true) held q 24 [v0, v1] = some y0 := hf 0 _ rfl
  have g1 : DataW.trod enc Tryz.prog W 0 (fun _ => true) held q 3 [v2] = some y1 := hf 1 _ rfl
  have g2 : DataW.trod enc Tryz.prog W 0 (fun _ => true) held q 3 [v3] = some y2 := hf 2 _ rfl
  obtain ⟨zs, q', _, _, _, hzl, hg⟩ := DataW.trod_struct Tryz.underlying24 g0
  match zs, hzl with
  | [z0, z1], _ =>
   have k0 : DataW.trod enc Tryz.prog W 0 (fun _ => true) held q' 3 [v0] = some z0 := hg 0 _ rfl
   have k1 : DataW.trod enc Tryz.prog W 0 (fun _ => true) held q' 22 [v1] = some z1 := hg 1 _ rfl
   obtain ⟨k, e0, _, _⟩ := DataW.trod_int (k := .i64) Tryz.underlying3 k0
   obtain ⟨wn, e1, _, _⟩ := DataW.trod_int (k := .i64) Tryz.underlying3 g1
   obtain ⟨wt, e2, _, _⟩ := DataW.trod_int (k := .i64) Tryz.underlying3 g2
   obtain ⟨a, n, c, xs, rfl, hr⟩ := zyl k1
   simp only [List.cons.injEq, and_true] at e0 e1 e2
   subst e0 e1 e2
   exact ⟨k, a, n, c, wn, wt, xs, rfl, hr⟩
end Go.Proofs.YtnbkkjcmblfhpaaGreat
