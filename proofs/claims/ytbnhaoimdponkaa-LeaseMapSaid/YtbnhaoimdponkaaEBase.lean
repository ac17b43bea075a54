/-
  Each, Blocks, Base at every mapping.
-/
import Derived.Test.YtbnhaoimdponkaaEMath
import Derived.Test.YtbnhaoimdponkaaReg2
import Derived.Deep.RegionWith
namespace Go.Proofs.Ytbnhaoimdponkaa
open Go.RowKit

/-- What the walks reckon of a mapping that fits. -/
theorem E.Fits.sh_of {x : E.D} (h : E.Fits x) : IntKind.i64.wrap (x.hi - x.lo) = x.hi - x.lo ∧ IntKind.i64.wrap (x.hi - x.lo + 1) = x.hi - x.lo + 1 ∧ IntKind.i64.wrap (x.hi - x.lo + 1 - x.dy) = E.sh x := by
  have h1 := h.lo
  have h2 := h.dy
  exact ⟨IntWalk.i64_in _ (by omega), IntWalk.i64_in _ (by omega), IntWalk.i64_in _ (by omega)⟩
theorem shared_fits {x : E.D} (h : E.Fits x) (n : Int) (w : World) (hn : E.sh x = n) : Calls Try.prog 79 #[.agg #[.int .i64 x.b, .int .i64 x.k, .int .i64 x.c, .int .i64 x.j, .int .i64 x.lo, .int .i64 x.hi, .int .i64 x.dy, .int .i64 x.bl]] w fun e w' => e = .returned (.int .i64 n) ∧ Below w.heap.size w w' := by
  obtain ⟨h1, h2, h3⟩ := h.sh_of
  rw [hn] at h3
  exact shared_any x _ _ _ w h1 h2 h3

set_option maxHeartbeats 400000 in
theorem blocks_any (x : E.D) (n : Int) (w : World) (h : E.nb x = n) (hb : x.b ≤ 9223372036854775807) (hc : x.c ≤ 9223372036854775807) :
    Calls Try.prog 40 #[.agg #[.int .i64 x.b, .int .i64 x.k, .int .i64 x.c, .int .i64 x.j, .int .i64 x.lo, .int .i64 x.hi, .int .i64 x.dy, .int .i64 x.bl]] w fun e w' => e = .returned (.int .i64 n) ∧ Below w.heap.size w w' := by
  have HR := Lib.hid h
  have HB := Lib.hid (ebox_below w x)
  have HK := Lib.hid (ebox_blok w x)
  clear h
  cases hf : E.fit x
  · have HN : Hid (n = 0) := Lib.hid (by rw [← HR.out]; unfold E.nb; rw [hf]; rfl)
    have hm := fit_any x false (ebox w x) hf hb hc
    clear hf
    go_enter Try.func40, Try.ntmps40
    go_wp2_with fail
    refine hm.mono ?_
    rintro e w1 ⟨rfl, hb1⟩
    go_wp2
    go_ret
    exact ⟨by rw [HN.out]; rfl, HB.out.trans (hb1.mono HB.out.size)⟩
  · have hF := E.fits_iff.1 hf
    have he := hF.nb'
    have hd := hF.dy
    have hbl := hF.bl
    rw [HR.out] at he
    have a1 : ¬ x.bl = 0 := by omega
    have a2 : Int.tdiv x.dy x.bl = n := by rw [Int.tdiv_eq_ediv_of_nonneg hd.1]; exact he.2.2.2.2.symm
    have a3 : IntKind.i64.wrap n = n := IntWalk.i64_in _ (by omega)
    have hm := fit_any x true (ebox w x) hf hb hc
    clear hf hF hd he hbl
    go_enter Try.func40, Try.ntmps40
    go_wp2_with fail
    refine hm.mono ?_
    rintro e w1 ⟨rfl, hb1⟩
    have k0 := e0 (HK.out.below hb1 HK.out.lt)
    have k1 := e1 (HK.out.below hb1 HK.out.lt)
    have k2 := e2 (HK.out.below hb1 HK.out.lt)
    have k3 := e3 (HK.out.below hb1 HK.out.lt)
    have k4 := e4 (HK.out.below hb1 HK.out.lt)
    have k5 := e5 (HK.out.below hb1 HK.out.lt)
    have k6 := e6 (HK.out.below hb1 HK.out.lt)
    have k7 := e7 (HK.out.below hb1 HK.out.lt)
    have HB1 := Lib.hid (HB.out.trans (hb1.mono HB.out.size))
    clear hb1 hm
    go_wp2
    go_ret
    exact ⟨rfl, HB1.out⟩

end Go.Proofs.Ytbnhaoimdponkaa
