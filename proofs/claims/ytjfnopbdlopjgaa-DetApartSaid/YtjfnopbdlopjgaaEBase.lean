/-
  Each, Blocks, Base at every mapping.
-/
import Derived.Test.YtjfnopbdlopjgaaEMath
import Derived.Test.YtjfnopbdlopjgaaReg2
import Derived.Deep.RegionWith
namespace Go.Proofs.Ytjfnopbdlopjgaa
open Go.RowKit

/-- What the walks reckon of a mapping that fits. -/
theorem E.Fits.sh_of {x : E.D} (h : E.Fits x) : IntKind.i64.wrap (x.hi - x.lo) = x.hi - x.lo ∧ IntKind.i64.wrap (x.hi - x.lo + 1) = x.hi - x.lo + 1 ∧ IntKind.i64.wrap (x.hi - x.lo + 1 - x.dy) = E.sh x := by
  have h1 := h.lo
  have h2 := h.dy
  exact ⟨IntWalk.i64_in _ (by omega), IntWalk.i64_in _ (by omega), IntWalk.i64_in _ (by omega)⟩
theorem shared_fits {x : E.D} (h : E.Fits x) (n : Int) (w : World) (hn : E.sh x = n) : Calls Try.prog 45 #[.agg #[.int .i64 x.b, .int .i64 x.k, .int .i64 x.c, .int .i64 x.j, .int .i64 x.lo, .int .i64 x.hi, .int .i64 x.dy, .int .i64 x.bl]] w fun e w' => e = .returned (.int .i64 n) ∧ Below w.heap.size w w' := by
  obtain ⟨h1, h2, h3⟩ := h.sh_of
  rw [hn] at h3
  exact shared_any x _ _ _ w h1 h2 h3

set_option maxHeartbeats 400000 in
theorem each_any (x : E.D) (n : Int) (w : World) (h : E.each x = n) (hb : x.b ≤ 9223372036854775807) (hc : x.c ≤ 9223372036854775807) :
    Calls Try.prog 21 #[.agg #[.int .i64 x.b, .int .i64 x.k, .int .i64 x.c, .int .i64 x.j, .int .i64 x.lo, .int .i64 x.hi, .int .i64 x.dy, .int .i64 x.bl]] w fun e w' => e = .returned (.int .i64 n) ∧ Below w.heap.size w w' := by
  have HR := Lib.hid h
  have HB := Lib.hid (ebox_below w x)
  have HK := Lib.hid (ebox_blok w x)
  clear h
  cases hf : E.fit x
  · have HN : Hid (n = 0) := Lib.hid (by rw [← HR.out]; unfold E.each; rw [hf]; rfl)
    have hm := fit_any x false (ebox w x) hf hb hc
    clear hf
    go_enter Try.func21, Try.ntmps21
    go_wp2_with fail
    refine hm.mono ?_
    rintro e w1 ⟨rfl, hb1⟩
    go_wp2
    go_ret
    exact ⟨by rw [HN.out]; rfl, HB.out.trans (hb1.mono HB.out.size)⟩
  · have hF := E.fits_iff.1 hf
    have hr := hF.ratio
    have he := hF.each
    obtain ⟨s, hs⟩ : ∃ s, E.sh x = s := ⟨_, rfl⟩
    obtain ⟨r, hrr⟩ : ∃ r, E.ratio x = r := ⟨_, rfl⟩
    rw [HR.out, hs, hrr] at he
    rw [hrr] at hr
    have a1 : ¬ r = 0 := by omega
    have a2 : Int.tdiv s r = n := by rw [Int.tdiv_eq_ediv_of_nonneg (by omega)]; exact he.2.2.2.2.2.symm
    have a3 : IntKind.i64.wrap n = n := IntWalk.i64_in _ (by omega)
    have hp := fun W => shared_fits hF s W hs
    have hq := fun W => ratio_any x r W hrr
    have hm := fit_any x true (ebox w x) hf hb hc
    clear hf hF hr he hs hrr
    go_enter Try.func21, Try.ntmps21
    go_wp2_with fail
    refine hm.mono ?_
    rintro e w1 ⟨rfl, hb1⟩
    have k0 := e0 (HK.out.below hb1 HK.out.lt)
    have k1 := e1 (HK.out.below hb1 HK.out.lt)
    have k2 := e2 (HK.out.below hb1 HK.out.lt)
    have k3 := e3 (HK.out.below hb1 HK.out.lt)
    have k4 := e4 (HK.out.below hb1 HK.out.lt)
    have k5 := e5 (HK.out.below hb1 HK.out.lt)
    have k6 := e6 (HK.out.below hb1 HK.out.lt)
    have k7 := e7 (HK.out.below hb1 HK.out.lt)
    have c0 := ce0 (w := w1) (HK.out.below hb1 HK.out.lt)
    have c1 := ce1 (w := w1) (HK.out.below hb1 HK.out.lt)
    have c2 := ce2 (w := w1) (HK.out.below hb1 HK.out.lt)
    have c3 := ce3 (w := w1) (HK.out.below hb1 HK.out.lt)
    have c4 := ce4 (w := w1) (HK.out.below hb1 HK.out.lt)
    have c5 := ce5 (w := w1) (HK.out.below hb1 HK.out.lt)
    have c6 := ce6 (w := w1) (HK.out.below hb1 HK.out.lt)
    have c7 := ce7 (w := w1) (HK.out.below hb1 HK.out.lt)
    have HB1 := Lib.hid (HB.out.trans (hb1.mono HB.out.size))
    clear hb1 hm
    go_wp2_with fail
    refine wp_region_quiet_below (by kernel_rfl) (by kernel_rfl) ?_
    repeat (go_big_quiet_step (first | exact Calls.regrown_of (hp _) | exact Calls.regrown_of (hq _)))
    refine wpQuiet_nil ?_
    intro _ hw'
    obtain ⟨⟨dq, osq⟩, hw''⟩ := hw'
    subst hw''
    go_wp2
    go_ret
    exact ⟨rfl, HB1.out.trans ((below_regrown _ dq osq).mono HB1.out.size)⟩

set_option maxHeartbeats 400000 in
theorem blocks_any (x : E.D) (n : Int) (w : World) (h : E.nb x = n) (hb : x.b ≤ 9223372036854775807) (hc : x.c ≤ 9223372036854775807) :
    Calls Try.prog 23 #[.agg #[.int .i64 x.b, .int .i64 x.k, .int .i64 x.c, .int .i64 x.j, .int .i64 x.lo, .int .i64 x.hi, .int .i64 x.dy, .int .i64 x.bl]] w fun e w' => e = .returned (.int .i64 n) ∧ Below w.heap.size w w' := by
  have HR := Lib.hid h
  have HB := Lib.hid (ebox_below w x)
  have HK := Lib.hid (ebox_blok w x)
  clear h
  cases hf : E.fit x
  · have HN : Hid (n = 0) := Lib.hid (by rw [← HR.out]; unfold E.nb; rw [hf]; rfl)
    have hm := fit_any x false (ebox w x) hf hb hc
    clear hf
    go_enter Try.func23, Try.ntmps23
    go_wp2_with fail
    refine hm.mono ?_
    rintro e w1 ⟨rfl, hb1⟩
    go_wp2
    go_ret
    exact ⟨by rw [HN.out]; rfl, HB.out.trans (hb1.mono HB.out.size)⟩
  · have hF := E.fits_iff.1 hf
    have he := hF.nb'
    have hd := hF.dy
    have hbl := hF.bl
    rw [HR.out] at he
    have a1 : ¬ x.bl = 0 := by omega
    have a2 : Int.tdiv x.dy x.bl = n := by rw [Int.tdiv_eq_ediv_of_nonneg hd.1]; exact he.2.2.2.2.symm
    have a3 : IntKind.i64.wrap n = n := IntWalk.i64_in _ (by omega)
    have hm := fit_any x true (ebox w x) hf hb hc
    clear hf hF hd he hbl
    go_enter Try.func23, Try.ntmps23
    go_wp2_with fail
    refine hm.mono ?_
    rintro e w1 ⟨rfl, hb1⟩
    have k0 := e0 (HK.out.below hb1 HK.out.lt)
    have k1 := e1 (HK.out.below hb1 HK.out.lt)
    have k2 := e2 (HK.out.below hb1 HK.out.lt)
    have k3 := e3 (HK.out.below hb1 HK.out.lt)
    have k4 := e4 (HK.out.below hb1 HK.out.lt)
    have k5 := e5 (HK.out.below hb1 HK.out.lt)
    have k6 := e6 (HK.out.below hb1 HK.out.lt)
    have k7 := e7 (HK.out.below hb1 HK.out.lt)
    have HB1 := Lib.hid (HB.out.trans (hb1.mono HB.out.size))
    clear hb1 hm
    go_wp2
    go_ret
    exact ⟨rfl, HB1.out⟩

/-- A box of a mapping, and one of a span behind it. -/
def esbox (w : World) (x : E.D) : World := sbox (ebox w x) 0 0 0
theorem esbox_below (w : World) (x : E.D) : Below w.heap.size w (esbox w x) := (ebox_below w x).trans ((sbox_below _ 0 0 0).mono (ebox_below w x).size)
theorem esbox_d (w : World) (x : E.D) : Blok (esbox w x) w.heap.size 25 #[.int .i64 x.b, .int .i64 x.k, .int .i64 x.c, .int .i64 x.j, .int .i64 x.lo, .int .i64 x.hi, .int .i64 x.dy, .int .i64 x.bl] := (ebox_blok w x).alloc _
theorem esbox_s (w : World) (x : E.D) : Blok (esbox w x) (w.heap.size + 1) 28 #[.int .i64 0, .int .i64 0, .int .i64 0] := by
  have := sbox_blok (ebox w x) 0 0 0
  rwa [ebox_size] at this
/-- A span stored into its own cell. -/
theorem fin_span {w W : World} (g : Nat) (hg : w.heap.size ≤ g) {u v z : Value} (hk : Blok W g 28 #[u, v, z]) (hB : Below w.heap.size w W) (a f t : Int) :
    Blok (((W.setCell ⟨g, 0, none⟩ (.int .i64 a)).setCell ⟨g, 1, none⟩ (.int .i64 f)).setCell ⟨g, 2, none⟩ (.int .i64 t)) g 28 #[.int .i64 a, .int .i64 f, .int .i64 t] ∧
    Below w.heap.size w (((W.setCell ⟨g, 0, none⟩ (.int .i64 a)).setCell ⟨g, 1, none⟩ (.int .i64 f)).setCell ⟨g, 2, none⟩ (.int .i64 t)) := by
  refine ⟨?_, ((hB.setCell (p := ⟨g, 0, none⟩) hg _).setCell (p := ⟨g, 1, none⟩) hg _).setCell (p := ⟨g, 2, none⟩) hg _⟩
  have := ((hk.set 0 (.int .i64 a)).set 1 (.int .i64 f)).set 2 (.int .i64 t)
  simpa using this

set_option maxHeartbeats 400000 in
theorem base_any (x : E.D) (s a f t : Int) (v : Bool) (w : World) (hv : E.baseB x s = v) (ha : E.baseA x s = a) (hf : E.baseF x s = f) (ht : E.baseT x s = t) (hb : x.b ≤ 9223372036854775807) (hc : x.c ≤ 9223372036854775807) :
    Calls Try.prog 11 #[.agg #[.int .i64 x.b, .int .i64 x.k, .int .i64 x.c, .int .i64 x.j, .int .i64 x.lo, .int .i64 x.hi, .int .i64 x.dy, .int .i64 x.bl], .int .i64 s] w fun e w' => e = .returned (.tuple #[.agg #[.int .i64 a, .int .i64 f, .int .i64 t], .bool v]) ∧ Below w.heap.size w w' := by
  have HB := Lib.hid (esbox_below w x)
  have HK := Lib.hid (esbox_d w x)
  have HS := Lib.hid (esbox_s w x)
  cases hd : E.baseB x s
  · have HN : Hid (v = false ∧ a = 0 ∧ f = 0 ∧ t = 0) := Lib.hid ⟨by rw [← hv, hd], by rw [← ha]; unfold E.baseA; rw [hd]; rfl, by rw [← hf]; unfold E.baseF; rw [hd]; rfl, by rw [← ht]; unfold E.baseT; rw [hd]; rfl⟩
    clear hv ha hf ht
    cases hfit : E.fit x
    · have hm := fit_any x false (esbox w x) hfit hb hc
      clear hfit hd
      go_enter Try.func11, Try.ntmps11
      go_wp2_with fail
      refine hm.mono ?_
      rintro e w1 ⟨rfl, hb1⟩
      have hs := HS.out.below hb1 HS.out.lt
      have f0 := hs.frozen 0
      have f1 := hs.frozen 1
      have f2 := hs.frozen 2
      have c0 := s0 hs
      have c1 := s1 hs
      have c2 := s2 hs
      have HFP := Lib.hid (fin_span (w := w) (w.heap.size + 1) (by omega) hs (HB.out.trans (hb1.mono HB.out.size)) 0 0 0)
      clear hb1
      go_wp2
      refine bodyPost_ret (ret_span2 rfl (w.heap.size + 1) 0 0 0 (by kernel_rfl) rfl HFP.out.1) rfl ?_
      exact ⟨by rw [HN.out.1, HN.out.2.1, HN.out.2.2.1, HN.out.2.2.2]; rfl, HFP.out.2⟩
    · have hm := fit_any x true (esbox w x) hfit hb hc
      have hF := E.fits_iff.1 hfit
      obtain ⟨p, hp⟩ : ∃ p, E.ni x = p := ⟨_, rfl⟩
      have hsub := fun W => subscribers_any x p W hp
      by_cases s0' : s < 0
      · have d0 : decide (s < 0) = true := decide_eq_true s0'
        clear hfit hd hF hp
        go_enter Try.func11, Try.ntmps11
        go_wp2_with fail
        refine hm.mono ?_
        rintro e w1 ⟨rfl, hb1⟩
        have hs := HS.out.below hb1 HS.out.lt
        have f0 := hs.frozen 0
        have f1 := hs.frozen 1
        have f2 := hs.frozen 2
        have c0 := s0 hs
        have c1 := s1 hs
        have c2 := s2 hs
        have HFP := Lib.hid (fin_span (w := w) (w.heap.size + 1) (by omega) hs (HB.out.trans (hb1.mono HB.out.size)) 0 0 0)
        clear hb1
        go_wp2
        refine bodyPost_ret (ret_span2 rfl (w.heap.size + 1) 0 0 0 (by kernel_rfl) rfl HFP.out.1) rfl ?_
        exact ⟨by rw [HN.out.1, HN.out.2.1, HN.out.2.2.1, HN.out.2.2.2]; rfl, HFP.out.2⟩
      · have d0 : decide (s < 0) = false := decide_eq_false s0'
        have hps : p ≤ s := by
          rw [← hp]
          refine Int.not_lt.1 fun h => ?_
          rw [E.baseB_iff.2 ⟨hF, by omega, h⟩] at hd
          cases hd
        have d1 : decide (p ≤ s) = true := decide_eq_true hps
        clear hfit hd hF hp hps
        go_enter Try.func11, Try.ntmps11
        go_wp2_with fail
        refine hm.mono ?_
        rintro e w1 ⟨rfl, hb1⟩
        have k0 := e0 (HK.out.below hb1 HK.out.lt)
        have k1 := e1 (HK.out.below hb1 HK.out.lt)
        have k2 := e2 (HK.out.below hb1 HK.out.lt)
        have k3 := e3 (HK.out.below hb1 HK.out.lt)
        have k4 := e4 (HK.out.below hb1 HK.out.lt)
        have k5 := e5 (HK.out.below hb1 HK.out.lt)
        have k6 := e6 (HK.out.below hb1 HK.out.lt)
        have k7 := e7 (HK.out.below hb1 HK.out.lt)
        have HB1 := Lib.hid (HB.out.trans (hb1.mono HB.out.size))
        have HS1 := Lib.hid (HS.out.below hb1 HS.out.lt)
        clear hb1 hm
        go_wp2_with fail
        refine (hsub w1).mono ?_
        clear k0 k1 k2 k3 k4 k5 k6 k7
        rintro e w2 ⟨rfl, hb2⟩
        have hs := HS1.out.below hb2 HS1.out.lt
        have f0 := hs.frozen 0
        have f1 := hs.frozen 1
        have f2 := hs.frozen 2
        have c0 := s0 hs
        have c1 := s1 hs
        have c2 := s2 hs
        have HFP := Lib.hid (fin_span (w := w) (w.heap.size + 1) (by omega) hs (HB1.out.trans (hb2.mono HB1.out.size)) 0 0 0)
        clear hb2
        go_wp2
        refine bodyPost_ret (ret_span2 rfl (w.heap.size + 1) 0 0 0 (by kernel_rfl) rfl HFP.out.1) rfl ?_
        exact ⟨by rw [HN.out.1, HN.out.2.1, HN.out.2.2.1, HN.out.2.2.2]; rfl, HFP.out.2⟩
  · obtain ⟨hF, hs0, e1, e2, e3, hbA, hb4, hb5, hb6, -, -, a2, a3, a4⟩ := E.base_in hd
    have hfit := E.fits_iff.2 hF
    have hl := hF.lo
    have hdy := hF.dy
    have hn := hF.ni
    have hno := hF.no
    have hrr := hF.ratio
    have hee := hF.each
    obtain ⟨p, hp⟩ : ∃ p, E.ni x = p := ⟨_, rfl⟩
    obtain ⟨r, hr⟩ : ∃ r, E.ratio x = r := ⟨_, rfl⟩
    obtain ⟨n, hen⟩ : ∃ n, E.each x = n := ⟨_, rfl⟩
    obtain ⟨m, hmm⟩ : ∃ m, s % r = m := ⟨_, rfl⟩
    obtain ⟨y, hy⟩ : ∃ y, m * n = y := ⟨_, rfl⟩
    rw [hr, hen, hmm, hy] at a4
    rw [ha] at e1 hbA
    rw [hf] at e2 e3 hb4 hb5
    rw [ht] at e3 hb5 hb6
    rw [hr] at e1 hrr a2 a3
    rw [hr, hmm, hen, hy] at e2
    rw [hmm] at a2 a3
    rw [hen] at e3 hee
    rw [hp] at hs0 hn
    have w0 : ¬ r = 0 := by omega
    have w1' : Int.tdiv s r = a := by rw [Int.tdiv_eq_ediv_of_nonneg hs0.1]; exact e1.symm
    have w2' : IntKind.i64.wrap a = a := IntWalk.i64_in _ (by omega)
    have w3' : Int.tmod s r = m := by rw [Int.tmod_eq_emod_of_nonneg hs0.1]; exact hmm
    have w4' : IntKind.i64.wrap m = m := IntWalk.i64_in _ (by omega)
    have w5' : IntKind.i64.wrap (m * n) = y := by rw [hy]; exact IntWalk.i64_in _ (by omega)
    have w6' : IntKind.i64.wrap (x.lo + y) = f := by rw [← e2]; exact IntWalk.i64_in _ (by omega)
    have hspan := fun W => span_any a f n (f + n) t W (IntWalk.i64_in _ (by omega)) (by rw [e3]; exact IntWalk.i64_in _ (by omega))
    have HN : Hid (v = true) := Lib.hid (by rw [← hv, hd])
    have d0 : decide (s < 0) = false := decide_eq_false (by omega)
    have d1 : decide (p ≤ s) = false := decide_eq_false (by omega)
    have hm := fit_any x true (esbox w x) hfit hb hc
    have hsub := fun W => subscribers_any x p W hp
    have hrat := fun W => ratio_any x r W hr
    have heach := fun W => each_any x n W hen hb hc
    clear hv ha hf ht hd hF hs0 e1 e2 e3 hbA hb4 hb5 hb6 a2 a3 a4 hfit hl hdy hn hno hrr hee hp hr hen hmm hy
    go_enter Try.func11, Try.ntmps11
    go_wp2_with fail
    refine hm.mono ?_
    rintro e w1 ⟨rfl, hb1⟩
    have k0 := e0 (HK.out.below hb1 HK.out.lt)
    have k1 := e1 (HK.out.below hb1 HK.out.lt)
    have k2 := e2 (HK.out.below hb1 HK.out.lt)
    have k3 := e3 (HK.out.below hb1 HK.out.lt)
    have k4 := e4 (HK.out.below hb1 HK.out.lt)
    have k5 := e5 (HK.out.below hb1 HK.out.lt)
    have k6 := e6 (HK.out.below hb1 HK.out.lt)
    have k7 := e7 (HK.out.below hb1 HK.out.lt)
    have HB1 := Lib.hid (HB.out.trans (hb1.mono HB.out.size))
    have HS1 := Lib.hid (HS.out.below hb1 HS.out.lt)
    have HK1 := Lib.hid (HK.out.below hb1 HK.out.lt)
    clear hb1 hm
    go_wp2_with fail
    refine (hsub w1).mono ?_
    clear k0 k1 k2 k3 k4 k5 k6 k7
    rintro e w2 ⟨rfl, hb2⟩
    have k0 := e0 (HK1.out.below hb2 HK1.out.lt)
    have k1 := e1 (HK1.out.below hb2 HK1.out.lt)
    have k2 := e2 (HK1.out.below hb2 HK1.out.lt)
    have k3 := e3 (HK1.out.below hb2 HK1.out.lt)
    have k4 := e4 (HK1.out.below hb2 HK1.out.lt)
    have k5 := e5 (HK1.out.below hb2 HK1.out.lt)
    have k6 := e6 (HK1.out.below hb2 HK1.out.lt)
    have k7 := e7 (HK1.out.below hb2 HK1.out.lt)
    have c0 := ce0 (w := w2) (HK1.out.below hb2 HK1.out.lt)
    have c1 := ce1 (w := w2) (HK1.out.below hb2 HK1.out.lt)
    have c2 := ce2 (w := w2) (HK1.out.below hb2 HK1.out.lt)
    have c3 := ce3 (w := w2) (HK1.out.below hb2 HK1.out.lt)
    have c4 := ce4 (w := w2) (HK1.out.below hb2 HK1.out.lt)
    have c5 := ce5 (w := w2) (HK1.out.below hb2 HK1.out.lt)
    have c6 := ce6 (w := w2) (HK1.out.below hb2 HK1.out.lt)
    have c7 := ce7 (w := w2) (HK1.out.below hb2 HK1.out.lt)
    have HB2 := Lib.hid (HB1.out.trans (hb2.mono HB1.out.size))
    have HS2 := Lib.hid (HS1.out.below hb2 HS1.out.lt)
    have HK2 := Lib.hid (HK1.out.below hb2 HK1.out.lt)
    clear hb2 hsub
    go_wp2_with fail
    refine wp_region_quiet_below (by kernel_rfl) (by kernel_rfl) ?_
    repeat (go_big_quiet_step (first | exact Calls.regrown_of (hrat _) | exact Calls.regrown_of (heach _)))
    refine wpQuiet_nil ?_
    intro _ hw'
    obtain ⟨⟨dq, osq⟩, hw''⟩ := hw'
    subst hw''
    clear k0 k1 k2 k3 k4 k5 k6 k7
    clear c0 c1 c2 c3 c4 c5 c6 c7
    obtain ⟨w3, hw3⟩ : ∃ w3, Go.Sort.grow (redrawn w2 dq) osq = w3 := ⟨_, rfl⟩
    have hb3 : Below w2.heap.size w2 w3 := by rw [← hw3]; exact below_regrown _ _ _
    rw [hw3]
    clear hw3
    have HS3 := Lib.hid (HS2.out.below hb3 HS2.out.lt)
    have k0 := e0 (HK2.out.below hb3 HK2.out.lt)
    have k1 := e1 (HK2.out.below hb3 HK2.out.lt)
    have k2 := e2 (HK2.out.below hb3 HK2.out.lt)
    have k3 := e3 (HK2.out.below hb3 HK2.out.lt)
    have k4 := e4 (HK2.out.below hb3 HK2.out.lt)
    have k5 := e5 (HK2.out.below hb3 HK2.out.lt)
    have k6 := e6 (HK2.out.below hb3 HK2.out.lt)
    have k7 := e7 (HK2.out.below hb3 HK2.out.lt)
    have HB3 := Lib.hid (HB2.out.trans (hb3.mono HB2.out.size))
    have HS3 := Lib.hid (HS2.out.below hb3 HS2.out.lt)
    clear hb3
    go_wp2_with fail
    go_region_with (go_at_call 29; refine (hspan _).mono ?_; rintro e w5 ⟨rfl, hb5⟩; have hs := HS3.out.drew.below hb5 HS3.out.lt; have f0 := hs.frozen 0; have f1 := hs.frozen 1; have f2 := hs.frozen 2; have c0 := s0 hs; have c1 := s1 hs; have c2 := s2 hs; have HFP := Lib.hid (fin_span (w := w) (w.heap.size + 1) (by omega) hs (HB3.out.trans ((below_drew w3).trans (hb5.mono (Nat.le_refl _)) |>.mono HB3.out.size)) a f t); clear hb5 hs)
    go_wp2
    refine bodyPost_ret (ret_span2 rfl (w.heap.size + 1) a f t (by kernel_rfl) rfl HFP.out.1) rfl ?_
    exact ⟨by rw [HN.out]; rfl, HFP.out.2⟩
end Go.Proofs.Ytjfnopbdlopjgaa
