/-
  The document's Each, Blocks, Base and Block at every mapping.
-/
import Derived.Test.YtjfnopbdlopjgaaERefFit
import Derived.Test.YtjfnopbdlopjgaaEBlk
namespace Go.Proofs.Ytjfnopbdlopjgaa
open Go.RowKit

set_option maxHeartbeats 400000 in
theorem refEach_any (x : E.D) (n : Int) (w : World) (h : E.each x = n) (hb : x.b ≤ 9223372036854775807) (hc : x.c ≤ 9223372036854775807) :
    Calls Try.prog 22 #[.agg #[.int .i64 x.b, .int .i64 x.k, .int .i64 x.c, .int .i64 x.j, .int .i64 x.lo, .int .i64 x.hi, .int .i64 x.dy, .int .i64 x.bl]] w fun e w' => e = .returned (.int .i64 n) ∧ Below w.heap.size w w' := by
  have HR := Lib.hid h
  have HB0 := Lib.hid (ebox_below w x)
  have HK0 := Lib.hid (ebox_blok w x)
  clear h
  cases hf : E.fit x
  · have HN : Hid (n = 0) := Lib.hid (by rw [← HR.out]; unfold E.each; rw [hf]; rfl)
    have hm := refFit_any x false (ebox w x) hf hb hc
    clear hf hb hc
    go_enter Try.func22, Try.ntmps22
    go_wp2_with fail
    refine (hm).mono ?_
    skip
    rintro e w1 ⟨rfl, hb⟩
    have k0 := e0 (HK0.out.below hb HK0.out.lt)
    have k1 := e1 (HK0.out.below hb HK0.out.lt)
    have k2 := e2 (HK0.out.below hb HK0.out.lt)
    have k3 := e3 (HK0.out.below hb HK0.out.lt)
    have k4 := e4 (HK0.out.below hb HK0.out.lt)
    have k5 := e5 (HK0.out.below hb HK0.out.lt)
    have k6 := e6 (HK0.out.below hb HK0.out.lt)
    have k7 := e7 (HK0.out.below hb HK0.out.lt)
    have HB1 := Lib.hid (HB0.out.trans (hb.mono HB0.out.size))
    have HK1 := Lib.hid (HK0.out.below hb HK0.out.lt)
    clear hb
    go_wp2
    go_ret
    exact ⟨by rw [HN.out]; rfl, HB1.out⟩
  · have hF := E.fits_iff.1 hf
    have hr := hF.ratio
    have he := hF.each
    obtain ⟨y1, y2, y3⟩ := hF.sh_of
    obtain ⟨s, hs⟩ : ∃ s, E.sh x = s := ⟨_, rfl⟩
    obtain ⟨r, hrr⟩ : ∃ r, E.ratio x = r := ⟨_, rfl⟩
    rw [hs] at y3
    rw [HR.out, hs, hrr] at he
    rw [hrr] at hr
    have a1 : ¬ r = 0 := by omega
    have a2 : Int.tdiv s r = n := by rw [Int.tdiv_eq_ediv_of_nonneg (by omega)]; exact he.2.2.2.2.2.symm
    have a3 : IntKind.i64.wrap n = n := IntWalk.i64_in _ (by omega)
    have hq := fun W => refRatio_any x r W hrr
    have hm := refFit_any x true (ebox w x) hf hb hc
    clear hf hF hr he hs hrr hb hc
    go_enter Try.func22, Try.ntmps22
    go_wp2_with fail
    refine (hm).mono ?_
    skip
    rintro e w1 ⟨rfl, hb⟩
    have k0 := e0 (HK0.out.below hb HK0.out.lt)
    have k1 := e1 (HK0.out.below hb HK0.out.lt)
    have k2 := e2 (HK0.out.below hb HK0.out.lt)
    have k3 := e3 (HK0.out.below hb HK0.out.lt)
    have k4 := e4 (HK0.out.below hb HK0.out.lt)
    have k5 := e5 (HK0.out.below hb HK0.out.lt)
    have k6 := e6 (HK0.out.below hb HK0.out.lt)
    have k7 := e7 (HK0.out.below hb HK0.out.lt)
    have HB1 := Lib.hid (HB0.out.trans (hb.mono HB0.out.size))
    have HK1 := Lib.hid (HK0.out.below hb HK0.out.lt)
    clear hb
    have c0 := ce0 (w := w1) HK1.out
    have c1 := ce1 (w := w1) HK1.out
    have c2 := ce2 (w := w1) HK1.out
    have c3 := ce3 (w := w1) HK1.out
    have c4 := ce4 (w := w1) HK1.out
    have c5 := ce5 (w := w1) HK1.out
    have c6 := ce6 (w := w1) HK1.out
    have c7 := ce7 (w := w1) HK1.out
    go_wp2_with fail
    refine wp_region_quiet_below (by kernel_rfl) (by kernel_rfl) ?_
    repeat (go_big_quiet_step (first | exact Calls.regrown_of (hq _)))
    refine wpQuiet_nil ?_
    intro _ hw'
    obtain ⟨⟨dq, osq⟩, hw''⟩ := hw'
    subst hw''
    go_wp2
    go_ret
    exact ⟨rfl, HB1.out.trans ((below_regrown _ dq osq).mono HB1.out.size)⟩

set_option maxHeartbeats 400000 in
theorem refBlocks_any (x : E.D) (n : Int) (w : World) (h : E.nb x = n) (hb : x.b ≤ 9223372036854775807) (hc : x.c ≤ 9223372036854775807) :
    Calls Try.prog 24 #[.agg #[.int .i64 x.b, .int .i64 x.k, .int .i64 x.c, .int .i64 x.j, .int .i64 x.lo, .int .i64 x.hi, .int .i64 x.dy, .int .i64 x.bl]] w fun e w' => e = .returned (.int .i64 n) ∧ Below w.heap.size w w' := by
  have HR := Lib.hid h
  have HB0 := Lib.hid (ebox_below w x)
  have HK0 := Lib.hid (ebox_blok w x)
  clear h
  cases hf : E.fit x
  · have HN : Hid (n = 0) := Lib.hid (by rw [← HR.out]; unfold E.nb; rw [hf]; rfl)
    have hm := refFit_any x false (ebox w x) hf hb hc
    clear hf hb hc
    go_enter Try.func24, Try.ntmps24
    go_wp2_with fail
    refine (hm).mono ?_
    skip
    rintro e w1 ⟨rfl, hb⟩
    have k0 := e0 (HK0.out.below hb HK0.out.lt)
    have k1 := e1 (HK0.out.below hb HK0.out.lt)
    have k2 := e2 (HK0.out.below hb HK0.out.lt)
    have k3 := e3 (HK0.out.below hb HK0.out.lt)
    have k4 := e4 (HK0.out.below hb HK0.out.lt)
    have k5 := e5 (HK0.out.below hb HK0.out.lt)
    have k6 := e6 (HK0.out.below hb HK0.out.lt)
    have k7 := e7 (HK0.out.below hb HK0.out.lt)
    have HB1 := Lib.hid (HB0.out.trans (hb.mono HB0.out.size))
    have HK1 := Lib.hid (HK0.out.below hb HK0.out.lt)
    clear hb
    go_wp2
    go_ret
    exact ⟨by rw [HN.out]; rfl, HB1.out⟩
  · have hF := E.fits_iff.1 hf
    have he := hF.nb'
    have hd := hF.dy
    have hbl := hF.bl
    rw [HR.out] at he
    have a1 : ¬ x.bl = 0 := by omega
    have a2 : Int.tdiv x.dy x.bl = n := by rw [Int.tdiv_eq_ediv_of_nonneg hd.1]; exact he.2.2.2.2.symm
    have a3 : IntKind.i64.wrap n = n := IntWalk.i64_in _ (by omega)
    have hm := refFit_any x true (ebox w x) hf hb hc
    clear hf hF hd he hbl hb hc
    go_enter Try.func24, Try.ntmps24
    go_wp2_with fail
    refine (hm).mono ?_
    skip
    rintro e w1 ⟨rfl, hb⟩
    have k0 := e0 (HK0.out.below hb HK0.out.lt)
    have k1 := e1 (HK0.out.below hb HK0.out.lt)
    have k2 := e2 (HK0.out.below hb HK0.out.lt)
    have k3 := e3 (HK0.out.below hb HK0.out.lt)
    have k4 := e4 (HK0.out.below hb HK0.out.lt)
    have k5 := e5 (HK0.out.below hb HK0.out.lt)
    have k6 := e6 (HK0.out.below hb HK0.out.lt)
    have k7 := e7 (HK0.out.below hb HK0.out.lt)
    have HB1 := Lib.hid (HB0.out.trans (hb.mono HB0.out.size))
    have HK1 := Lib.hid (HK0.out.below hb HK0.out.lt)
    clear hb
    go_wp2
    go_ret
    exact ⟨rfl, HB1.out⟩

set_option maxHeartbeats 800000 in
theorem refBase_any (x : E.D) (s a f t : Int) (v : Bool) (w : World) (hv : E.baseB x s = v) (ha : E.baseA x s = a) (hf : E.baseF x s = f) (ht : E.baseT x s = t) (hb : x.b ≤ 9223372036854775807) (hc : x.c ≤ 9223372036854775807) :
    Calls Try.prog 12 #[.agg #[.int .i64 x.b, .int .i64 x.k, .int .i64 x.c, .int .i64 x.j, .int .i64 x.lo, .int .i64 x.hi, .int .i64 x.dy, .int .i64 x.bl], .int .i64 s] w fun e w' => e = .returned (.tuple #[.agg #[.int .i64 a, .int .i64 f, .int .i64 t], .bool v]) ∧ Below w.heap.size w w' := by
  have HB := Lib.hid (esbox_below w x)
  have HK := Lib.hid (esbox_d w x)
  have HS := Lib.hid (esbox_s w x)
  cases hd : E.baseB x s
  · have HN : Hid (v = false ∧ a = 0 ∧ f = 0 ∧ t = 0) := Lib.hid ⟨by rw [← hv, hd], by rw [← ha]; unfold E.baseA; rw [hd]; rfl, by rw [← hf]; unfold E.baseF; rw [hd]; rfl, by rw [← ht]; unfold E.baseT; rw [hd]; rfl⟩
    clear hv ha hf ht
    cases hfit : E.fit x
    · have hm := refFit_any x false (esbox w x) hfit hb hc
      clear hfit hd hb hc
      go_enter Try.func12, Try.ntmps12
      go_wp2_with fail
      refine hm.mono ?_
      rintro e w1 ⟨rfl, hb1⟩
      have hs := HS.out.below hb1 HS.out.lt
      have f0 := hs.frozen 0
      have f1 := hs.frozen 1
      have f2 := hs.frozen 2
      have c0 := s0 hs
      have c1 := s1 hs
      have c2 := s2 hs
      have HFP := Lib.hid (fin_span (w := w) (w.heap.size + 1) (by omega) hs (HB.out.trans (hb1.mono HB.out.size)) 0 0 0)
      clear hb1
      go_wp2
      refine bodyPost_ret (ret_span2 rfl (w.heap.size + 1) 0 0 0 (by kernel_rfl) rfl HFP.out.1) rfl ?_
      exact ⟨by rw [HN.out.1, HN.out.2.1, HN.out.2.2.1, HN.out.2.2.2]; rfl, HFP.out.2⟩
    · have hm := refFit_any x true (esbox w x) hfit hb hc
      have hF := E.fits_iff.1 hfit
      obtain ⟨p, hp⟩ : ∃ p, E.ni x = p := ⟨_, rfl⟩
      have hsub := fun W => refSize7_any x.b x.k p W hp
      by_cases s0' : s < 0
      · have d0 : decide (s < 0) = true := decide_eq_true s0'
        clear hfit hd hF hp hb hc
        go_enter Try.func12, Try.ntmps12
        go_wp2_with fail
        refine hm.mono ?_
        rintro e w1 ⟨rfl, hb1⟩
        have hs := HS.out.below hb1 HS.out.lt
        have f0 := hs.frozen 0
        have f1 := hs.frozen 1
        have f2 := hs.frozen 2
        have c0 := s0 hs
        have c1 := s1 hs
        have c2 := s2 hs
        have HFP := Lib.hid (fin_span (w := w) (w.heap.size + 1) (by omega) hs (HB.out.trans (hb1.mono HB.out.size)) 0 0 0)
        clear hb1
        go_wp2
        refine bodyPost_ret (ret_span2 rfl (w.heap.size + 1) 0 0 0 (by kernel_rfl) rfl HFP.out.1) rfl ?_
        exact ⟨by rw [HN.out.1, HN.out.2.1, HN.out.2.2.1, HN.out.2.2.2]; rfl, HFP.out.2⟩
      · have d0 : decide (s < 0) = false := decide_eq_false s0'
        have hps : p ≤ s := by
          rw [← hp]
          refine Int.not_lt.1 fun h => ?_
          rw [E.baseB_iff.2 ⟨hF, by omega, h⟩] at hd
          cases hd
        have d1 : decide (p ≤ s) = true := decide_eq_true hps
        clear hfit hd hF hp hps hb hc
        go_enter Try.func12, Try.ntmps12
        go_wp2_with fail
        refine hm.mono ?_
        rintro e w1 ⟨rfl, hb1⟩
        have k0 := e0 (HK.out.below hb1 HK.out.lt)
        have k1 := e1 (HK.out.below hb1 HK.out.lt)
        have k2 := e2 (HK.out.below hb1 HK.out.lt)
        have k3 := e3 (HK.out.below hb1 HK.out.lt)
        have k4 := e4 (HK.out.below hb1 HK.out.lt)
        have k5 := e5 (HK.out.below hb1 HK.out.lt)
        have k6 := e6 (HK.out.below hb1 HK.out.lt)
        have k7 := e7 (HK.out.below hb1 HK.out.lt)
        have HB1 := Lib.hid (HB.out.trans (hb1.mono HB.out.size))
        have HS1 := Lib.hid (HS.out.below hb1 HS.out.lt)
        clear hb1 hm
        go_wp2_with fail
        refine (hsub w1).mono ?_
        clear k0 k1 k2 k3 k4 k5 k6 k7
        rintro e w2 ⟨rfl, hb2⟩
        have hs := HS1.out.below hb2 HS1.out.lt
        have f0 := hs.frozen 0
        have f1 := hs.frozen 1
        have f2 := hs.frozen 2
        have c0 := s0 hs
        have c1 := s1 hs
        have c2 := s2 hs
        have HFP := Lib.hid (fin_span (w := w) (w.heap.size + 1) (by omega) hs (HB1.out.trans (hb2.mono HB1.out.size)) 0 0 0)
        clear hb2
        go_wp2
        refine bodyPost_ret (ret_span2 rfl (w.heap.size + 1) 0 0 0 (by kernel_rfl) rfl HFP.out.1) rfl ?_
        exact ⟨by rw [HN.out.1, HN.out.2.1, HN.out.2.2.1, HN.out.2.2.2]; rfl, HFP.out.2⟩
  · obtain ⟨hF, hs0, e1, e2, e3, hbA, hb4, hb5, hb6, -, -, a2, a3, a4⟩ := E.base_in hd
    have hfit := E.fits_iff.2 hF
    have hl := hF.lo
    have hdy := hF.dy
    have hn := hF.ni
    have hno := hF.no
    have hrr := hF.ratio
    have hee := hF.each
    obtain ⟨p, hp⟩ : ∃ p, E.ni x = p := ⟨_, rfl⟩
    obtain ⟨r, hr⟩ : ∃ r, E.ratio x = r := ⟨_, rfl⟩
    obtain ⟨n, hen⟩ : ∃ n, E.each x = n := ⟨_, rfl⟩
    obtain ⟨m, hmm⟩ : ∃ m, s % r = m := ⟨_, rfl⟩
    obtain ⟨y, hy⟩ : ∃ y, m * n = y := ⟨_, rfl⟩
    rw [hr, hen, hmm, hy] at a4
    rw [ha] at e1 hbA
    rw [hf] at e2 e3 hb4 hb5
    rw [ht] at e3 hb5 hb6
    rw [hr] at e1 hrr a2 a3
    rw [hr, hmm, hen, hy] at e2
    rw [hmm] at a2 a3
    rw [hen] at e3 hee
    rw [hp] at hs0 hn
    obtain ⟨g, hg⟩ : ∃ g, f + n = g := ⟨_, rfl⟩
    have w0 : ¬ r = 0 := by omega
    have w1' : Int.tdiv s r = a := by rw [Int.tdiv_eq_ediv_of_nonneg hs0.1]; exact e1.symm
    have w2' : IntKind.i64.wrap a = a := IntWalk.i64_in _ (by omega)
    have w3' : Int.tmod s r = m := by rw [Int.tmod_eq_emod_of_nonneg hs0.1]; exact hmm
    have w4' : IntKind.i64.wrap m = m := IntWalk.i64_in _ (by omega)
    have w5' : IntKind.i64.wrap (m * n) = y := by rw [hy]; exact IntWalk.i64_in _ (by omega)
    have w6' : IntKind.i64.wrap (x.lo + y) = f := by rw [← e2]; exact IntWalk.i64_in _ (by omega)
    have w7' : IntKind.i64.wrap (f + n) = g := by rw [hg]; exact IntWalk.i64_in _ (by omega)
    have w8' : IntKind.i64.wrap (g - 1) = t := by rw [e3, ← hg]; exact IntWalk.i64_in _ (by omega)
    have HN : Hid (v = true) := Lib.hid (by rw [← hv, hd])
    have d0 : decide (s < 0) = false := decide_eq_false (by omega)
    have d1 : decide (p ≤ s) = false := decide_eq_false (by omega)
    have hm := refFit_any x true (esbox w x) hfit hb hc
    have hsub := fun W => refSize7_any x.b x.k p W hp
    have hrat := fun W => refRatio_any x r W hr
    have heach := fun W => refEach_any x n W hen hb hc
    clear hv ha hf ht hd hF hs0 e1 e2 e3 hbA hb4 hb5 hb6 a2 a3 a4 hfit hl hdy hn hno hrr hee hp hr hen hmm hy hg
    go_enter Try.func12, Try.ntmps12
    have HB0 := HB
    have HK0 := HK
    have HS0 := HS
    go_wp2_with fail
    refine (hm).mono ?_
    skip
    rintro e w1 ⟨rfl, hb⟩
    have k0 := e0 (HK0.out.below hb HK0.out.lt)
    have k1 := e1 (HK0.out.below hb HK0.out.lt)
    have k2 := e2 (HK0.out.below hb HK0.out.lt)
    have k3 := e3 (HK0.out.below hb HK0.out.lt)
    have k4 := e4 (HK0.out.below hb HK0.out.lt)
    have k5 := e5 (HK0.out.below hb HK0.out.lt)
    have k6 := e6 (HK0.out.below hb HK0.out.lt)
    have k7 := e7 (HK0.out.below hb HK0.out.lt)
    have HB1 := Lib.hid (HB0.out.trans (hb.mono HB0.out.size))
    have HK1 := Lib.hid (HK0.out.below hb HK0.out.lt)
    have HS1 := Lib.hid (HS0.out.below hb HS0.out.lt)
    clear hb
    go_wp2_with fail
    refine (hsub w1).mono ?_
    clear k0 k1 k2 k3 k4 k5 k6 k7
    rintro e w2 ⟨rfl, hb⟩
    have k0 := e0 (HK1.out.below hb HK1.out.lt)
    have k1 := e1 (HK1.out.below hb HK1.out.lt)
    have k2 := e2 (HK1.out.below hb HK1.out.lt)
    have k3 := e3 (HK1.out.below hb HK1.out.lt)
    have k4 := e4 (HK1.out.below hb HK1.out.lt)
    have k5 := e5 (HK1.out.below hb HK1.out.lt)
    have k6 := e6 (HK1.out.below hb HK1.out.lt)
    have k7 := e7 (HK1.out.below hb HK1.out.lt)
    have HB2 := Lib.hid (HB1.out.trans (hb.mono HB1.out.size))
    have HK2 := Lib.hid (HK1.out.below hb HK1.out.lt)
    have HS2 := Lib.hid (HS1.out.below hb HS1.out.lt)
    clear hb
    have c0 := ce0 (w := w2) HK2.out
    have c1 := ce1 (w := w2) HK2.out
    have c2 := ce2 (w := w2) HK2.out
    have c3 := ce3 (w := w2) HK2.out
    have c4 := ce4 (w := w2) HK2.out
    have c5 := ce5 (w := w2) HK2.out
    have c6 := ce6 (w := w2) HK2.out
    have c7 := ce7 (w := w2) HK2.out
    go_wp2_with fail
    refine wp_region_quiet_below (by kernel_rfl) (by kernel_rfl) ?_
    repeat (go_big_quiet_step (first | exact Calls.regrown_of (hrat _) | exact Calls.regrown_of (heach _)))
    refine wpQuiet_nil ?_
    intro _ hw'
    obtain ⟨⟨dq, osq⟩, hw''⟩ := hw'
    subst hw''
    clear k0 k1 k2 k3 k4 k5 k6 k7
    clear c0 c1 c2 c3 c4 c5 c6 c7
    obtain ⟨w4, hw4⟩ : ∃ w4, Go.Sort.grow (redrawn w2 dq) osq = w4 := ⟨_, rfl⟩
    have hb : Below w2.heap.size w2 w4 := by rw [← hw4]; exact below_regrown _ _ _
    rw [hw4]
    clear hw4
    have HB4 := Lib.hid (HB2.out.trans (hb.mono HB2.out.size))
    have HS4 := Lib.hid (HS2.out.below hb HS2.out.lt)
    have HK4 := Lib.hid (HK2.out.below hb HK2.out.lt)
    clear hb
    go_wp2_with fail
    refine wp_region_held (S := (fun w' => Blok w' w.heap.size 25 #[.int .i64 x.b, .int .i64 x.k, .int .i64 x.c, .int .i64 x.j, .int .i64 x.lo, .int .i64 x.hi, .int .i64 x.dy, .int .i64 x.bl])) (by kernel_rfl) ?_
    change wpAnyH _ _ _ _ _ _ _ _ (World.drew _)
    have HT0 : (fun w' => Blok w' w.heap.size 25 #[.int .i64 x.b, .int .i64 x.k, .int .i64 x.c, .int .i64 x.j, .int .i64 x.lo, .int .i64 x.hi, .int .i64 x.dy, .int .i64 x.bl]) (World.drew w4) := HK4.out.drew
    refine wpAnyH_take (i := 0) (v := (.int .i64 s)) rfl (by kernel_rfl) (by kernel_rfl) (by kernel_rfl) (fun _ _ _ h => h) (.inl ⟨by kernel_rfl, fun w9 hS => by kernel_rfl⟩) HT0 ?_
    refine wpAnyH_take (i := 1) (v := (.agg #[.int .i64 x.b, .int .i64 x.k, .int .i64 x.c, .int .i64 x.j, .int .i64 x.lo, .int .i64 x.hi, .int .i64 x.dy, .int .i64 x.bl])) rfl (by kernel_rfl) (by kernel_rfl) (by kernel_rfl) (fun _ _ _ h => h) (.inl ⟨by kernel_rfl, fun w9 hS => by have k0 := e0 hS; have k1 := e1 hS; have k2 := e2 hS; have k3 := e3 hS; have k4 := e4 hS; have k5 := e5 hS; have k6 := e6 hS; have k7 := e7 hS; go_simp⟩) HT0 ?_
    refine wpAnyH_take (i := 4) (v := (.int .i64 f)) rfl (by kernel_rfl) (by kernel_rfl) (by kernel_rfl) (fun _ _ _ h => h) (.inl ⟨by kernel_rfl, fun w9 hS => by kernel_rfl⟩) HT0 ?_
    refine wpAnyH_take (i := 5) (v := (.int .i64 f)) rfl (by kernel_rfl) (by kernel_rfl) (by kernel_rfl) (fun _ _ _ h => h) (.inl ⟨by kernel_rfl, fun w9 hS => by kernel_rfl⟩) HT0 ?_
    refine wpAnyH_take (i := 6) (v := (.agg #[.int .i64 x.b, .int .i64 x.k, .int .i64 x.c, .int .i64 x.j, .int .i64 x.lo, .int .i64 x.hi, .int .i64 x.dy, .int .i64 x.bl])) rfl (by kernel_rfl) (by kernel_rfl) (by kernel_rfl) (fun _ _ _ h => h) (.inl ⟨by kernel_rfl, fun w9 hS => by have k0 := e0 hS; have k1 := e1 hS; have k2 := e2 hS; have k3 := e3 hS; have k4 := e4 hS; have k5 := e5 hS; have k6 := e6 hS; have k7 := e7 hS; go_simp⟩) HT0 ?_
    refine wpAnyH_one (i := 2) (by kernel_rfl) ?_
    refine wpOp_call (f := 20) (args := #[.agg #[.int .i64 x.b, .int .i64 x.k, .int .i64 x.c, .int .i64 x.j, .int .i64 x.lo, .int .i64 x.hi, .int .i64 x.dy, .int .i64 x.bl]]) rfl (by kernel_rfl) (by kernel_rfl) (hrat (World.drew w4)) ?_
    rintro e w5 ⟨rfl, hb5⟩
    have HB5 := Lib.hid (HB4.out.trans (((below_drew w4).trans (hb5.mono (Nat.le_refl _))).mono HB4.out.size))
    have HS5 := Lib.hid (HS4.out.drew.below hb5 HS4.out.lt)
    have HT5 : (fun w' => Blok w' w.heap.size 25 #[.int .i64 x.b, .int .i64 x.k, .int .i64 x.c, .int .i64 x.j, .int .i64 x.lo, .int .i64 x.hi, .int .i64 x.dy, .int .i64 x.bl]) w5 := HK4.out.drew.below hb5 HK4.out.lt
    clear hb5
    refine ⟨_, rfl, HT5, ?_⟩
    refine wpAnyH_take (i := 3) (v := (.int .i64 a)) rfl (by kernel_rfl) (by kernel_rfl) (by kernel_rfl) (fun _ _ _ h => h) (.inl ⟨by kernel_rfl, fun w9 hS => by go_simp⟩) HT5 ?_
    refine wpAnyH_call (i := 7) (f := 22) (args := #[.agg #[.int .i64 x.b, .int .i64 x.k, .int .i64 x.c, .int .i64 x.j, .int .i64 x.lo, .int .i64 x.hi, .int .i64 x.dy, .int .i64 x.bl]]) (by kernel_rfl) rfl (by kernel_rfl) (by kernel_rfl) (heach w5) ?_
    rintro e w6 ⟨rfl, hb6⟩
    have HB6 := Lib.hid (HB5.out.trans (hb6.mono HB5.out.size))
    have HS6 := Lib.hid (HS5.out.below hb6 HS5.out.lt)
    have HT7 : (fun w' => Blok w' w.heap.size 25 #[.int .i64 x.b, .int .i64 x.k, .int .i64 x.c, .int .i64 x.j, .int .i64 x.lo, .int .i64 x.hi, .int .i64 x.dy, .int .i64 x.bl]) w6 := Blok.below HT5 hb6 (Blok.lt HT5)
    clear hb6
    refine ⟨_, rfl, HT7, ?_⟩
    refine wpAnyH_take (i := 8) (v := (.int .i64 g)) rfl (by kernel_rfl) (by kernel_rfl) (by kernel_rfl) (fun _ _ _ h => h) (.inl ⟨by kernel_rfl, fun w9 hS => by go_simp⟩) HT7 ?_
    refine wpAnyH_take (i := 9) (v := (.int .i64 t)) rfl (by kernel_rfl) (by kernel_rfl) (by kernel_rfl) (fun _ _ _ h => h) (.inl ⟨by kernel_rfl, fun w9 hS => by go_simp⟩) HT7 ?_
    refine wpAnyH_take (i := 10) (v := (.agg #[.int .i64 a, .int .i64 f, .int .i64 t])) rfl (by kernel_rfl) (by kernel_rfl) (by kernel_rfl) (fun _ _ _ h => h) (.inl ⟨by kernel_rfl, fun w9 hS => by kernel_rfl⟩) HT7 ?_
    have hs := HS6.out
    have f0 := hs.frozen 0
    have f1 := hs.frozen 1
    have f2 := hs.frozen 2
    have c0 := s0 hs
    have c1 := s1 hs
    have c2 := s2 hs
    have HFP := Lib.hid (fin_span (w := w) (w.heap.size + 1) (by omega) hs (HB6.out) a f t)
    have HT6 : (fun w' => Blok w' w.heap.size 25 #[.int .i64 x.b, .int .i64 x.k, .int .i64 x.c, .int .i64 x.j, .int .i64 x.lo, .int .i64 x.hi, .int .i64 x.dy, .int .i64 x.bl]) (((w6.setCell ⟨w.heap.size + 1, 0, none⟩ (.int .i64 a)).setCell ⟨w.heap.size + 1, 1, none⟩ (.int .i64 f)).setCell ⟨w.heap.size + 1, 2, none⟩ (.int .i64 t)) := ((Blok.far (Blok.far (Blok.far HT7 (p := ⟨w.heap.size + 1, 0, none⟩) (by simp) _) (p := ⟨w.heap.size + 1, 1, none⟩) (by simp) _) (p := ⟨w.heap.size + 1, 2, none⟩) (by simp) _))
    refine wpAnyH_one (i := 11) (by kernel_rfl) (wpOp_skip (w' := ((w6.setCell ⟨w.heap.size + 1, 0, none⟩ (.int .i64 a)).setCell ⟨w.heap.size + 1, 1, none⟩ (.int .i64 f)).setCell ⟨w.heap.size + 1, 2, none⟩ (.int .i64 t)) rfl (by kernel_rfl) (by go_simp) ⟨HT6, ?_⟩)
    refine wpAnyH_take (i := 12) (v := (.bool true)) rfl (by kernel_rfl) (by kernel_rfl) (by kernel_rfl) (fun _ _ _ h => h) (.inl ⟨by kernel_rfl, fun w9 hS => by kernel_rfl⟩) HT6 ?_
    refine wpAnyH_done (by kernel_rfl) ?_ _
    clear hs f0 f1 f2 c0 c1 c2 HT6
    simp only [List.getElem_toArray, List.getElem_cons_succ, List.getElem_cons_zero, put_some, List.setIfInBounds_toArray, List.set_cons_succ, List.set_cons_zero]
    go_wp2
    refine bodyPost_ret (ret_span2 rfl (w.heap.size + 1) a f t (by kernel_rfl) rfl HFP.out.1) rfl ?_
    exact ⟨by rw [HN.out]; rfl, HFP.out.2⟩

set_option maxHeartbeats 400000 in
theorem refBlock_any (x : E.D) (at' i a f t : Int) (v : Bool) (w : World) (hv : E.blkB x at' i = v) (ha : E.blkA x at' i = a) (hf : E.blkF x at' i = f) (ht : E.blkT x at' i = t) (hb : x.b ≤ 9223372036854775807) (hc : x.c ≤ 9223372036854775807) :
    Calls Try.prog 14 #[.agg #[.int .i64 x.b, .int .i64 x.k, .int .i64 x.c, .int .i64 x.j, .int .i64 x.lo, .int .i64 x.hi, .int .i64 x.dy, .int .i64 x.bl], .int .i64 at', .int .i64 i] w fun e w' => e = .returned (.tuple #[.agg #[.int .i64 a, .int .i64 f, .int .i64 t], .bool v]) ∧ Below w.heap.size w w' := by
  have HB := Lib.hid (esbox_below w x)
  have HK := Lib.hid (esbox_d w x)
  have HS := Lib.hid (esbox_s w x)
  obtain ⟨q, hq⟩ : ∃ q, E.no x = q := ⟨_, rfl⟩
  obtain ⟨n, hn⟩ : ∃ n, E.nb x = n := ⟨_, rfl⟩
  have hpub := fun W => refSize7_any x.c x.j q W hq
  have hblk := fun W => refBlocks_any x n W hn hb hc
  clear hb hc
  cases hd : E.blkB x at' i
  · have HN : Hid (v = false ∧ a = 0 ∧ f = 0 ∧ t = 0) := Lib.hid ⟨by rw [← hv, hd], by rw [← ha]; unfold E.blkA; rw [hd]; rfl, by rw [← hf]; unfold E.blkF; rw [hd]; rfl, by rw [← ht]; unfold E.blkT; rw [hd]; rfl⟩
    clear hv ha hf ht
    have hall : ¬ ((0 ≤ at' ∧ at' < q) ∧ (0 ≤ i ∧ i < n)) := fun h => by
      unfold E.blkB at hd
      rw [hq, hn, decide_eq_true h.1, decide_eq_true h.2] at hd
      cases hd
    clear hd hq hn
    by_cases s0' : at' < 0
    · have d0 : decide (at' < 0) = true := decide_eq_true s0'
      clear hall hpub hblk
      go_enter Try.func14, Try.ntmps14
      go_wp2
      refine bodyPost_ret (ret_span2 rfl (w.heap.size + 1) 0 0 0 (by kernel_rfl) rfl HS.out) rfl ?_
      exact ⟨by rw [HN.out.1, HN.out.2.1, HN.out.2.2.1, HN.out.2.2.2]; rfl, HB.out⟩
    · have d0 : decide (at' < 0) = false := decide_eq_false s0'
      by_cases s1' : q ≤ at'
      · have d1 : decide (q ≤ at') = true := decide_eq_true s1'
        clear hall hblk
        go_enter Try.func14, Try.ntmps14
        go_wp2_with fail
        refine (hpub (esbox w x)).mono ?_
        rintro e w1 ⟨rfl, hb1⟩
        have hs := HS.out.below hb1 HS.out.lt
        have f0 := hs.frozen 0
        have f1 := hs.frozen 1
        have f2 := hs.frozen 2
        have c0 := s0 hs
        have c1 := s1 hs
        have c2 := s2 hs
        have HFP := Lib.hid (fin_span (w := w) (w.heap.size + 1) (by omega) hs (HB.out.trans (hb1.mono HB.out.size)) 0 0 0)
        clear hb1
        go_wp2
        refine bodyPost_ret (ret_span2 rfl (w.heap.size + 1) 0 0 0 (by kernel_rfl) rfl HFP.out.1) rfl ?_
        exact ⟨by rw [HN.out.1, HN.out.2.1, HN.out.2.2.1, HN.out.2.2.2]; rfl, HFP.out.2⟩
      · have d1 : decide (q ≤ at') = false := decide_eq_false s1'
        by_cases s2' : i < 0
        · have d2 : decide (i < 0) = true := decide_eq_true s2'
          clear hall hblk
          go_enter Try.func14, Try.ntmps14
          go_wp2_with fail
          refine (hpub (esbox w x)).mono ?_
          rintro e w1 ⟨rfl, hb1⟩
          have hs := HS.out.below hb1 HS.out.lt
          have f0 := hs.frozen 0
          have f1 := hs.frozen 1
          have f2 := hs.frozen 2
          have c0 := s0 hs
          have c1 := s1 hs
          have c2 := s2 hs
          have HFP := Lib.hid (fin_span (w := w) (w.heap.size + 1) (by omega) hs (HB.out.trans (hb1.mono HB.out.size)) 0 0 0)
          clear hb1
          go_wp2
          refine bodyPost_ret (ret_span2 rfl (w.heap.size + 1) 0 0 0 (by kernel_rfl) rfl HFP.out.1) rfl ?_
          exact ⟨by rw [HN.out.1, HN.out.2.1, HN.out.2.2.1, HN.out.2.2.2]; rfl, HFP.out.2⟩
        · have d2 : decide (i < 0) = false := decide_eq_false s2'
          have d3 : decide (n ≤ i) = true := decide_eq_true (by omega)
          clear hall
          go_enter Try.func14, Try.ntmps14
          go_wp2_with fail
          refine (hpub (esbox w x)).mono ?_
          rintro e w1 ⟨rfl, hb1⟩
          have k0 := e0 (HK.out.below hb1 HK.out.lt)
          have k1 := e1 (HK.out.below hb1 HK.out.lt)
          have k2 := e2 (HK.out.below hb1 HK.out.lt)
          have k3 := e3 (HK.out.below hb1 HK.out.lt)
          have k4 := e4 (HK.out.below hb1 HK.out.lt)
          have k5 := e5 (HK.out.below hb1 HK.out.lt)
          have k6 := e6 (HK.out.below hb1 HK.out.lt)
          have k7 := e7 (HK.out.below hb1 HK.out.lt)
          have HB1 := Lib.hid (HB.out.trans (hb1.mono HB.out.size))
          have HS1 := Lib.hid (HS.out.below hb1 HS.out.lt)
          clear hb1 hpub
          go_wp2_with fail
          refine (hblk w1).mono ?_
          clear k0 k1 k2 k3 k4 k5 k6 k7
          rintro e w2 ⟨rfl, hb2⟩
          have hs := HS1.out.below hb2 HS1.out.lt
          have f0 := hs.frozen 0
          have f1 := hs.frozen 1
          have f2 := hs.frozen 2
          have c0 := s0 hs
          have c1 := s1 hs
          have c2 := s2 hs
          have HFP := Lib.hid (fin_span (w := w) (w.heap.size + 1) (by omega) hs (HB1.out.trans (hb2.mono HB1.out.size)) 0 0 0)
          clear hb2
          go_wp2
          refine bodyPost_ret (ret_span2 rfl (w.heap.size + 1) 0 0 0 (by kernel_rfl) rfl HFP.out.1) rfl ?_
          exact ⟨by rw [HN.out.1, HN.out.2.1, HN.out.2.2.1, HN.out.2.2.2]; rfl, HFP.out.2⟩
  · obtain ⟨hF, h1, h2, e1, e2, e3, hb4, hb5, hb6, a4⟩ := E.blk_in hd
    have hl := hF.lo
    have hdy := hF.dy
    have hbl := hF.bl
    obtain ⟨y, hy⟩ : ∃ y, i * x.bl = y := ⟨_, rfl⟩
    obtain ⟨fb, hfb⟩ : ∃ fb, x.hi - x.dy + 1 = fb := ⟨_, rfl⟩
    obtain ⟨g, hg⟩ : ∃ g, f + x.bl = g := ⟨_, rfl⟩
    rw [hy] at a4
    rw [ha] at e1
    rw [hf] at e2 e3 hb4 hb5
    rw [ht] at e3 hb5 hb6
    rw [hy, hfb] at e2
    rw [hq] at h1
    rw [hn] at h2
    obtain rfl : a = at' := e1
    have w3' : IntKind.i64.wrap (x.hi - x.dy) = x.hi - x.dy := IntWalk.i64_in _ (by omega)
    have w4' : IntKind.i64.wrap (x.hi - x.dy + 1) = fb := by rw [hfb]; exact IntWalk.i64_in _ (by omega)
    have w5' : IntKind.i64.wrap (i * x.bl) = y := by rw [hy]; exact IntWalk.i64_in _ (by omega)
    have w6' : IntKind.i64.wrap (fb + y) = f := by rw [← e2]; exact IntWalk.i64_in _ (by omega)
    have w7' : IntKind.i64.wrap (f + x.bl) = g := by rw [hg]; exact IntWalk.i64_in _ (by omega)
    have w8' : IntKind.i64.wrap (g - 1) = t := by rw [e3, ← hg]; exact IntWalk.i64_in _ (by omega)
    have HN : Hid (v = true) := Lib.hid (by rw [← hv, hd])
    have d0 : decide (a < 0) = false := decide_eq_false (by omega)
    have d1 : decide (q ≤ a) = false := decide_eq_false (by omega)
    have d2 : decide (i < 0) = false := decide_eq_false (by omega)
    have d3 : decide (n ≤ i) = false := decide_eq_false (by omega)
    clear hv ha hf ht hd hF h1 h2 e2 e3 hb4 hb5 hb6 a4 hl hdy hbl hq hn hy hfb hg
    have HB0 := HB
    have HK0 := HK
    have HS0 := HS
    go_enter Try.func14, Try.ntmps14
    go_wp2_with fail
    refine (hpub (esbox w x)).mono ?_
    skip
    rintro e w1 ⟨rfl, hb⟩
    have k0 := e0 (HK0.out.below hb HK0.out.lt)
    have k1 := e1 (HK0.out.below hb HK0.out.lt)
    have k2 := e2 (HK0.out.below hb HK0.out.lt)
    have k3 := e3 (HK0.out.below hb HK0.out.lt)
    have k4 := e4 (HK0.out.below hb HK0.out.lt)
    have k5 := e5 (HK0.out.below hb HK0.out.lt)
    have k6 := e6 (HK0.out.below hb HK0.out.lt)
    have k7 := e7 (HK0.out.below hb HK0.out.lt)
    have HB1 := Lib.hid (HB0.out.trans (hb.mono HB0.out.size))
    have HK1 := Lib.hid (HK0.out.below hb HK0.out.lt)
    have HS1 := Lib.hid (HS0.out.below hb HS0.out.lt)
    clear hb
    go_wp2_with fail
    refine (hblk w1).mono ?_
    clear k0 k1 k2 k3 k4 k5 k6 k7
    rintro e w2 ⟨rfl, hb2⟩
    have k0 := e0 (HK1.out.below hb2 HK1.out.lt)
    have k1 := e1 (HK1.out.below hb2 HK1.out.lt)
    have k2 := e2 (HK1.out.below hb2 HK1.out.lt)
    have k3 := e3 (HK1.out.below hb2 HK1.out.lt)
    have k4 := e4 (HK1.out.below hb2 HK1.out.lt)
    have k5 := e5 (HK1.out.below hb2 HK1.out.lt)
    have k6 := e6 (HK1.out.below hb2 HK1.out.lt)
    have k7 := e7 (HK1.out.below hb2 HK1.out.lt)
    have hs := HS1.out.below hb2 HS1.out.lt
    have f0 := hs.frozen 0
    have f1 := hs.frozen 1
    have f2 := hs.frozen 2
    have c0 := s0 hs
    have c1 := s1 hs
    have c2 := s2 hs
    have HFP := Lib.hid (fin_span (w := w) (w.heap.size + 1) (by omega) hs (HB1.out.trans (hb2.mono HB1.out.size)) a f t)
    clear hb2 hblk hpub
    go_wp2
    refine bodyPost_ret (ret_span2 rfl (w.heap.size + 1) a f t (by kernel_rfl) rfl HFP.out.1) rfl ?_
    exact ⟨by rw [HN.out]; rfl, HFP.out.2⟩
end Go.Proofs.Ytjfnopbdlopjgaa
