/-
  The document's Ratio and Fit at every mapping.
-/
import Derived.Test.YtjfnopbdlopjgaaEMath
import Derived.Test.YtjfnopbdlopjgaaARefPre
namespace Go.Proofs.Ytjfnopbdlopjgaa
open Go.RowKit

set_option maxHeartbeats 400000 in
theorem refRatio_any (x : E.D) (r : Int) (w : World) (h : E.ratio x = r) : Calls Try.prog 20 #[.agg #[.int .i64 x.b, .int .i64 x.k, .int .i64 x.c, .int .i64 x.j, .int .i64 x.lo, .int .i64 x.hi, .int .i64 x.dy, .int .i64 x.bl]] w fun e w' => e = .returned (.int .i64 r) ∧ Below w.heap.size w w' := by
  have HR := Lib.hid h
  have HB0 := Lib.hid (ebox_below w x)
  have HK0 := Lib.hid (ebox_blok w x)
  clear h
  obtain ⟨p, hp⟩ : ∃ p, E.ni x = p := ⟨_, rfl⟩
  obtain ⟨q, hq⟩ : ∃ q, E.no x = q := ⟨_, rfl⟩
  have hs := fun W => refSize7_any x.b x.k p W hp
  have ht := fun W => refSize7_any x.c x.j q W hq
  by_cases p0 : p = 0
  · have HF : Hid (r = 0) := Lib.hid (by rw [← HR.out]; unfold E.ratio; rw [hp, if_pos (.inl p0)])
    clear hp hq
    subst p0
    go_enter Try.func20, Try.ntmps20
    go_wp2_with fail
    refine (hs (ebox w x)).mono ?_
    rintro e w1 ⟨rfl, hb⟩
    have k0 := e0 (HK0.out.below hb HK0.out.lt)
    have k1 := e1 (HK0.out.below hb HK0.out.lt)
    have k2 := e2 (HK0.out.below hb HK0.out.lt)
    have k3 := e3 (HK0.out.below hb HK0.out.lt)
    have k4 := e4 (HK0.out.below hb HK0.out.lt)
    have k5 := e5 (HK0.out.below hb HK0.out.lt)
    have k6 := e6 (HK0.out.below hb HK0.out.lt)
    have k7 := e7 (HK0.out.below hb HK0.out.lt)
    have HB1 := Lib.hid (HB0.out.trans (hb.mono HB0.out.size))
    clear hb hs
    go_wp2_with fail
    refine (ht w1).mono ?_
    rintro e w2 ⟨rfl, hb⟩
    go_wp2
    go_ret
    exact ⟨by rw [HF.out]; rfl, HB1.out.trans (hb.mono HB1.out.size)⟩
  · by_cases q0 : q = 0
    · have HF : Hid (r = 0) := Lib.hid (by rw [← HR.out]; unfold E.ratio; rw [hq, if_pos (.inr q0)])
      have p1 : (p == 0) = false := by simpa using p0
      clear hp hq
      subst q0
      go_enter Try.func20, Try.ntmps20
      go_wp2_with fail
      refine (hs (ebox w x)).mono ?_
      rintro e w1 ⟨rfl, hb⟩
      have k0 := e0 (HK0.out.below hb HK0.out.lt)
      have k1 := e1 (HK0.out.below hb HK0.out.lt)
      have k2 := e2 (HK0.out.below hb HK0.out.lt)
      have k3 := e3 (HK0.out.below hb HK0.out.lt)
      have k4 := e4 (HK0.out.below hb HK0.out.lt)
      have k5 := e5 (HK0.out.below hb HK0.out.lt)
      have k6 := e6 (HK0.out.below hb HK0.out.lt)
      have k7 := e7 (HK0.out.below hb HK0.out.lt)
      have HB1 := Lib.hid (HB0.out.trans (hb.mono HB0.out.size))
      clear hb hs
      go_wp2_with fail
      refine (ht w1).mono ?_
      rintro e w2 ⟨rfl, hb⟩
      go_wp2
      go_ret
      exact ⟨by rw [HF.out]; rfl, HB1.out.trans (hb.mono HB1.out.size)⟩
    · obtain ⟨s, t, r', a1, a2, a3, a4, a5⟩ := E.ratio_of hp hq p0 q0
      have HF : Hid (r = r') := Lib.hid (by rw [← HR.out, a5])
      have p1 : (p == 0) = false := by simpa using p0
      have q1 : (q == 0) = false := by simpa using q0
      clear hp hq a5
      go_enter Try.func20, Try.ntmps20
      go_wp2_with fail
      refine (hs (ebox w x)).mono ?_
      rintro e w1 ⟨rfl, hb⟩
      have k0 := e0 (HK0.out.below hb HK0.out.lt)
      have k1 := e1 (HK0.out.below hb HK0.out.lt)
      have k2 := e2 (HK0.out.below hb HK0.out.lt)
      have k3 := e3 (HK0.out.below hb HK0.out.lt)
      have k4 := e4 (HK0.out.below hb HK0.out.lt)
      have k5 := e5 (HK0.out.below hb HK0.out.lt)
      have k6 := e6 (HK0.out.below hb HK0.out.lt)
      have k7 := e7 (HK0.out.below hb HK0.out.lt)
      have HB1 := Lib.hid (HB0.out.trans (hb.mono HB0.out.size))
      clear hb hs
      go_wp2_with fail
      refine (ht w1).mono ?_
      rintro e w2 ⟨rfl, hb⟩
      go_wp2
      go_ret
      exact ⟨by rw [HF.out]; rfl, HB1.out.trans (hb.mono HB1.out.size)⟩

set_option maxHeartbeats 800000 in
theorem refFit_any (x : E.D) (v : Bool) (w : World) (h : E.fit x = v) (hb : x.b ≤ 9223372036854775807) (hc : x.c ≤ 9223372036854775807) :
    Calls Try.prog 15 #[.agg #[.int .i64 x.b, .int .i64 x.k, .int .i64 x.c, .int .i64 x.j, .int .i64 x.lo, .int .i64 x.hi, .int .i64 x.dy, .int .i64 x.bl]] w fun e w' => e = .returned (.bool v) ∧ Below w.heap.size w w' := by
  have HV := Lib.hid h
  have HB0 := Lib.hid (ebox_below w x)
  have HK0 := Lib.hid (ebox_blok w x)
  clear h
  obtain ⟨p, hp⟩ : ∃ p, E.ni x = p := ⟨_, rfl⟩
  obtain ⟨q, hq⟩ : ∃ q, E.no x = q := ⟨_, rfl⟩
  obtain ⟨mt, hmt⟩ : ∃ mt, A.meet x.b x.k x.c x.j = mt := ⟨_, rfl⟩
  obtain ⟨n, hn⟩ : ∃ n, x.hi - x.lo + 1 = n := ⟨_, rfl⟩
  obtain ⟨k, hk⟩ : ∃ k, x.dy / x.bl = k := ⟨_, rfl⟩
  obtain ⟨m, hm⟩ : ∃ m, n - x.dy = m := ⟨_, rfl⟩
  obtain ⟨r, hr⟩ : ∃ r, E.ratio x = r := ⟨_, rfl⟩
  have hs := fun W => refSize7_any x.b x.k p W hp
  have ht := fun W => refSize7_any x.c x.j q W hq
  have hu := fun W => refMeet7_any x.b x.k x.c x.j mt W hmt hb hc
  have hrat := fun W => refRatio_any x r W hr
  have HMT := Lib.hid hmt
  have Hp := Lib.hid hp
  have Hq := Lib.hid hq
  have Hn := Lib.hid hn
  have Hk := Lib.hid hk
  have Hm := Lib.hid hm
  have Hr := Lib.hid hr
  clear hmt hp hq hn hk hm hr hb hc
  go_enter Try.func15, Try.ntmps15
  go_wp2_with fail
  refine (hs (ebox w x)).mono ?_
  skip
  rintro e w1 ⟨rfl, hb⟩
  have k0 := e0 (HK0.out.below hb HK0.out.lt)
  have k1 := e1 (HK0.out.below hb HK0.out.lt)
  have k2 := e2 (HK0.out.below hb HK0.out.lt)
  have k3 := e3 (HK0.out.below hb HK0.out.lt)
  have k4 := e4 (HK0.out.below hb HK0.out.lt)
  have k5 := e5 (HK0.out.below hb HK0.out.lt)
  have k6 := e6 (HK0.out.below hb HK0.out.lt)
  have k7 := e7 (HK0.out.below hb HK0.out.lt)
  have HB1 := Lib.hid (HB0.out.trans (hb.mono HB0.out.size))
  have HK1 := Lib.hid (HK0.out.below hb HK0.out.lt)
  clear hb
  clear hs
  go_wp2_with fail
  refine (ht w1).mono ?_
  clear k0 k1 k2 k3 k4 k5 k6 k7
  rintro e w2 ⟨rfl, hb⟩
  have k0 := e0 (HK1.out.below hb HK1.out.lt)
  have k1 := e1 (HK1.out.below hb HK1.out.lt)
  have k2 := e2 (HK1.out.below hb HK1.out.lt)
  have k3 := e3 (HK1.out.below hb HK1.out.lt)
  have k4 := e4 (HK1.out.below hb HK1.out.lt)
  have k5 := e5 (HK1.out.below hb HK1.out.lt)
  have k6 := e6 (HK1.out.below hb HK1.out.lt)
  have k7 := e7 (HK1.out.below hb HK1.out.lt)
  have HB2 := Lib.hid (HB1.out.trans (hb.mono HB1.out.size))
  have HK2 := Lib.hid (HK1.out.below hb HK1.out.lt)
  clear hb
  clear ht
  go_wp2_with fail
  refine (hu w2).mono ?_
  clear k0 k1 k2 k3 k4 k5 k6 k7
  rintro e w3 ⟨rfl, hb⟩
  have k0 := e0 (HK2.out.below hb HK2.out.lt)
  have k1 := e1 (HK2.out.below hb HK2.out.lt)
  have k2 := e2 (HK2.out.below hb HK2.out.lt)
  have k3 := e3 (HK2.out.below hb HK2.out.lt)
  have k4 := e4 (HK2.out.below hb HK2.out.lt)
  have k5 := e5 (HK2.out.below hb HK2.out.lt)
  have k6 := e6 (HK2.out.below hb HK2.out.lt)
  have k7 := e7 (HK2.out.below hb HK2.out.lt)
  have HB3 := Lib.hid (HB2.out.trans (hb.mono HB2.out.size))
  have HK3 := Lib.hid (HK2.out.below hb HK2.out.lt)
  clear hb
  have c0 := ce0 (w := w3) HK3.out
  have c1 := ce1 (w := w3) HK3.out
  have c2 := ce2 (w := w3) HK3.out
  have c3 := ce3 (w := w3) HK3.out
  have c4 := ce4 (w := w3) HK3.out
  have c5 := ce5 (w := w3) HK3.out
  have c6 := ce6 (w := w3) HK3.out
  have c7 := ce7 (w := w3) HK3.out
  clear hu
  have hp := Hp.out
  have hq := Hq.out
  have hn := Hn.out
  have hk := Hk.out
  have hm := Hm.out
  have hr := Hr.out
  by_cases g0 : p < 1
  · have d0 : decide (p < 1) = true := decide_eq_true g0
    have HF : Hid (v = false) := Lib.hid (by
      rw [← HV.out, Bool.eq_false_iff]
      intro h
      have h1 := (E.fits_iff.1 h).ni
      omega)
    clear g0 hp hq hn hk hm hr
    go_wp2
    go_ret
    exact ⟨by rw [HF.out]; rfl, HB3.out⟩
  · have d0 : decide (p < 1) = false := decide_eq_false g0
    by_cases g1 : 32 < p
    · have d1 : decide (32 < p) = true := decide_eq_true g1
      have HF : Hid (v = false) := Lib.hid (by
        rw [← HV.out, Bool.eq_false_iff]
        intro h
        have h1 := (E.fits_iff.1 h).ni
        omega)
      clear g0 g1 hp hq hn hk hm hr
      go_wp2
      go_ret
      exact ⟨by rw [HF.out]; rfl, HB3.out⟩
    · have d1 : decide (32 < p) = false := decide_eq_false g1
      by_cases g2 : q < 1
      · have d2 : decide (q < 1) = true := decide_eq_true g2
        have HF : Hid (v = false) := Lib.hid (by
          rw [← HV.out, Bool.eq_false_iff]
          intro h
          have h1 := (E.fits_iff.1 h).no
          omega)
        clear g0 g1 g2 hp hq hn hk hm hr
        go_wp2
        go_ret
        exact ⟨by rw [HF.out]; rfl, HB3.out⟩
      · have d2 : decide (q < 1) = false := decide_eq_false g2
        by_cases g3 : 4 < q
        · have d3 : decide (4 < q) = true := decide_eq_true g3
          have HF : Hid (v = false) := Lib.hid (by
            rw [← HV.out, Bool.eq_false_iff]
            intro h
            have h1 := (E.fits_iff.1 h).no
            omega)
          clear g0 g1 g2 g3 hp hq hn hk hm hr
          go_wp2
          go_ret
          exact ⟨by rw [HF.out]; rfl, HB3.out⟩
        · have d3 : decide (4 < q) = false := decide_eq_false g3
          cases mt
          · have HM5 := Lib.hid (show A.meet x.b x.k x.c x.j = false from HMT.out)
            by_cases g5 : x.lo < 1
            · have d5 : decide (x.lo < 1) = true := decide_eq_true g5
              have HF : Hid (v = false) := Lib.hid (by
                rw [← HV.out, Bool.eq_false_iff]
                intro h
                have h1 := (E.fits_iff.1 h).lo
                omega)
              clear g0 g1 g2 g3 g5 hp hq hn hk hm hr
              go_wp2
              go_ret
              exact ⟨by rw [HF.out]; rfl, HB3.out⟩
            · have d5 : decide (x.lo < 1) = false := decide_eq_false g5
              by_cases g6 : x.hi < x.lo
              · have d6 : decide (x.hi < x.lo) = true := decide_eq_true g6
                have HF : Hid (v = false) := Lib.hid (by
                  rw [← HV.out, Bool.eq_false_iff]
                  intro h
                  have h1 := (E.fits_iff.1 h).lo
                  omega)
                clear g0 g1 g2 g3 g5 g6 hp hq hn hk hm hr
                go_wp2
                go_ret
                exact ⟨by rw [HF.out]; rfl, HB3.out⟩
              · have d6 : decide (x.hi < x.lo) = false := decide_eq_false g6
                by_cases g7 : 65535 < x.hi
                · have d7 : decide (65535 < x.hi) = true := decide_eq_true g7
                  have HF : Hid (v = false) := Lib.hid (by
                    rw [← HV.out, Bool.eq_false_iff]
                    intro h
                    have h1 := (E.fits_iff.1 h).lo
                    omega)
                  clear g0 g1 g2 g3 g5 g6 g7 hp hq hn hk hm hr
                  go_wp2
                  go_ret
                  exact ⟨by rw [HF.out]; rfl, HB3.out⟩
                · have d7 : decide (65535 < x.hi) = false := decide_eq_false g7
                  have y1 : IntKind.i64.wrap (x.hi - x.lo) = x.hi - x.lo := IntWalk.i64_in _ (by omega)
                  have y2 : IntKind.i64.wrap (x.hi - x.lo + 1) = n := by rw [hn]; exact IntWalk.i64_in _ (by omega)
                  by_cases g8 : x.dy < 0
                  · have d8 : decide (x.dy < 0) = true := decide_eq_true g8
                    have HF : Hid (v = false) := Lib.hid (by
                      rw [← HV.out, Bool.eq_false_iff]
                      intro h
                      have h1 := (E.fits_iff.1 h).dy
                      omega)
                    clear g0 g1 g2 g3 g5 g6 g7 g8 hp hq hn hk hm hr
                    go_wp2
                    go_ret
                    exact ⟨by rw [HF.out]; rfl, HB3.out⟩
                  · have d8 : decide (x.dy < 0) = false := decide_eq_false g8
                    by_cases g9 : n ≤ x.dy
                    · have d9 : decide (n ≤ x.dy) = true := decide_eq_true g9
                      have HF : Hid (v = false) := Lib.hid (by
                        rw [← HV.out, Bool.eq_false_iff]
                        intro h
                        have h1 := (E.fits_iff.1 h).dy
                        omega)
                      clear g0 g1 g2 g3 g5 g6 g7 g8 g9 hp hq hn hk hm hr
                      go_wp2
                      go_ret
                      exact ⟨by rw [HF.out]; rfl, HB3.out⟩
                    · have d9 : decide (n ≤ x.dy) = false := decide_eq_false g9
                      by_cases g10 : x.bl < 1
                      · have d10 : decide (x.bl < 1) = true := decide_eq_true g10
                        have HF : Hid (v = false) := Lib.hid (by
                          rw [← HV.out, Bool.eq_false_iff]
                          intro h
                          have h1 := (E.fits_iff.1 h).bl
                          omega)
                        clear g0 g1 g2 g3 g5 g6 g7 g8 g9 g10 hp hq hn hk hm hr
                        go_wp2
                        go_ret
                        exact ⟨by rw [HF.out]; rfl, HB3.out⟩
                      · have d10 : decide (x.bl < 1) = false := decide_eq_false g10
                        by_cases g11 : 65535 < x.bl
                        · have d11 : decide (65535 < x.bl) = true := decide_eq_true g11
                          have HF : Hid (v = false) := Lib.hid (by
                            rw [← HV.out, Bool.eq_false_iff]
                            intro h
                            have h1 := (E.fits_iff.1 h).bl
                            omega)
                          clear g0 g1 g2 g3 g5 g6 g7 g8 g9 g10 g11 hp hq hn hk hm hr
                          go_wp2
                          go_ret
                          exact ⟨by rw [HF.out]; rfl, HB3.out⟩
                        · have d11 : decide (65535 < x.bl) = false := decide_eq_false g11
                          have y3 : ¬ x.bl = 0 := by omega
                          have y4 : Int.tdiv x.dy x.bl = k := by rw [Int.tdiv_eq_ediv_of_nonneg (by omega), hk]
                          have y6 := Int.ediv_nonneg (show 0 ≤ x.dy by omega) (show 0 ≤ x.bl by omega)
                          have y7 := Int.ediv_le_self x.bl (show 0 ≤ x.dy by omega)
                          rw [hk] at y6 y7
                          have y5 : IntKind.i64.wrap k = k := IntWalk.i64_in _ (by omega)
                          clear y6 y7
                          by_cases g12 : 8 < k
                          · have d12 : decide (8 < k) = true := decide_eq_true g12
                            have HF : Hid (v = false) := Lib.hid (by
                              rw [← HV.out, Bool.eq_false_iff]
                              intro h
                              have h1 := (E.fits_iff.1 h).nb
                              omega)
                            clear g0 g1 g2 g3 g5 g6 g7 g8 g9 g10 g11 g12 hp hq hn hk hm hr
                            go_wp2
                            go_ret
                            exact ⟨by rw [HF.out]; rfl, HB3.out⟩
                          · have d12 : decide (8 < k) = false := decide_eq_false g12
                            have d14 : IntKind.i64.wrap (n - x.dy) = m := by rw [hm]; exact IntWalk.i64_in _ (by omega)
                            have HF : Hid (v = decide (r ≤ m)) := Lib.hid (by
                              rw [← HV.out, Bool.eq_iff_iff, E.fits_iff, decide_eq_true_iff]
                              constructor
                              · intro h
                                have := h.sh
                                unfold E.sh at this
                                omega
                              · intro h
                                exact ⟨by omega, by omega, HM5.out, by omega, by omega, by omega, by omega, by unfold E.sh; omega⟩)
                            clear g0 g1 g2 g3 g5 g6 g7 g8 g9 g10 g11 g12 hp hq hn hk hm hr
                            go_wp2_with fail
                            refine wp_region_quiet_below (by kernel_rfl) (by kernel_rfl) ?_
                            repeat (go_big_quiet_step (first | exact Calls.regrown_of (hrat _)))
                            refine wpQuiet_nil ?_
                            intro _ hw'
                            obtain ⟨⟨dq, osq⟩, hw''⟩ := hw'
                            subst hw''
                            go_wp2
                            go_ret
                            exact ⟨by rw [HF.out]; rfl, HB3.out.trans ((below_regrown _ dq osq).mono HB3.out.size)⟩
          · have HF : Hid (v = false) := Lib.hid (by
              rw [← HV.out, Bool.eq_false_iff]
              intro h
              have h1 := (E.fits_iff.1 h).meet
              rw [HMT.out] at h1
              cases h1)
            go_wp2
            go_ret
            exact ⟨by rw [HF.out]; rfl, HB3.out⟩
end Go.Proofs.Ytjfnopbdlopjgaa
