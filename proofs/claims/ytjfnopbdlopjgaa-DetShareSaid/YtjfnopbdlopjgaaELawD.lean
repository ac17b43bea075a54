/-
  DetShare, at every mapping and subscriber.
-/
import Derived.Test.YtjfnopbdlopjgaaEAwake
namespace Go.Proofs.Ytjfnopbdlopjgaa
open Go.RowKit

set_option maxHeartbeats 2000000 in
theorem DetShare_in (x : E.D) (sub : Int) (w : World) (hb0 : x.b ≤ 9223372036854775807) (hc0 : x.c ≤ 9223372036854775807)  :
    Calls Try.prog 7 #[.agg #[.int .i64 x.b, .int .i64 x.k, .int .i64 x.c, .int .i64 x.j, .int .i64 x.lo, .int .i64 x.hi, .int .i64 x.dy, .int .i64 x.bl], .int .i64 sub] w fun e w' => e = .returned (.bool true) ∧ Below w.heap.size w w' := by
  have HB0 := Lib.hid (ebox_below w x)
  have HKd0 := Lib.hid (ebox_blok w x)
  obtain ⟨v, hv⟩ : ∃ z, E.baseB x sub = z := ⟨_, rfl⟩
  have Hv := Lib.hid hv
  clear hv
  obtain ⟨a, ha⟩ : ∃ z, E.baseA x sub = z := ⟨_, rfl⟩
  have Ha := Lib.hid ha
  clear ha
  obtain ⟨f, hf⟩ : ∃ z, E.baseF x sub = z := ⟨_, rfl⟩
  have Hf := Lib.hid hf
  clear hf
  obtain ⟨t, ht⟩ : ∃ z, E.baseT x sub = z := ⟨_, rfl⟩
  have Ht := Lib.hid ht
  clear ht
  obtain ⟨r, hr⟩ : ∃ z, E.ratio x = z := ⟨_, rfl⟩
  have Hr := Lib.hid hr
  clear hr
  obtain ⟨n, hn⟩ : ∃ z, E.each x = z := ⟨_, rfl⟩
  have Hn := Lib.hid hn
  clear hn
  obtain ⟨p, hp⟩ : ∃ z, E.ni x = z := ⟨_, rfl⟩
  have Hp := Lib.hid hp
  clear hp
  obtain ⟨q, hq⟩ : ∃ z, E.no x = z := ⟨_, rfl⟩
  have Hq := Lib.hid hq
  clear hq
  have HX := Lib.hid (And.intro hb0 hc0)
  clear hb0 hc0
  go_enter Try.func7, Try.ntmps7
  go_wp2_with fail
  refine (eawake_any (ebox w x)).mono ?_
  rintro e w1 ⟨rfl, hb⟩
  have HKd1 := Lib.hid (HKd0.out.below hb HKd0.out.lt)
  have df0 := e0 HKd1.out
  have df1 := e1 HKd1.out
  have df2 := e2 HKd1.out
  have df3 := e3 HKd1.out
  have df4 := e4 HKd1.out
  have df5 := e5 HKd1.out
  have df6 := e6 HKd1.out
  have df7 := e7 HKd1.out
  have HB1 := Lib.hid (HB0.out.trans (hb.mono HB0.out.size))
  clear hb
  go_wp2_with fail
  refine (ratio_any x r w1 Hr.out).mono ?_
  clear df0 df1 df2 df3 df4 df5 df6 df7
  rintro e w2 ⟨rfl, hb⟩
  have HKd2 := Lib.hid (HKd1.out.below hb HKd1.out.lt)
  have df0 := e0 HKd2.out
  have df1 := e1 HKd2.out
  have df2 := e2 HKd2.out
  have df3 := e3 HKd2.out
  have df4 := e4 HKd2.out
  have df5 := e5 HKd2.out
  have df6 := e6 HKd2.out
  have df7 := e7 HKd2.out
  have HB2 := Lib.hid (HB1.out.trans (hb.mono HB1.out.size))
  clear hb
  go_wp2_with fail
  refine (each_any x n w2 Hn.out HX.out.1 HX.out.2).mono ?_
  clear df0 df1 df2 df3 df4 df5 df6 df7
  rintro e w3 ⟨rfl, hb⟩
  have HKd3 := Lib.hid (HKd2.out.below hb HKd2.out.lt)
  have df0 := e0 HKd3.out
  have df1 := e1 HKd3.out
  have df2 := e2 HKd3.out
  have df3 := e3 HKd3.out
  have df4 := e4 HKd3.out
  have df5 := e5 HKd3.out
  have df6 := e6 HKd3.out
  have df7 := e7 HKd3.out
  have HB3 := Lib.hid (HB2.out.trans (hb.mono HB2.out.size))
  clear hb
  cases hfit : E.fit x
  · obtain rfl : n = 0 := Hn.out.symm.trans (by unfold E.each; rw [hfit]; rfl)
    have HNB : Hid (E.nb x = 0) := Lib.hid (by unfold E.nb; rw [hfit]; rfl)
    have HFIT := Lib.hid hfit
    clear hfit
    go_wp2_with fail
    refine (fit_any x false w3 HFIT.out HX.out.1 HX.out.2).mono ?_
    clear df0 df1 df2 df3 df4 df5 df6 df7
    rintro e w4 ⟨rfl, hb⟩
    have HKd4 := Lib.hid (HKd3.out.below hb HKd3.out.lt)
    have df0 := e0 HKd4.out
    have df1 := e1 HKd4.out
    have df2 := e2 HKd4.out
    have df3 := e3 HKd4.out
    have df4 := e4 HKd4.out
    have df5 := e5 HKd4.out
    have df6 := e6 HKd4.out
    have df7 := e7 HKd4.out
    have HB4 := Lib.hid (HB3.out.trans (hb.mono HB3.out.size))
    clear hb
    go_wp2_with fail
    refine (blocks_any x 0 w4 HNB.out HX.out.1 HX.out.2).mono ?_
    clear df0 df1 df2 df3 df4 df5 df6 df7
    rintro e w5 ⟨rfl, hb⟩
    have HKd5 := Lib.hid (HKd4.out.below hb HKd4.out.lt)
    have df0 := e0 HKd5.out
    have df1 := e1 HKd5.out
    have df2 := e2 HKd5.out
    have df3 := e3 HKd5.out
    have df4 := e4 HKd5.out
    have df5 := e5 HKd5.out
    have df6 := e6 HKd5.out
    have df7 := e7 HKd5.out
    have HB5 := Lib.hid (HB4.out.trans (hb.mono HB4.out.size))
    clear hb
    go_wp2
    go_ret
    exact ⟨rfl, HB5.out⟩
  · have hF := E.fits_iff.1 hfit
    have HF := Lib.hid hF
    have HFIT := Lib.hid hfit
    have hr := hF.ratio
    have he := hF.each
    have hni := hF.ni
    have hno := hF.no
    obtain ⟨y1, y2, y3⟩ := hF.sh_of
    obtain ⟨s, hs⟩ : ∃ z, E.sh x = z := ⟨_, rfl⟩
    rw [hs] at y3 he
    rw [Hn.out, Hr.out] at he
    rw [Hr.out, Hp.out, Hq.out] at hr
    rw [Hp.out] at hni
    rw [Hq.out] at hno
    have b1 : r * (n + 1) = r * n + r := by rw [Int.mul_add, Int.mul_one]
    have b2 : (r - 1) * q = r * q - q := by rw [Int.sub_mul, Int.one_mul]
    have b3 : 0 ≤ r * q := Int.mul_nonneg (by omega) (by omega)
    have b4 : r * q ≤ r * 4 := Int.mul_le_mul_of_nonneg_left (by omega) (by omega)
    have b5 : 0 ≤ r * n := Int.mul_nonneg (by omega) (by omega)
    obtain ⟨rn, hrn⟩ : ∃ z, r * n = z := ⟨_, rfl⟩
    obtain ⟨rq, hrq⟩ : ∃ z, r * q = z := ⟨_, rfl⟩
    obtain ⟨n1, hn1⟩ : ∃ z, n + 1 = z := ⟨_, rfl⟩
    obtain ⟨r1, hr1⟩ : ∃ z, r - 1 = z := ⟨_, rfl⟩
    rw [hn1] at b1 he
    rw [hr1] at b2 hr
    rw [hrn] at b1 b5 he
    rw [hrq] at b2 b3 b4 hr
    have d1 : decide (r < 1) = false := decide_eq_false (by omega)
    have d2 : decide (n < 1) = false := decide_eq_false (by omega)
    have d3 : IntKind.i64.wrap (r * n) = rn := by rw [hrn]; exact IntWalk.i64_in _ (by omega)
    have d4 : decide (s < rn) = false := decide_eq_false (by omega)
    have d5 : IntKind.i64.wrap (n + 1) = n1 := by rw [hn1]; exact IntWalk.i64_in _ (by omega)
    have d6 : IntKind.i64.wrap (r * n1) = rn + r := by rw [b1]; exact IntWalk.i64_in _ (by omega)
    have d7 : decide (rn + r ≤ s) = false := decide_eq_false (by omega)
    have d8 : IntKind.i64.wrap (r * q) = rq := by rw [hrq]; exact IntWalk.i64_in _ (by omega)
    have d9 : decide (rq < p) = false := decide_eq_false (by omega)
    have d10 : IntKind.i64.wrap (r - 1) = r1 := by rw [hr1]; exact IntWalk.i64_in _ (by omega)
    have d11 : IntKind.i64.wrap (r1 * q) = rq - q := by rw [b2]; exact IntWalk.i64_in _ (by omega)
    have d12 : decide (p ≤ rq - q) = false := decide_eq_false (by omega)
    clear hfit hF hr he hni hno hs b1 b2 b3 b4 b5 hrn hrq hn1 hr1
    have P : A.size x.b x.k = p := Hp.out
    have Q : A.size x.c x.j = q := Hq.out
    subst P
    subst Q
    go_wp2_with fail
    refine (fit_any x true w3 HFIT.out HX.out.1 HX.out.2).mono ?_
    clear df0 df1 df2 df3 df4 df5 df6 df7
    rintro e w4 ⟨rfl, hb⟩
    have HKd4 := Lib.hid (HKd3.out.below hb HKd3.out.lt)
    have df0 := e0 HKd4.out
    have df1 := e1 HKd4.out
    have df2 := e2 HKd4.out
    have df3 := e3 HKd4.out
    have df4 := e4 HKd4.out
    have df5 := e5 HKd4.out
    have df6 := e6 HKd4.out
    have df7 := e7 HKd4.out
    have HB4 := Lib.hid (HB3.out.trans (hb.mono HB3.out.size))
    clear hb
    clear df0 df1 df2 df3 df4 df5 df6 df7
    have dc0 := ce0 HKd4.out
    have df0 := e0 HKd4.out
    have dc1 := ce1 HKd4.out
    have df1 := e1 HKd4.out
    have dc2 := ce2 HKd4.out
    have df2 := e2 HKd4.out
    have dc3 := ce3 HKd4.out
    have df3 := e3 HKd4.out
    have dc4 := ce4 HKd4.out
    have df4 := e4 HKd4.out
    have dc5 := ce5 HKd4.out
    have df5 := e5 HKd4.out
    have dc6 := ce6 HKd4.out
    have df6 := e6 HKd4.out
    have dc7 := ce7 HKd4.out
    have df7 := e7 HKd4.out
    go_wp2_with fail
    refine wp_region_quiet_below (by kernel_rfl) (by kernel_rfl) ?_
    repeat (go_big_quiet_step (first | exact Calls.regrown_of (size_any _ _ _ _ rfl)))
    refine wpQuiet_nil ?_
    intro _ hw'
    obtain ⟨⟨dq, osq⟩, hw''⟩ := hw'
    subst hw''
    clear dc0 df0 dc1 df1 dc2 df2 dc3 df3 dc4 df4 dc5 df5 dc6 df6 dc7 df7
    obtain ⟨w5, hw5⟩ : ∃ w5, Go.Sort.grow (redrawn w4 dq) osq = w5 := ⟨_, rfl⟩
    have hb : Below w4.heap.size w4 w5 := by rw [← hw5]; exact below_regrown _ _ _
    rw [hw5]
    clear hw5
    have HKd5 := Lib.hid (HKd4.out.below hb HKd4.out.lt)
    have df0 := e0 HKd5.out
    have df1 := e1 HKd5.out
    have df2 := e2 HKd5.out
    have df3 := e3 HKd5.out
    have df4 := e4 HKd5.out
    have df5 := e5 HKd5.out
    have df6 := e6 HKd5.out
    have df7 := e7 HKd5.out
    have HB5 := Lib.hid (HB4.out.trans (hb.mono HB4.out.size))
    clear hb
    clear d1 d2 d3 d4 d5 d6 d7 d8 d9 d10 d11 d12 y1 y2 y3
    go_wp2_with fail
    refine (base_any x sub a f t v w5 Hv.out Ha.out Hf.out Ht.out HX.out.1 HX.out.2).mono ?_
    clear df0 df1 df2 df3 df4 df5 df6 df7
    rintro e w6 ⟨rfl, hb⟩
    have HKd6 := Lib.hid (HKd5.out.below hb HKd5.out.lt)
    have df0 := e0 HKd6.out
    have df1 := e1 HKd6.out
    have df2 := e2 HKd6.out
    have df3 := e3 HKd6.out
    have df4 := e4 HKd6.out
    have df5 := e5 HKd6.out
    have df6 := e6 HKd6.out
    have df7 := e7 HKd6.out
    have HB6 := Lib.hid (HB5.out.trans (hb.mono HB5.out.size))
    clear hb
    have hb := sbox_below w6 a f t
    have HKd7 := Lib.hid (HKd6.out.below hb HKd6.out.lt)
    have dxa0 := fun o => e0 (HKd6.out.alloc o)
    have dxa1 := fun o => e1 (HKd6.out.alloc o)
    have dxa2 := fun o => e2 (HKd6.out.alloc o)
    have dxa3 := fun o => e3 (HKd6.out.alloc o)
    have dxa4 := fun o => e4 (HKd6.out.alloc o)
    have dxa5 := fun o => e5 (HKd6.out.alloc o)
    have dxa6 := fun o => e6 (HKd6.out.alloc o)
    have dxa7 := fun o => e7 (HKd6.out.alloc o)
    have HKx7 := Lib.hid (sbox_blok w6 a f t)
    have HB7 := Lib.hid (HB6.out.trans (hb.mono HB6.out.size))
    clear hb
    cases v
    · skip
      go_wp2
      go_ret
      exact ⟨rfl, HB7.out⟩
    · obtain ⟨hF, p0, p1, p2, p3, p4, p5, p6, p7, p8, p9, -, -, -⟩ := E.base_in Hv.out
      have hr := hF.ratio
      have hl := hF.lo
      have hdy := hF.dy
      have hno := hF.no
      have hni := hF.ni
      rw [Ha.out] at p1 p4 p8 p9
      rw [Hf.out] at p2 p3 p5 p6
      rw [Ht.out] at p3 p6 p7
      rw [Hr.out] at p8 p9 hr
      rw [Hn.out] at p3
      rw [Int.add_mul, Int.one_mul] at p9
      have b1 : 0 ≤ a * r := Int.mul_nonneg p4.1 (by omega)
      obtain ⟨ar, har⟩ : ∃ z, a * r = z := ⟨_, rfl⟩
      obtain ⟨a1, ha1⟩ : ∃ z, a + 1 = z := ⟨_, rfl⟩
      rw [har] at p8 p9 b1
      have c1 : IntKind.i64.wrap (t - f) = n - 1 := by rw [show t - f = n - 1 by omega]; exact IntWalk.i64_in _ (by omega)
      have c2 : IntKind.i64.wrap (n - 1 + 1) = n := by rw [show n - 1 + 1 = n by omega]; exact IntWalk.i64_in _ (by omega)
      have c2' : IntKind.i64.wrap n = n := IntWalk.i64_in _ (by omega)
      have c3 : IntKind.i64.wrap (a * r) = ar := by rw [har]; exact IntWalk.i64_in _ (by omega)
      have c4 : decide (ar ≤ sub) = true := decide_eq_true p8
      have c5 : IntKind.i64.wrap (a + 1) = a1 := by rw [ha1]; exact IntWalk.i64_in _ (by omega)
      have c6 : IntKind.i64.wrap (a1 * r) = ar + r := by rw [← ha1, Int.add_mul, Int.one_mul, har]; exact IntWalk.i64_in _ (by omega)
      have c7 : decide (sub < ar + r) = true := decide_eq_true p9
      clear hF p0 p1 p2 p3 p4 p5 p6 p7 p8 p9 hr hl hdy hno hni b1 har ha1
      go_wp2
      go_ret
      exact ⟨rfl, HB7.out⟩
end Go.Proofs.Ytjfnopbdlopjgaa
