/-
  DetOrder, at every mapping and subscriber.
-/
import Derived.Test.YtjfnopbdlopjgaaEAwake
namespace Go.Proofs.Ytjfnopbdlopjgaa
open Go.RowKit

set_option maxHeartbeats 2000000 in
theorem DetOrder_in (x : E.D) (sub : Int) (w : World) (hb0 : x.b ≤ 9223372036854775807) (hc0 : x.c ≤ 9223372036854775807)  :
    Calls Try.prog 8 #[.agg #[.int .i64 x.b, .int .i64 x.k, .int .i64 x.c, .int .i64 x.j, .int .i64 x.lo, .int .i64 x.hi, .int .i64 x.dy, .int .i64 x.bl], .int .i64 sub] w fun e w' => e = .returned (.bool true) ∧ Below w.heap.size w w' := by
  have HB0 := Lib.hid (ebox_below w x)
  have HKd0 := Lib.hid (ebox_blok w x)
  obtain ⟨v1, hv1⟩ : ∃ z, E.baseB x sub = z := ⟨_, rfl⟩
  have Hv1 := Lib.hid hv1
  clear hv1
  obtain ⟨a1, ha1⟩ : ∃ z, E.baseA x sub = z := ⟨_, rfl⟩
  have Ha1 := Lib.hid ha1
  clear ha1
  obtain ⟨f1, hf1⟩ : ∃ z, E.baseF x sub = z := ⟨_, rfl⟩
  have Hf1 := Lib.hid hf1
  clear hf1
  obtain ⟨t1, ht1⟩ : ∃ z, E.baseT x sub = z := ⟨_, rfl⟩
  have Ht1 := Lib.hid ht1
  clear ht1
  obtain ⟨v2, hv2⟩ : ∃ z, E.baseB x (sub + 1) = z := ⟨_, rfl⟩
  have Hv2 := Lib.hid hv2
  clear hv2
  obtain ⟨a2, ha2⟩ : ∃ z, E.baseA x (sub + 1) = z := ⟨_, rfl⟩
  have Ha2 := Lib.hid ha2
  clear ha2
  obtain ⟨f2, hf2⟩ : ∃ z, E.baseF x (sub + 1) = z := ⟨_, rfl⟩
  have Hf2 := Lib.hid hf2
  clear hf2
  obtain ⟨t2, ht2⟩ : ∃ z, E.baseT x (sub + 1) = z := ⟨_, rfl⟩
  have Ht2 := Lib.hid ht2
  clear ht2
  obtain ⟨r, hr⟩ : ∃ z, E.ratio x = z := ⟨_, rfl⟩
  have Hr := Lib.hid hr
  clear hr
  have HX := Lib.hid (And.intro hb0 hc0)
  clear hb0 hc0
  go_enter Try.func8, Try.ntmps8
  go_wp2_with fail
  refine (eawake_any (ebox w x)).mono ?_
  rintro e w1 ⟨rfl, hb⟩
  have HKd1 := Lib.hid (HKd0.out.below hb HKd0.out.lt)
  have df0 := e0 HKd1.out
  have df1 := e1 HKd1.out
  have df2 := e2 HKd1.out
  have df3 := e3 HKd1.out
  have df4 := e4 HKd1.out
  have df5 := e5 HKd1.out
  have df6 := e6 HKd1.out
  have df7 := e7 HKd1.out
  have HB1 := Lib.hid (HB0.out.trans (hb.mono HB0.out.size))
  clear hb
  by_cases g0 : sub < 0
  · have c0 : decide (sub < 0) = true := decide_eq_true g0
    clear g0
    go_wp2
    go_ret
    exact ⟨rfl, HB1.out⟩
  · have c0 : decide (sub < 0) = false := decide_eq_false g0
    by_cases g1 : 40 < sub
    · have c1 : decide (40 < sub) = true := decide_eq_true g1
      clear g0 g1
      go_wp2
      go_ret
      exact ⟨rfl, HB1.out⟩
    · have c1 : decide (40 < sub) = false := decide_eq_false g1
      have c2 : IntKind.i64.wrap (sub + 1) = sub + 1 := IntWalk.i64_in _ (by omega)
      have G0 := Lib.hid g0
      clear g0 g1
      go_wp2_with fail
      refine (base_any x sub a1 f1 t1 v1 w1 Hv1.out Ha1.out Hf1.out Ht1.out HX.out.1 HX.out.2).mono ?_
      clear df0 df1 df2 df3 df4 df5 df6 df7
      rintro e w2 ⟨rfl, hb⟩
      have HKd2 := Lib.hid (HKd1.out.below hb HKd1.out.lt)
      have df0 := e0 HKd2.out
      have df1 := e1 HKd2.out
      have df2 := e2 HKd2.out
      have df3 := e3 HKd2.out
      have df4 := e4 HKd2.out
      have df5 := e5 HKd2.out
      have df6 := e6 HKd2.out
      have df7 := e7 HKd2.out
      have HB2 := Lib.hid (HB1.out.trans (hb.mono HB1.out.size))
      clear hb
      have hb := sbox_below w2 a1 f1 t1
      have HKd3 := Lib.hid (HKd2.out.below hb HKd2.out.lt)
      have dxa0 := fun o => e0 (HKd2.out.alloc o)
      have dxa1 := fun o => e1 (HKd2.out.alloc o)
      have dxa2 := fun o => e2 (HKd2.out.alloc o)
      have dxa3 := fun o => e3 (HKd2.out.alloc o)
      have dxa4 := fun o => e4 (HKd2.out.alloc o)
      have dxa5 := fun o => e5 (HKd2.out.alloc o)
      have dxa6 := fun o => e6 (HKd2.out.alloc o)
      have dxa7 := fun o => e7 (HKd2.out.alloc o)
      have HKx3 := Lib.hid (sbox_blok w2 a1 f1 t1)
      have HB3 := Lib.hid (HB2.out.trans (hb.mono HB2.out.size))
      clear hb
      go_wp2_with fail
      refine (base_any x (sub + 1) a2 f2 t2 v2 (sbox w2 a1 f1 t1) Hv2.out Ha2.out Hf2.out Ht2.out HX.out.1 HX.out.2).mono ?_
      clear df0 df1 df2 df3 df4 df5 df6 df7 dxa0 dxa1 dxa2 dxa3 dxa4 dxa5 dxa6 dxa7
      rintro e w4 ⟨rfl, hb⟩
      have HKd4 := Lib.hid (HKd3.out.below hb HKd3.out.lt)
      have HKx4 := Lib.hid (HKx3.out.below hb HKx3.out.lt)
      have df0 := e0 HKd4.out
      have df1 := e1 HKd4.out
      have df2 := e2 HKd4.out
      have df3 := e3 HKd4.out
      have df4 := e4 HKd4.out
      have df5 := e5 HKd4.out
      have df6 := e6 HKd4.out
      have df7 := e7 HKd4.out
      have xf0 := s0 HKx4.out
      have xf1 := s1 HKx4.out
      have xf2 := s2 HKx4.out
      have HB4 := Lib.hid (HB3.out.trans (hb.mono HB3.out.size))
      clear hb
      have hb := sbox_below w4 a2 f2 t2
      have HKd5 := Lib.hid (HKd4.out.below hb HKd4.out.lt)
      have dya0 := fun o => e0 (HKd4.out.alloc o)
      have dya1 := fun o => e1 (HKd4.out.alloc o)
      have dya2 := fun o => e2 (HKd4.out.alloc o)
      have dya3 := fun o => e3 (HKd4.out.alloc o)
      have dya4 := fun o => e4 (HKd4.out.alloc o)
      have dya5 := fun o => e5 (HKd4.out.alloc o)
      have dya6 := fun o => e6 (HKd4.out.alloc o)
      have dya7 := fun o => e7 (HKd4.out.alloc o)
      have HKx5 := Lib.hid (HKx4.out.below hb HKx4.out.lt)
      have xya0 := fun o => s0 (HKx4.out.alloc o)
      have xya1 := fun o => s1 (HKx4.out.alloc o)
      have xya2 := fun o => s2 (HKx4.out.alloc o)
      have HKy5 := Lib.hid (sbox_blok w4 a2 f2 t2)
      have HB5 := Lib.hid (HB4.out.trans (hb.mono HB4.out.size))
      clear hb
      cases v2
      · cases v1
        · skip
          go_wp2
          go_ret
          exact ⟨rfl, HB5.out⟩
        · skip
          go_wp2
          go_ret
          exact ⟨rfl, HB5.out⟩
      · obtain ⟨hF, q0, q1, q2, q3, q4, q5, q6, q7, q8, q9, q10, q11, q12⟩ := E.base_in Hv2.out
        have hv1 : E.baseB x sub = true := E.baseB_iff.2 ⟨hF, by have := G0.out; omega, by omega⟩
        obtain rfl : v1 = true := Hv1.out.symm.trans hv1
        obtain ⟨-, p0, p1, p2, p3, p4, p5, p6, p7, p8, p9, p10, p11, p12⟩ := E.base_in hv1
        rw [Ha2.out] at q1 q4 q8 q9
        rw [Hf2.out] at q2 q3 q5 q6
        rw [Ht2.out] at q3 q6 q7
        rw [Ha1.out] at p1 p4 p8 p9
        rw [Hf1.out] at p2 p3 p5 p6
        rw [Ht1.out] at p3 p6 p7
        have hr := hF.ratio
        have hl := hF.lo
        have hno := hF.no
        have hdy := hF.dy
        rw [Hr.out] at q1 q2 q8 q9 q10 q11 q12 p1 p2 p8 p9 p10 p11 p12 hr
        have r0 : ¬ r = 0 := by omega
        have z1 := Int.mul_ediv_add_emod sub r
        have z2 := Int.mul_ediv_add_emod (sub + 1) r
        rw [← p1] at z1
        rw [← q1] at z2
        obtain ⟨m1, hm1⟩ : ∃ z, sub % r = z := ⟨_, rfl⟩
        obtain ⟨m2, hm2⟩ : ∃ z, (sub + 1) % r = z := ⟨_, rfl⟩
        rw [hm1] at z1 p2 p10 p11 p12
        rw [hm2] at z2 q2 q10 q11 q12
        have c5 : Int.tmod (sub + 1) r = m2 := by rw [Int.tmod_eq_emod_of_nonneg (by omega)]; exact hm2
        have c6 : IntKind.i64.wrap m2 = m2 := IntWalk.i64_in _ (by omega)
        by_cases ga : a2 = a1
        · have c3 : (a2 == a1) = true := by simpa using ga
          have hm : m2 = m1 + 1 := by
            subst ga
            omega
          have hf : t1 + 1 = f2 := by rw [q2, hm, Int.add_mul, Int.one_mul]; omega
          have c4 : IntKind.i64.wrap (t1 + 1) = f2 := by rw [hf]; exact IntWalk.i64_in _ (by omega)
          clear hF q0 q1 q2 q3 q4 q5 q6 q7 q8 q9 q10 q11 q12 p0 p1 p2 p3 p4 p5 p6 p7 p8 p9 p10 p11 p12 hr hl hno hdy r0 z1 z2 hm1 hm2 c5 c6 ga hm hf hv1
          go_wp2
          go_ret
          exact ⟨rfl, HB5.out⟩
        · have c3 : (a2 == a1) = false := by simpa using ga
          have ha : a2 = a1 + 1 := by
            have u1 : a1 ≤ a2 := by
              refine Int.not_lt.1 fun h => ?_
              have : r * a2 + r ≤ r * a1 := by
                have := Int.mul_le_mul_of_nonneg_left (show a2 + 1 ≤ a1 by omega) (show 0 ≤ r by omega)
                rw [Int.mul_add, Int.mul_one] at this
                exact this
              omega
            refine Int.le_antisymm (Int.not_lt.1 fun h => ?_) (by omega)
            have : r * a1 + r + r ≤ r * a2 := by
              have := Int.mul_le_mul_of_nonneg_left (show a1 + 2 ≤ a2 by omega) (show 0 ≤ r by omega)
              rw [Int.mul_add] at this
              omega
            omega
          have hm : m2 = 0 := by
            rw [ha, Int.mul_add, Int.mul_one] at z2
            omega
          have hf : f2 = x.lo := by rw [q2, hm, Int.zero_mul]; omega
          have c4 : IntKind.i64.wrap (a1 + 1) = a2 := by rw [← ha]; exact IntWalk.i64_in _ (by omega)
          have c8 : (f2 == x.lo) = true := by rw [hf]; simp
          subst hm
          clear hF q0 q1 q2 q3 q4 q5 q6 q7 q8 q9 q10 q11 q12 p0 p1 p2 p3 p4 p5 p6 p7 p8 p9 p10 p11 p12 hr hl hno hdy z1 z2 hm1 hm2 ga hf hv1 ha
          go_wp2_with fail
          refine (ratio_any x r (sbox w4 a2 f2 t2) Hr.out).mono ?_
          clear df0 df1 df2 df3 df4 df5 df6 df7 xf0 xf1 xf2 dya0 dya1 dya2 dya3 dya4 dya5 dya6 dya7 xya0 xya1 xya2
          rintro e w6 ⟨rfl, hb⟩
          have HKd6 := Lib.hid (HKd5.out.below hb HKd5.out.lt)
          have HKx6 := Lib.hid (HKx5.out.below hb HKx5.out.lt)
          have HKy6 := Lib.hid (HKy5.out.below hb HKy5.out.lt)
          have df0 := e0 HKd6.out
          have df1 := e1 HKd6.out
          have df2 := e2 HKd6.out
          have df3 := e3 HKd6.out
          have df4 := e4 HKd6.out
          have df5 := e5 HKd6.out
          have df6 := e6 HKd6.out
          have df7 := e7 HKd6.out
          have xf0 := s0 HKx6.out
          have xf1 := s1 HKx6.out
          have xf2 := s2 HKx6.out
          have yf0 := s0 HKy6.out
          have yf1 := s1 HKy6.out
          have yf2 := s2 HKy6.out
          have HB6 := Lib.hid (HB5.out.trans (hb.mono HB5.out.size))
          clear hb
          go_wp2
          go_ret
          exact ⟨rfl, HB6.out⟩
end Go.Proofs.Ytjfnopbdlopjgaa
