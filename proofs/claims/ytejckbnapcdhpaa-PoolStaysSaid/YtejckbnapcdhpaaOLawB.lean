/-
  PoolStays, at every list, numbers and busy addresses.
-/
import Derived.Test.YtejckbnapcdhpaaOLaws
namespace Go.Proofs.Ytejckbnapcdhpaa
open Go.RowKit

set_option maxRecDepth 100000 in
set_option maxHeartbeats 4000000 in
theorem PoolStays_in (a : Option Addr) (n c : Nat) (l : List O.Pl) (out k f nn : Int) (ab : Option Addr) (nb cb : Nat) (bs : List Int) (w : World) (h : QIn w a n c l) (hz : O.Sm l) (hf : f ≤ 9223372036854775807) (hu : BIn w ab nb cb bs) :
    Calls Try.prog 4 #[.slice a n c, .int .i64 out, .int .i64 k, .int .i64 f, .int .i64 nn, .slice ab nb cb] w fun e w' => e = .returned (.bool true) ∧ Below w.heap.size w w' := by
  have HB0 := Lib.hid (Below.refl w.heap.size w)
  have HTx0 := Lib.hid h
  have hl := h.1
  have HU0 := Lib.hid hu
  have HZ := Lib.hid hz
  clear hz
  clear h hu
  by_cases hn : n ≤ 6
  · have g1 : decide ((6 : Int) < (n : Int)) = false := by simp; omega
    by_cases hnb : nb ≤ 40
    · have g3 : decide ((40 : Int) < (nb : Int)) = false := by simp; omega
      obtain ⟨pm, hpm⟩ : ∃ b, O.may l out = b := ⟨_, rfl⟩
      have HM := Lib.hid hpm
      obtain ⟨⟨l2, e2⟩, s2⟩ : ∃ x, O.add l out f nn = x := ⟨_, rfl⟩
      obtain ⟨n2, m2⟩ : ∃ m, l2.length = m := ⟨_, rfl⟩
      have b2 := O.add_len l out f nn
      rw [s2] at b2
      dsimp only at b2
      rw [m2] at b2
      have z2 : n2 ≤ 100 := by omega
      clear b2
      have S2 := Lib.hid s2
      have M2 := Lib.hid m2
      obtain ⟨⟨l3, e3⟩, s3⟩ : ∃ x, O.drain l out k = x := ⟨_, rfl⟩
      obtain ⟨n3, m3⟩ : ∃ m, l3.length = m := ⟨_, rfl⟩
      have b3 := O.drain_len l out k
      rw [s3] at b3
      dsimp only at b3
      rw [m3] at b3
      have z3 : n3 ≤ 100 := by omega
      clear b3
      have S3 := Lib.hid s3
      have M3 := Lib.hid m3
      obtain ⟨⟨l4, e4⟩, s4⟩ : ∃ x, O.size l out k nn bs = x := ⟨_, rfl⟩
      obtain ⟨n4, m4⟩ : ∃ m, l4.length = m := ⟨_, rfl⟩
      have b4 := O.size_len l out k nn bs
      rw [s4] at b4
      dsimp only at b4
      rw [m4] at b4
      have z4 : n4 ≤ 100 := by omega
      clear b4
      have S4 := Lib.hid s4
      have M4 := Lib.hid m4
      obtain ⟨⟨l5, e5⟩, s5⟩ : ∃ x, O.gone l out k bs = x := ⟨_, rfl⟩
      obtain ⟨n5, m5⟩ : ∃ m, l5.length = m := ⟨_, rfl⟩
      have b5 := O.gone_len l out k bs
      rw [s5] at b5
      dsimp only at b5
      rw [m5] at b5
      have z5 : n5 ≤ 100 := by omega
      clear b5
      have S5 := Lib.hid s5
      have M5 := Lib.hid m5
      have hm2 : O.may l2 out = pm := by have := O.add_may l out f nn; rw [s2] at this; rw [← hpm]; exact this
      have hz2 : O.Sm l2 := by have := O.add_sm out f nn HZ.out; rw [s2] at this; exact this
      have he2 : e2 ≠ 0 → l2 = l := fun he => by
        rcases O.add_cases l out f nn with ⟨e, h, h2, _⟩ | ⟨h, _⟩ <;> rw [s2] at h
        · exact (Prod.mk.inj h).1
        · exact absurd (Prod.mk.inj h).2 he
      have Hm2 := Lib.hid hm2
      have Hz2 := Lib.hid hz2
      have He2 := Lib.hid he2
      clear hm2 hz2 he2
      have hm3 : O.may l3 out = pm := by have := O.drain_may l out k; rw [s3] at this; rw [← hpm]; exact this
      have hz3 : O.Sm l3 := by have := O.drain_sm out k HZ.out; rw [s3] at this; exact this
      have he3 : e3 ≠ 0 → l3 = l := fun he => by
        rcases O.drain_cases l out k with ⟨e, h, h2⟩ | ⟨m, x, _, _, _, _, h, _⟩ <;> rw [s3] at h
        · exact (Prod.mk.inj h).1
        · exact absurd (Prod.mk.inj h).2 he
      have Hm3 := Lib.hid hm3
      have Hz3 := Lib.hid hz3
      have He3 := Lib.hid he3
      clear hm3 hz3 he3
      have hm4 : O.may l4 out = pm := by have := O.size_may l out k nn bs; rw [s4] at this; rw [← hpm]; exact this
      have hz4 : O.Sm l4 := by have := O.size_sm out k nn bs HZ.out; rw [s4] at this; exact this
      have he4 : e4 ≠ 0 → l4 = l := fun he => by
        rcases O.size_cases l out k nn bs with ⟨e, h, h2⟩ | ⟨m, x, _, _, _, h, _⟩ <;> rw [s4] at h
        · exact (Prod.mk.inj h).1
        · exact absurd (Prod.mk.inj h).2 he
      have Hm4 := Lib.hid hm4
      have Hz4 := Lib.hid hz4
      have He4 := Lib.hid he4
      clear hm4 hz4 he4
      have hm5 : O.may l5 out = pm := by have := O.gone_may l out k bs; rw [s5] at this; rw [← hpm]; exact this
      have hz5 : O.Sm l5 := by have := O.gone_sm out k bs HZ.out; rw [s5] at this; exact this
      have he5 : e5 ≠ 0 → l5 = l := fun he => by
        rcases O.gone_cases l out k bs with ⟨e, h, h2, _⟩ | ⟨m, x, _, _, _, _, h, _⟩ <;> rw [s5] at h
        · exact (Prod.mk.inj h).1
        · exact absurd (Prod.mk.inj h).2 he
      have Hm5 := Lib.hid hm5
      have Hz5 := Lib.hid hz5
      have He5 := Lib.hid he5
      clear hm5 hz5 he5
      have hf2 : pm = false → e2 = 1 ∧ e5 = 1 := fun hp => by
        constructor
        · rcases O.add_cases l out f nn with ⟨e, h, _, h3⟩ | ⟨h, h3, _⟩ <;> rw [s2] at h
          · rw [(Prod.mk.inj h).2]; exact h3 (by rw [hpm, hp])
          · rw [O.may_iff.2 h3] at hpm; rw [← hpm] at hp; cases hp
        · rcases O.gone_cases l out k bs with ⟨e, h, _, h3⟩ | ⟨m, x, _, _, _, _, h, _, h3, _⟩ <;> rw [s5] at h
          · rw [(Prod.mk.inj h).2]; exact h3 (by rw [hpm, hp])
          · rw [O.may_iff.2 h3] at hpm; rw [← hpm] at hp; cases hp
      have HF2 := Lib.hid hf2
      clear hf2 hpm
      have f6 : (pm == pm) = true := by simp
      clear s2 m2
      clear s3 m3
      clear s4 m4
      clear s5 m5
      go_enter Try.func4, Try.ntmps4
      go_wp2_with fail
      refine (oawake_any w).mono ?_
      rintro e w1 ⟨rfl, hb⟩
      have HTx1 := Lib.hid (HTx0.out.below hb)
      have HU1 := Lib.hid (HU0.out.below hb)
      have HB1 := Lib.hid (HB0.out.trans (hb.mono HB0.out.size))
      clear hb HTx0 HU0 HB0
      go_wp2_with fail
      refine (may_any a n c l out pm HM.out w1 HTx1.out (by omega) HZ.out).mono ?_
      rintro e w2 ⟨rfl, hb⟩
      have HTx2 := Lib.hid (HTx1.out.below hb)
      have HU2 := Lib.hid (HU1.out.below hb)
      have HB2 := Lib.hid (HB1.out.trans (hb.mono HB1.out.size))
      clear hb HTx1 HU1 HB1
      go_wp2_with fail
      refine (add_is a n c l out f nn l2 n2 e2 w2 HTx2.out (by omega) HZ.out hf S2.out M2.out).mono ?_
      rintro e w3 ⟨a2, c2, rfl, ht2, hb⟩
      have HTx3 := Lib.hid (HTx2.out.below hb)
      have HU3 := Lib.hid (HU2.out.below hb)
      have HB3 := Lib.hid (HB2.out.trans (hb.mono HB2.out.size))
      clear hb HTx2 HU2 HB2
      have HT23 := ht2
      clear ht2
      go_wp2_with fail
      refine (drain_is a n c l out k l3 n3 e3 w3 HTx3.out (by omega) HZ.out S3.out M3.out).mono ?_
      rintro e w4 ⟨a3, c3, rfl, ht3, hb⟩
      have HTx4 := Lib.hid (HTx3.out.below hb)
      have HT24 := Lib.hid (HT23.out.below hb)
      have HU4 := Lib.hid (HU3.out.below hb)
      have HB4 := Lib.hid (HB3.out.trans (hb.mono HB3.out.size))
      clear hb HTx3 HT23 HU3 HB3
      have HT34 := ht3
      clear ht3
      go_wp2_with fail
      refine (size_is a n c l out k nn ab nb cb bs l4 n4 e4 w4 HTx4.out (by omega) HZ.out HU4.out (by omega) S4.out M4.out).mono ?_
      rintro e w5 ⟨a4, c4, rfl, ht4, hb⟩
      have HTx5 := Lib.hid (HTx4.out.below hb)
      have HT25 := Lib.hid (HT24.out.below hb)
      have HT35 := Lib.hid (HT34.out.below hb)
      have HU5 := Lib.hid (HU4.out.below hb)
      have HB5 := Lib.hid (HB4.out.trans (hb.mono HB4.out.size))
      clear hb HTx4 HT24 HT34 HU4 HB4
      have HT45 := ht4
      clear ht4
      go_wp2_with fail
      refine (gone_is a n c l out k ab nb cb bs l5 n5 e5 w5 HTx5.out (by omega) HZ.out HU5.out (by omega) S5.out M5.out).mono ?_
      rintro e w6 ⟨a5, c5, rfl, ht5, hb⟩
      have HTx6 := Lib.hid (HTx5.out.below hb)
      have HT26 := Lib.hid (HT25.out.below hb)
      have HT36 := Lib.hid (HT35.out.below hb)
      have HT46 := Lib.hid (HT45.out.below hb)
      have HU6 := Lib.hid (HU5.out.below hb)
      have HB6 := Lib.hid (HB5.out.trans (hb.mono HB5.out.size))
      clear hb HTx5 HT25 HT35 HT45 HU5 HB5
      have HT56 := ht5
      clear ht5
      by_cases hd2 : e2 = 0
      · have k2 : (e2 != 0) = false := by simpa using hd2
        clear hd2
        by_cases hd3 : e3 = 0
        · have k3 : (e3 != 0) = false := by simpa using hd3
          clear hd3
          by_cases hd4 : e4 = 0
          · have k4 : (e4 != 0) = false := by simpa using hd4
            clear hd4
            by_cases hd5 : e5 = 0
            · have k5 : (e5 != 0) = false := by simpa using hd5
              clear hd5
              go_wp2_with fail
              refine (may_any a2 n2 c2 l2 out pm Hm2.out w6 HT26.out (by omega) Hz2.out).mono ?_
              rintro e w7 ⟨rfl, hb⟩
              have HTx7 := Lib.hid (HTx6.out.below hb)
              have HT27 := Lib.hid (HT26.out.below hb)
              have HT37 := Lib.hid (HT36.out.below hb)
              have HT47 := Lib.hid (HT46.out.below hb)
              have HT57 := Lib.hid (HT56.out.below hb)
              have HU7 := Lib.hid (HU6.out.below hb)
              have HB7 := Lib.hid (HB6.out.trans (hb.mono HB6.out.size))
              clear hb HTx6 HT26 HT36 HT46 HT56 HU6 HB6
              go_wp2_with fail
              refine (may_any a3 n3 c3 l3 out pm Hm3.out w7 HT37.out (by omega) Hz3.out).mono ?_
              rintro e w8 ⟨rfl, hb⟩
              have HTx8 := Lib.hid (HTx7.out.below hb)
              have HT28 := Lib.hid (HT27.out.below hb)
              have HT38 := Lib.hid (HT37.out.below hb)
              have HT48 := Lib.hid (HT47.out.below hb)
              have HT58 := Lib.hid (HT57.out.below hb)
              have HU8 := Lib.hid (HU7.out.below hb)
              have HB8 := Lib.hid (HB7.out.trans (hb.mono HB7.out.size))
              clear hb HTx7 HT27 HT37 HT47 HT57 HU7 HB7
              go_wp2_with fail
              refine (may_any a4 n4 c4 l4 out pm Hm4.out w8 HT48.out (by omega) Hz4.out).mono ?_
              rintro e w9 ⟨rfl, hb⟩
              have HTx9 := Lib.hid (HTx8.out.below hb)
              have HT29 := Lib.hid (HT28.out.below hb)
              have HT39 := Lib.hid (HT38.out.below hb)
              have HT49 := Lib.hid (HT48.out.below hb)
              have HT59 := Lib.hid (HT58.out.below hb)
              have HU9 := Lib.hid (HU8.out.below hb)
              have HB9 := Lib.hid (HB8.out.trans (hb.mono HB8.out.size))
              clear hb HTx8 HT28 HT38 HT48 HT58 HU8 HB8
              go_wp2_with fail
              refine (may_any a5 n5 c5 l5 out pm Hm5.out w9 HT59.out (by omega) Hz5.out).mono ?_
              rintro e w10 ⟨rfl, hb⟩
              have HTx10 := Lib.hid (HTx9.out.below hb)
              have HT210 := Lib.hid (HT29.out.below hb)
              have HT310 := Lib.hid (HT39.out.below hb)
              have HT410 := Lib.hid (HT49.out.below hb)
              have HT510 := Lib.hid (HT59.out.below hb)
              have HU10 := Lib.hid (HU9.out.below hb)
              have HB10 := Lib.hid (HB9.out.trans (hb.mono HB9.out.size))
              clear hb HTx9 HT29 HT39 HT49 HT59 HU9 HB9
              cases pm with
              | true =>
                go_wp2
                go_ret
                exact ⟨rfl, HB10.out⟩
              | false =>
                obtain ⟨w2, w5⟩ := HF2.out rfl
                have w2' : (e2 == 1) = true := by rw [w2]; rfl
                have w5' : (e5 == 1) = true := by rw [w5]; rfl
                clear w2 w5
                go_wp2
                go_ret
                exact ⟨rfl, HB10.out⟩
            · have k5 : (e5 != 0) = true := by simpa using hd5
              have hl5 := Lib.hid (He5.out hd5)
              clear hd5
              go_wp2_with fail
              refine (sameO_any a5 a n5 n c5 c l5 l w6 HT56.out HTx6.out (by omega) true (by rw [hl5.out]; simp)).mono ?_
              rintro e w7 ⟨rfl, hb⟩
              have HTx7 := Lib.hid (HTx6.out.below hb)
              have HT27 := Lib.hid (HT26.out.below hb)
              have HT37 := Lib.hid (HT36.out.below hb)
              have HT47 := Lib.hid (HT46.out.below hb)
              have HT57 := Lib.hid (HT56.out.below hb)
              have HU7 := Lib.hid (HU6.out.below hb)
              have HB7 := Lib.hid (HB6.out.trans (hb.mono HB6.out.size))
              clear hb HTx6 HT26 HT36 HT46 HT56 HU6 HB6
              go_wp2_with fail
              refine (may_any a2 n2 c2 l2 out pm Hm2.out w7 HT27.out (by omega) Hz2.out).mono ?_
              rintro e w8 ⟨rfl, hb⟩
              have HTx8 := Lib.hid (HTx7.out.below hb)
              have HT28 := Lib.hid (HT27.out.below hb)
              have HT38 := Lib.hid (HT37.out.below hb)
              have HT48 := Lib.hid (HT47.out.below hb)
              have HT58 := Lib.hid (HT57.out.below hb)
              have HU8 := Lib.hid (HU7.out.below hb)
              have HB8 := Lib.hid (HB7.out.trans (hb.mono HB7.out.size))
              clear hb HTx7 HT27 HT37 HT47 HT57 HU7 HB7
              go_wp2_with fail
              refine (may_any a3 n3 c3 l3 out pm Hm3.out w8 HT38.out (by omega) Hz3.out).mono ?_
              rintro e w9 ⟨rfl, hb⟩
              have HTx9 := Lib.hid (HTx8.out.below hb)
              have HT29 := Lib.hid (HT28.out.below hb)
              have HT39 := Lib.hid (HT38.out.below hb)
              have HT49 := Lib.hid (HT48.out.below hb)
              have HT59 := Lib.hid (HT58.out.below hb)
              have HU9 := Lib.hid (HU8.out.below hb)
              have HB9 := Lib.hid (HB8.out.trans (hb.mono HB8.out.size))
              clear hb HTx8 HT28 HT38 HT48 HT58 HU8 HB8
              go_wp2_with fail
              refine (may_any a4 n4 c4 l4 out pm Hm4.out w9 HT49.out (by omega) Hz4.out).mono ?_
              rintro e w10 ⟨rfl, hb⟩
              have HTx10 := Lib.hid (HTx9.out.below hb)
              have HT210 := Lib.hid (HT29.out.below hb)
              have HT310 := Lib.hid (HT39.out.below hb)
              have HT410 := Lib.hid (HT49.out.below hb)
              have HT510 := Lib.hid (HT59.out.below hb)
              have HU10 := Lib.hid (HU9.out.below hb)
              have HB10 := Lib.hid (HB9.out.trans (hb.mono HB9.out.size))
              clear hb HTx9 HT29 HT39 HT49 HT59 HU9 HB9
              go_wp2_with fail
              refine (may_any a5 n5 c5 l5 out pm Hm5.out w10 HT510.out (by omega) Hz5.out).mono ?_
              rintro e w11 ⟨rfl, hb⟩
              have HTx11 := Lib.hid (HTx10.out.below hb)
              have HT211 := Lib.hid (HT210.out.below hb)
              have HT311 := Lib.hid (HT310.out.below hb)
              have HT411 := Lib.hid (HT410.out.below hb)
              have HT511 := Lib.hid (HT510.out.below hb)
              have HU11 := Lib.hid (HU10.out.below hb)
              have HB11 := Lib.hid (HB10.out.trans (hb.mono HB10.out.size))
              clear hb HTx10 HT210 HT310 HT410 HT510 HU10 HB10
              cases pm with
              | true =>
                go_wp2
                go_ret
                exact ⟨rfl, HB11.out⟩
              | false =>
                obtain ⟨w2, w5⟩ := HF2.out rfl
                have w2' : (e2 == 1) = true := by rw [w2]; rfl
                have w5' : (e5 == 1) = true := by rw [w5]; rfl
                clear w2 w5
                go_wp2
                go_ret
                exact ⟨rfl, HB11.out⟩
          · have k4 : (e4 != 0) = true := by simpa using hd4
            have hl4 := Lib.hid (He4.out hd4)
            clear hd4
            go_wp2_with fail
            refine (sameO_any a4 a n4 n c4 c l4 l w6 HT46.out HTx6.out (by omega) true (by rw [hl4.out]; simp)).mono ?_
            rintro e w7 ⟨rfl, hb⟩
            have HTx7 := Lib.hid (HTx6.out.below hb)
            have HT27 := Lib.hid (HT26.out.below hb)
            have HT37 := Lib.hid (HT36.out.below hb)
            have HT47 := Lib.hid (HT46.out.below hb)
            have HT57 := Lib.hid (HT56.out.below hb)
            have HU7 := Lib.hid (HU6.out.below hb)
            have HB7 := Lib.hid (HB6.out.trans (hb.mono HB6.out.size))
            clear hb HTx6 HT26 HT36 HT46 HT56 HU6 HB6
            by_cases hd5 : e5 = 0
            · have k5 : (e5 != 0) = false := by simpa using hd5
              clear hd5
              go_wp2_with fail
              refine (may_any a2 n2 c2 l2 out pm Hm2.out w7 HT27.out (by omega) Hz2.out).mono ?_
              rintro e w8 ⟨rfl, hb⟩
              have HTx8 := Lib.hid (HTx7.out.below hb)
              have HT28 := Lib.hid (HT27.out.below hb)
              have HT38 := Lib.hid (HT37.out.below hb)
              have HT48 := Lib.hid (HT47.out.below hb)
              have HT58 := Lib.hid (HT57.out.below hb)
              have HU8 := Lib.hid (HU7.out.below hb)
              have HB8 := Lib.hid (HB7.out.trans (hb.mono HB7.out.size))
              clear hb HTx7 HT27 HT37 HT47 HT57 HU7 HB7
              go_wp2_with fail
              refine (may_any a3 n3 c3 l3 out pm Hm3.out w8 HT38.out (by omega) Hz3.out).mono ?_
              rintro e w9 ⟨rfl, hb⟩
              have HTx9 := Lib.hid (HTx8.out.below hb)
              have HT29 := Lib.hid (HT28.out.below hb)
              have HT39 := Lib.hid (HT38.out.below hb)
              have HT49 := Lib.hid (HT48.out.below hb)
              have HT59 := Lib.hid (HT58.out.below hb)
              have HU9 := Lib.hid (HU8.out.below hb)
              have HB9 := Lib.hid (HB8.out.trans (hb.mono HB8.out.size))
              clear hb HTx8 HT28 HT38 HT48 HT58 HU8 HB8
              go_wp2_with fail
              refine (may_any a4 n4 c4 l4 out pm Hm4.out w9 HT49.out (by omega) Hz4.out).mono ?_
              rintro e w10 ⟨rfl, hb⟩
              have HTx10 := Lib.hid (HTx9.out.below hb)
              have HT210 := Lib.hid (HT29.out.below hb)
              have HT310 := Lib.hid (HT39.out.below hb)
              have HT410 := Lib.hid (HT49.out.below hb)
              have HT510 := Lib.hid (HT59.out.below hb)
              have HU10 := Lib.hid (HU9.out.below hb)
              have HB10 := Lib.hid (HB9.out.trans (hb.mono HB9.out.size))
              clear hb HTx9 HT29 HT39 HT49 HT59 HU9 HB9
              go_wp2_with fail
              refine (may_any a5 n5 c5 l5 out pm Hm5.out w10 HT510.out (by omega) Hz5.out).mono ?_
              rintro e w11 ⟨rfl, hb⟩
              have HTx11 := Lib.hid (HTx10.out.below hb)
              have HT211 := Lib.hid (HT210.out.below hb)
              have HT311 := Lib.hid (HT310.out.below hb)
              have HT411 := Lib.hid (HT410.out.below hb)
              have HT511 := Lib.hid (HT510.out.below hb)
              have HU11 := Lib.hid (HU10.out.below hb)
              have HB11 := Lib.hid (HB10.out.trans (hb.mono HB10.out.size))
              clear hb HTx10 HT210 HT310 HT410 HT510 HU10 HB10
              cases pm with
              | true =>
                go_wp2
                go_ret
                exact ⟨rfl, HB11.out⟩
              | false =>
                obtain ⟨w2, w5⟩ := HF2.out rfl
                have w2' : (e2 == 1) = true := by rw [w2]; rfl
                have w5' : (e5 == 1) = true := by rw [w5]; rfl
                clear w2 w5
                go_wp2
                go_ret
                exact ⟨rfl, HB11.out⟩
            · have k5 : (e5 != 0) = true := by simpa using hd5
              have hl5 := Lib.hid (He5.out hd5)
              clear hd5
              go_wp2_with fail
              refine (sameO_any a5 a n5 n c5 c l5 l w7 HT57.out HTx7.out (by omega) true (by rw [hl5.out]; simp)).mono ?_
              rintro e w8 ⟨rfl, hb⟩
              have HTx8 := Lib.hid (HTx7.out.below hb)
              have HT28 := Lib.hid (HT27.out.below hb)
              have HT38 := Lib.hid (HT37.out.below hb)
              have HT48 := Lib.hid (HT47.out.below hb)
              have HT58 := Lib.hid (HT57.out.below hb)
              have HU8 := Lib.hid (HU7.out.below hb)
              have HB8 := Lib.hid (HB7.out.trans (hb.mono HB7.out.size))
              clear hb HTx7 HT27 HT37 HT47 HT57 HU7 HB7
              go_wp2_with fail
              refine (may_any a2 n2 c2 l2 out pm Hm2.out w8 HT28.out (by omega) Hz2.out).mono ?_
              rintro e w9 ⟨rfl, hb⟩
              have HTx9 := Lib.hid (HTx8.out.below hb)
              have HT29 := Lib.hid (HT28.out.below hb)
              have HT39 := Lib.hid (HT38.out.below hb)
              have HT49 := Lib.hid (HT48.out.below hb)
              have HT59 := Lib.hid (HT58.out.below hb)
              have HU9 := Lib.hid (HU8.out.below hb)
              have HB9 := Lib.hid (HB8.out.trans (hb.mono HB8.out.size))
              clear hb HTx8 HT28 HT38 HT48 HT58 HU8 HB8
              go_wp2_with fail
              refine (may_any a3 n3 c3 l3 out pm Hm3.out w9 HT39.out (by omega) Hz3.out).mono ?_
              rintro e w10 ⟨rfl, hb⟩
              have HTx10 := Lib.hid (HTx9.out.below hb)
              have HT210 := Lib.hid (HT29.out.below hb)
              have HT310 := Lib.hid (HT39.out.below hb)
              have HT410 := Lib.hid (HT49.out.below hb)
              have HT510 := Lib.hid (HT59.out.below hb)
              have HU10 := Lib.hid (HU9.out.below hb)
              have HB10 := Lib.hid (HB9.out.trans (hb.mono HB9.out.size))
              clear hb HTx9 HT29 HT39 HT49 HT59 HU9 HB9
              go_wp2_with fail
              refine (may_any a4 n4 c4 l4 out pm Hm4.out w10 HT410.out (by omega) Hz4.out).mono ?_
              rintro e w11 ⟨rfl, hb⟩
              have HTx11 := Lib.hid (HTx10.out.below hb)
              have HT211 := Lib.hid (HT210.out.below hb)
              have HT311 := Lib.hid (HT310.out.below hb)
              have HT411 := Lib.hid (HT410.out.below hb)
              have HT511 := Lib.hid (HT510.out.below hb)
              have HU11 := Lib.hid (HU10.out.below hb)
              have HB11 := Lib.hid (HB10.out.trans (hb.mono HB10.out.size))
              clear hb HTx10 HT210 HT310 HT410 HT510 HU10 HB10
              go_wp2_with fail
              refine (may_any a5 n5 c5 l5 out pm Hm5.out w11 HT511.out (by omega) Hz5.out).mono ?_
              rintro e w12 ⟨rfl, hb⟩
              have HTx12 := Lib.hid (HTx11.out.below hb)
              have HT212 := Lib.hid (HT211.out.below hb)
              have HT312 := Lib.hid (HT311.out.below hb)
              have HT412 := Lib.hid (HT411.out.below hb)
              have HT512 := Lib.hid (HT511.out.below hb)
              have HU12 := Lib.hid (HU11.out.below hb)
              have HB12 := Lib.hid (HB11.out.trans (hb.mono HB11.out.size))
              clear hb HTx11 HT211 HT311 HT411 HT511 HU11 HB11
              cases pm with
              | true =>
                go_wp2
                go_ret
                exact ⟨rfl, HB12.out⟩
              | false =>
                obtain ⟨w2, w5⟩ := HF2.out rfl
                have w2' : (e2 == 1) = true := by rw [w2]; rfl
                have w5' : (e5 == 1) = true := by rw [w5]; rfl
                clear w2 w5
                go_wp2
                go_ret
                exact ⟨rfl, HB12.out⟩
        · have k3 : (e3 != 0) = true := by simpa using hd3
          have hl3 := Lib.hid (He3.out hd3)
          clear hd3
          go_wp2_with fail
          refine (sameO_any a3 a n3 n c3 c l3 l w6 HT36.out HTx6.out (by omega) true (by rw [hl3.out]; simp)).mono ?_
          rintro e w7 ⟨rfl, hb⟩
          have HTx7 := Lib.hid (HTx6.out.below hb)
          have HT27 := Lib.hid (HT26.out.below hb)
          have HT37 := Lib.hid (HT36.out.below hb)
          have HT47 := Lib.hid (HT46.out.below hb)
          have HT57 := Lib.hid (HT56.out.below hb)
          have HU7 := Lib.hid (HU6.out.below hb)
          have HB7 := Lib.hid (HB6.out.trans (hb.mono HB6.out.size))
          clear hb HTx6 HT26 HT36 HT46 HT56 HU6 HB6
          by_cases hd4 : e4 = 0
          · have k4 : (e4 != 0) = false := by simpa using hd4
            clear hd4
            by_cases hd5 : e5 = 0
            · have k5 : (e5 != 0) = false := by simpa using hd5
              clear hd5
              go_wp2_with fail
              refine (may_any a2 n2 c2 l2 out pm Hm2.out w7 HT27.out (by omega) Hz2.out).mono ?_
              rintro e w8 ⟨rfl, hb⟩
              have HTx8 := Lib.hid (HTx7.out.below hb)
              have HT28 := Lib.hid (HT27.out.below hb)
              have HT38 := Lib.hid (HT37.out.below hb)
              have HT48 := Lib.hid (HT47.out.below hb)
              have HT58 := Lib.hid (HT57.out.below hb)
              have HU8 := Lib.hid (HU7.out.below hb)
              have HB8 := Lib.hid (HB7.out.trans (hb.mono HB7.out.size))
              clear hb HTx7 HT27 HT37 HT47 HT57 HU7 HB7
              go_wp2_with fail
              refine (may_any a3 n3 c3 l3 out pm Hm3.out w8 HT38.out (by omega) Hz3.out).mono ?_
              rintro e w9 ⟨rfl, hb⟩
              have HTx9 := Lib.hid (HTx8.out.below hb)
              have HT29 := Lib.hid (HT28.out.below hb)
              have HT39 := Lib.hid (HT38.out.below hb)
              have HT49 := Lib.hid (HT48.out.below hb)
              have HT59 := Lib.hid (HT58.out.below hb)
              have HU9 := Lib.hid (HU8.out.below hb)
              have HB9 := Lib.hid (HB8.out.trans (hb.mono HB8.out.size))
              clear hb HTx8 HT28 HT38 HT48 HT58 HU8 HB8
              go_wp2_with fail
              refine (may_any a4 n4 c4 l4 out pm Hm4.out w9 HT49.out (by omega) Hz4.out).mono ?_
              rintro e w10 ⟨rfl, hb⟩
              have HTx10 := Lib.hid (HTx9.out.below hb)
              have HT210 := Lib.hid (HT29.out.below hb)
              have HT310 := Lib.hid (HT39.out.below hb)
              have HT410 := Lib.hid (HT49.out.below hb)
              have HT510 := Lib.hid (HT59.out.below hb)
              have HU10 := Lib.hid (HU9.out.below hb)
              have HB10 := Lib.hid (HB9.out.trans (hb.mono HB9.out.size))
              clear hb HTx9 HT29 HT39 HT49 HT59 HU9 HB9
              go_wp2_with fail
              refine (may_any a5 n5 c5 l5 out pm Hm5.out w10 HT510.out (by omega) Hz5.out).mono ?_
              rintro e w11 ⟨rfl, hb⟩
              have HTx11 := Lib.hid (HTx10.out.below hb)
              have HT211 := Lib.hid (HT210.out.below hb)
              have HT311 := Lib.hid (HT310.out.below hb)
              have HT411 := Lib.hid (HT410.out.below hb)
              have HT511 := Lib.hid (HT510.out.below hb)
              have HU11 := Lib.hid (HU10.out.below hb)
              have HB11 := Lib.hid (HB10.out.trans (hb.mono HB10.out.size))
              clear hb HTx10 HT210 HT310 HT410 HT510 HU10 HB10
              cases pm with
              | true =>
                go_wp2
                go_ret
                exact ⟨rfl, HB11.out⟩
              | false =>
                obtain ⟨w2, w5⟩ := HF2.out rfl
                have w2' : (e2 == 1) = true := by rw [w2]; rfl
                have w5' : (e5 == 1) = true := by rw [w5]; rfl
                clear w2 w5
                go_wp2
                go_ret
                exact ⟨rfl, HB11.out⟩
            · have k5 : (e5 != 0) = true := by simpa using hd5
              have hl5 := Lib.hid (He5.out hd5)
              clear hd5
              go_wp2_with fail
              refine (sameO_any a5 a n5 n c5 c l5 l w7 HT57.out HTx7.out (by omega) true (by rw [hl5.out]; simp)).mono ?_
              rintro e w8 ⟨rfl, hb⟩
              have HTx8 := Lib.hid (HTx7.out.below hb)
              have HT28 := Lib.hid (HT27.out.below hb)
              have HT38 := Lib.hid (HT37.out.below hb)
              have HT48 := Lib.hid (HT47.out.below hb)
              have HT58 := Lib.hid (HT57.out.below hb)
              have HU8 := Lib.hid (HU7.out.below hb)
              have HB8 := Lib.hid (HB7.out.trans (hb.mono HB7.out.size))
              clear hb HTx7 HT27 HT37 HT47 HT57 HU7 HB7
              go_wp2_with fail
              refine (may_any a2 n2 c2 l2 out pm Hm2.out w8 HT28.out (by omega) Hz2.out).mono ?_
              rintro e w9 ⟨rfl, hb⟩
              have HTx9 := Lib.hid (HTx8.out.below hb)
              have HT29 := Lib.hid (HT28.out.below hb)
              have HT39 := Lib.hid (HT38.out.below hb)
              have HT49 := Lib.hid (HT48.out.below hb)
              have HT59 := Lib.hid (HT58.out.below hb)
              have HU9 := Lib.hid (HU8.out.below hb)
              have HB9 := Lib.hid (HB8.out.trans (hb.mono HB8.out.size))
              clear hb HTx8 HT28 HT38 HT48 HT58 HU8 HB8
              go_wp2_with fail
              refine (may_any a3 n3 c3 l3 out pm Hm3.out w9 HT39.out (by omega) Hz3.out).mono ?_
              rintro e w10 ⟨rfl, hb⟩
              have HTx10 := Lib.hid (HTx9.out.below hb)
              have HT210 := Lib.hid (HT29.out.below hb)
              have HT310 := Lib.hid (HT39.out.below hb)
              have HT410 := Lib.hid (HT49.out.below hb)
              have HT510 := Lib.hid (HT59.out.below hb)
              have HU10 := Lib.hid (HU9.out.below hb)
              have HB10 := Lib.hid (HB9.out.trans (hb.mono HB9.out.size))
              clear hb HTx9 HT29 HT39 HT49 HT59 HU9 HB9
              go_wp2_with fail
              refine (may_any a4 n4 c4 l4 out pm Hm4.out w10 HT410.out (by omega) Hz4.out).mono ?_
              rintro e w11 ⟨rfl, hb⟩
              have HTx11 := Lib.hid (HTx10.out.below hb)
              have HT211 := Lib.hid (HT210.out.below hb)
              have HT311 := Lib.hid (HT310.out.below hb)
              have HT411 := Lib.hid (HT410.out.below hb)
              have HT511 := Lib.hid (HT510.out.below hb)
              have HU11 := Lib.hid (HU10.out.below hb)
              have HB11 := Lib.hid (HB10.out.trans (hb.mono HB10.out.size))
              clear hb HTx10 HT210 HT310 HT410 HT510 HU10 HB10
              go_wp2_with fail
              refine (may_any a5 n5 c5 l5 out pm Hm5.out w11 HT511.out (by omega) Hz5.out).mono ?_
              rintro e w12 ⟨rfl, hb⟩
              have HTx12 := Lib.hid (HTx11.out.below hb)
              have HT212 := Lib.hid (HT211.out.below hb)
              have HT312 := Lib.hid (HT311.out.below hb)
              have HT412 := Lib.hid (HT411.out.below hb)
              have HT512 := Lib.hid (HT511.out.below hb)
              have HU12 := Lib.hid (HU11.out.below hb)
              have HB12 := Lib.hid (HB11.out.trans (hb.mono HB11.out.size))
              clear hb HTx11 HT211 HT311 HT411 HT511 HU11 HB11
              cases pm with
              | true =>
                go_wp2
                go_ret
                exact ⟨rfl, HB12.out⟩
              | false =>
                obtain ⟨w2, w5⟩ := HF2.out rfl
                have w2' : (e2 == 1) = true := by rw [w2]; rfl
                have w5' : (e5 == 1) = true := by rw [w5]; rfl
                clear w2 w5
                go_wp2
                go_ret
                exact ⟨rfl, HB12.out⟩
          · have k4 : (e4 != 0) = true := by simpa using hd4
            have hl4 := Lib.hid (He4.out hd4)
            clear hd4
            go_wp2_with fail
            refine (sameO_any a4 a n4 n c4 c l4 l w7 HT47.out HTx7.out (by omega) true (by rw [hl4.out]; simp)).mono ?_
            rintro e w8 ⟨rfl, hb⟩
            have HTx8 := Lib.hid (HTx7.out.below hb)
            have HT28 := Lib.hid (HT27.out.below hb)
            have HT38 := Lib.hid (HT37.out.below hb)
            have HT48 := Lib.hid (HT47.out.below hb)
            have HT58 := Lib.hid (HT57.out.below hb)
            have HU8 := Lib.hid (HU7.out.below hb)
            have HB8 := Lib.hid (HB7.out.trans (hb.mono HB7.out.size))
            clear hb HTx7 HT27 HT37 HT47 HT57 HU7 HB7
            by_cases hd5 : e5 = 0
            · have k5 : (e5 != 0) = false := by simpa using hd5
              clear hd5
              go_wp2_with fail
              refine (may_any a2 n2 c2 l2 out pm Hm2.out w8 HT28.out (by omega) Hz2.out).mono ?_
              rintro e w9 ⟨rfl, hb⟩
              have HTx9 := Lib.hid (HTx8.out.below hb)
              have HT29 := Lib.hid (HT28.out.below hb)
              have HT39 := Lib.hid (HT38.out.below hb)
              have HT49 := Lib.hid (HT48.out.below hb)
              have HT59 := Lib.hid (HT58.out.below hb)
              have HU9 := Lib.hid (HU8.out.below hb)
              have HB9 := Lib.hid (HB8.out.trans (hb.mono HB8.out.size))
              clear hb HTx8 HT28 HT38 HT48 HT58 HU8 HB8
              go_wp2_with fail
              refine (may_any a3 n3 c3 l3 out pm Hm3.out w9 HT39.out (by omega) Hz3.out).mono ?_
              rintro e w10 ⟨rfl, hb⟩
              have HTx10 := Lib.hid (HTx9.out.below hb)
              have HT210 := Lib.hid (HT29.out.below hb)
              have HT310 := Lib.hid (HT39.out.below hb)
              have HT410 := Lib.hid (HT49.out.below hb)
              have HT510 := Lib.hid (HT59.out.below hb)
              have HU10 := Lib.hid (HU9.out.below hb)
              have HB10 := Lib.hid (HB9.out.trans (hb.mono HB9.out.size))
              clear hb HTx9 HT29 HT39 HT49 HT59 HU9 HB9
              go_wp2_with fail
              refine (may_any a4 n4 c4 l4 out pm Hm4.out w10 HT410.out (by omega) Hz4.out).mono ?_
              rintro e w11 ⟨rfl, hb⟩
              have HTx11 := Lib.hid (HTx10.out.below hb)
              have HT211 := Lib.hid (HT210.out.below hb)
              have HT311 := Lib.hid (HT310.out.below hb)
              have HT411 := Lib.hid (HT410.out.below hb)
              have HT511 := Lib.hid (HT510.out.below hb)
              have HU11 := Lib.hid (HU10.out.below hb)
              have HB11 := Lib.hid (HB10.out.trans (hb.mono HB10.out.size))
              clear hb HTx10 HT210 HT310 HT410 HT510 HU10 HB10
              go_wp2_with fail
              refine (may_any a5 n5 c5 l5 out pm Hm5.out w11 HT511.out (by omega) Hz5.out).mono ?_
              rintro e w12 ⟨rfl, hb⟩
              have HTx12 := Lib.hid (HTx11.out.below hb)
              have HT212 := Lib.hid (HT211.out.below hb)
              have HT312 := Lib.hid (HT311.out.below hb)
              have HT412 := Lib.hid (HT411.out.below hb)
              have HT512 := Lib.hid (HT511.out.below hb)
              have HU12 := Lib.hid (HU11.out.below hb)
              have HB12 := Lib.hid (HB11.out.trans (hb.mono HB11.out.size))
              clear hb HTx11 HT211 HT311 HT411 HT511 HU11 HB11
              cases pm with
              | true =>
                go_wp2
                go_ret
                exact ⟨rfl, HB12.out⟩
              | false =>
                obtain ⟨w2, w5⟩ := HF2.out rfl
                have w2' : (e2 == 1) = true := by rw [w2]; rfl
                have w5' : (e5 == 1) = true := by rw [w5]; rfl
                clear w2 w5
                go_wp2
                go_ret
                exact ⟨rfl, HB12.out⟩
            · have k5 : (e5 != 0) = true := by simpa using hd5
              have hl5 := Lib.hid (He5.out hd5)
              clear hd5
              go_wp2_with fail
              refine (sameO_any a5 a n5 n c5 c l5 l w8 HT58.out HTx8.out (by omega) true (by rw [hl5.out]; simp)).mono ?_
              rintro e w9 ⟨rfl, hb⟩
              have HTx9 := Lib.hid (HTx8.out.below hb)
              have HT29 := Lib.hid (HT28.out.below hb)
              have HT39 := Lib.hid (HT38.out.below hb)
              have HT49 := Lib.hid (HT48.out.below hb)
              have HT59 := Lib.hid (HT58.out.below hb)
              have HU9 := Lib.hid (HU8.out.below hb)
              have HB9 := Lib.hid (HB8.out.trans (hb.mono HB8.out.size))
              clear hb HTx8 HT28 HT38 HT48 HT58 HU8 HB8
              go_wp2_with fail
              refine (may_any a2 n2 c2 l2 out pm Hm2.out w9 HT29.out (by omega) Hz2.out).mono ?_
              rintro e w10 ⟨rfl, hb⟩
              have HTx10 := Lib.hid (HTx9.out.below hb)
              have HT210 := Lib.hid (HT29.out.below hb)
              have HT310 := Lib.hid (HT39.out.below hb)
              have HT410 := Lib.hid (HT49.out.below hb)
              have HT510 := Lib.hid (HT59.out.below hb)
              have HU10 := Lib.hid (HU9.out.below hb)
              have HB10 := Lib.hid (HB9.out.trans (hb.mono HB9.out.size))
              clear hb HTx9 HT29 HT39 HT49 HT59 HU9 HB9
              go_wp2_with fail
              refine (may_any a3 n3 c3 l3 out pm Hm3.out w10 HT310.out (by omega) Hz3.out).mono ?_
              rintro e w11 ⟨rfl, hb⟩
              have HTx11 := Lib.hid (HTx10.out.below hb)
              have HT211 := Lib.hid (HT210.out.below hb)
              have HT311 := Lib.hid (HT310.out.below hb)
              have HT411 := Lib.hid (HT410.out.below hb)
              have HT511 := Lib.hid (HT510.out.below hb)
              have HU11 := Lib.hid (HU10.out.below hb)
              have HB11 := Lib.hid (HB10.out.trans (hb.mono HB10.out.size))
              clear hb HTx10 HT210 HT310 HT410 HT510 HU10 HB10
              go_wp2_with fail
              refine (may_any a4 n4 c4 l4 out pm Hm4.out w11 HT411.out (by omega) Hz4.out).mono ?_
              rintro e w12 ⟨rfl, hb⟩
              have HTx12 := Lib.hid (HTx11.out.below hb)
              have HT212 := Lib.hid (HT211.out.below hb)
              have HT312 := Lib.hid (HT311.out.below hb)
              have HT412 := Lib.hid (HT411.out.below hb)
              have HT512 := Lib.hid (HT511.out.below hb)
              have HU12 := Lib.hid (HU11.out.below hb)
              have HB12 := Lib.hid (HB11.out.trans (hb.mono HB11.out.size))
              clear hb HTx11 HT211 HT311 HT411 HT511 HU11 HB11
              go_wp2_with fail
              refine (may_any a5 n5 c5 l5 out pm Hm5.out w12 HT512.out (by omega) Hz5.out).mono ?_
              rintro e w13 ⟨rfl, hb⟩
              have HTx13 := Lib.hid (HTx12.out.below hb)
              have HT213 := Lib.hid (HT212.out.below hb)
              have HT313 := Lib.hid (HT312.out.below hb)
              have HT413 := Lib.hid (HT412.out.below hb)
              have HT513 := Lib.hid (HT512.out.below hb)
              have HU13 := Lib.hid (HU12.out.below hb)
              have HB13 := Lib.hid (HB12.out.trans (hb.mono HB12.out.size))
              clear hb HTx12 HT212 HT312 HT412 HT512 HU12 HB12
              cases pm with
              | true =>
                go_wp2
                go_ret
                exact ⟨rfl, HB13.out⟩
              | false =>
                obtain ⟨w2, w5⟩ := HF2.out rfl
                have w2' : (e2 == 1) = true := by rw [w2]; rfl
                have w5' : (e5 == 1) = true := by rw [w5]; rfl
                clear w2 w5
                go_wp2
                go_ret
                exact ⟨rfl, HB13.out⟩
      · have k2 : (e2 != 0) = true := by simpa using hd2
        have hl2 := Lib.hid (He2.out hd2)
        clear hd2
        go_wp2_with fail
        refine (sameO_any a2 a n2 n c2 c l2 l w6 HT26.out HTx6.out (by omega) true (by rw [hl2.out]; simp)).mono ?_
        rintro e w7 ⟨rfl, hb⟩
        have HTx7 := Lib.hid (HTx6.out.below hb)
        have HT27 := Lib.hid (HT26.out.below hb)
        have HT37 := Lib.hid (HT36.out.below hb)
        have HT47 := Lib.hid (HT46.out.below hb)
        have HT57 := Lib.hid (HT56.out.below hb)
        have HU7 := Lib.hid (HU6.out.below hb)
        have HB7 := Lib.hid (HB6.out.trans (hb.mono HB6.out.size))
        clear hb HTx6 HT26 HT36 HT46 HT56 HU6 HB6
        by_cases hd3 : e3 = 0
        · have k3 : (e3 != 0) = false := by simpa using hd3
          clear hd3
          by_cases hd4 : e4 = 0
          · have k4 : (e4 != 0) = false := by simpa using hd4
            clear hd4
            by_cases hd5 : e5 = 0
            · have k5 : (e5 != 0) = false := by simpa using hd5
              clear hd5
              go_wp2_with fail
              refine (may_any a2 n2 c2 l2 out pm Hm2.out w7 HT27.out (by omega) Hz2.out).mono ?_
              rintro e w8 ⟨rfl, hb⟩
              have HTx8 := Lib.hid (HTx7.out.below hb)
              have HT28 := Lib.hid (HT27.out.below hb)
              have HT38 := Lib.hid (HT37.out.below hb)
              have HT48 := Lib.hid (HT47.out.below hb)
              have HT58 := Lib.hid (HT57.out.below hb)
              have HU8 := Lib.hid (HU7.out.below hb)
              have HB8 := Lib.hid (HB7.out.trans (hb.mono HB7.out.size))
              clear hb HTx7 HT27 HT37 HT47 HT57 HU7 HB7
              go_wp2_with fail
              refine (may_any a3 n3 c3 l3 out pm Hm3.out w8 HT38.out (by omega) Hz3.out).mono ?_
              rintro e w9 ⟨rfl, hb⟩
              have HTx9 := Lib.hid (HTx8.out.below hb)
              have HT29 := Lib.hid (HT28.out.below hb)
              have HT39 := Lib.hid (HT38.out.below hb)
              have HT49 := Lib.hid (HT48.out.below hb)
              have HT59 := Lib.hid (HT58.out.below hb)
              have HU9 := Lib.hid (HU8.out.below hb)
              have HB9 := Lib.hid (HB8.out.trans (hb.mono HB8.out.size))
              clear hb HTx8 HT28 HT38 HT48 HT58 HU8 HB8
              go_wp2_with fail
              refine (may_any a4 n4 c4 l4 out pm Hm4.out w9 HT49.out (by omega) Hz4.out).mono ?_
              rintro e w10 ⟨rfl, hb⟩
              have HTx10 := Lib.hid (HTx9.out.below hb)
              have HT210 := Lib.hid (HT29.out.below hb)
              have HT310 := Lib.hid (HT39.out.below hb)
              have HT410 := Lib.hid (HT49.out.below hb)
              have HT510 := Lib.hid (HT59.out.below hb)
              have HU10 := Lib.hid (HU9.out.below hb)
              have HB10 := Lib.hid (HB9.out.trans (hb.mono HB9.out.size))
              clear hb HTx9 HT29 HT39 HT49 HT59 HU9 HB9
              go_wp2_with fail
              refine (may_any a5 n5 c5 l5 out pm Hm5.out w10 HT510.out (by omega) Hz5.out).mono ?_
              rintro e w11 ⟨rfl, hb⟩
              have HTx11 := Lib.hid (HTx10.out.below hb)
              have HT211 := Lib.hid (HT210.out.below hb)
              have HT311 := Lib.hid (HT310.out.below hb)
              have HT411 := Lib.hid (HT410.out.below hb)
              have HT511 := Lib.hid (HT510.out.below hb)
              have HU11 := Lib.hid (HU10.out.below hb)
              have HB11 := Lib.hid (HB10.out.trans (hb.mono HB10.out.size))
              clear hb HTx10 HT210 HT310 HT410 HT510 HU10 HB10
              cases pm with
              | true =>
                go_wp2
                go_ret
                exact ⟨rfl, HB11.out⟩
              | false =>
                obtain ⟨w2, w5⟩ := HF2.out rfl
                have w2' : (e2 == 1) = true := by rw [w2]; rfl
                have w5' : (e5 == 1) = true := by rw [w5]; rfl
                clear w2 w5
                go_wp2
                go_ret
                exact ⟨rfl, HB11.out⟩
            · have k5 : (e5 != 0) = true := by simpa using hd5
              have hl5 := Lib.hid (He5.out hd5)
              clear hd5
              go_wp2_with fail
              refine (sameO_any a5 a n5 n c5 c l5 l w7 HT57.out HTx7.out (by omega) true (by rw [hl5.out]; simp)).mono ?_
              rintro e w8 ⟨rfl, hb⟩
              have HTx8 := Lib.hid (HTx7.out.below hb)
              have HT28 := Lib.hid (HT27.out.below hb)
              have HT38 := Lib.hid (HT37.out.below hb)
              have HT48 := Lib.hid (HT47.out.below hb)
              have HT58 := Lib.hid (HT57.out.below hb)
              have HU8 := Lib.hid (HU7.out.below hb)
              have HB8 := Lib.hid (HB7.out.trans (hb.mono HB7.out.size))
              clear hb HTx7 HT27 HT37 HT47 HT57 HU7 HB7
              go_wp2_with fail
              refine (may_any a2 n2 c2 l2 out pm Hm2.out w8 HT28.out (by omega) Hz2.out).mono ?_
              rintro e w9 ⟨rfl, hb⟩
              have HTx9 := Lib.hid (HTx8.out.below hb)
              have HT29 := Lib.hid (HT28.out.below hb)
              have HT39 := Lib.hid (HT38.out.below hb)
              have HT49 := Lib.hid (HT48.out.below hb)
              have HT59 := Lib.hid (HT58.out.below hb)
              have HU9 := Lib.hid (HU8.out.below hb)
              have HB9 := Lib.hid (HB8.out.trans (hb.mono HB8.out.size))
              clear hb HTx8 HT28 HT38 HT48 HT58 HU8 HB8
              go_wp2_with fail
              refine (may_any a3 n3 c3 l3 out pm Hm3.out w9 HT39.out (by omega) Hz3.out).mono ?_
              rintro e w10 ⟨rfl, hb⟩
              have HTx10 := Lib.hid (HTx9.out.below hb)
              have HT210 := Lib.hid (HT29.out.below hb)
              have HT310 := Lib.hid (HT39.out.below hb)
              have HT410 := Lib.hid (HT49.out.below hb)
              have HT510 := Lib.hid (HT59.out.below hb)
              have HU10 := Lib.hid (HU9.out.below hb)
              have HB10 := Lib.hid (HB9.out.trans (hb.mono HB9.out.size))
              clear hb HTx9 HT29 HT39 HT49 HT59 HU9 HB9
              go_wp2_with fail
              refine (may_any a4 n4 c4 l4 out pm Hm4.out w10 HT410.out (by omega) Hz4.out).mono ?_
              rintro e w11 ⟨rfl, hb⟩
              have HTx11 := Lib.hid (HTx10.out.below hb)
              have HT211 := Lib.hid (HT210.out.below hb)
              have HT311 := Lib.hid (HT310.out.below hb)
              have HT411 := Lib.hid (HT410.out.below hb)
              have HT511 := Lib.hid (HT510.out.below hb)
              have HU11 := Lib.hid (HU10.out.below hb)
              have HB11 := Lib.hid (HB10.out.trans (hb.mono HB10.out.size))
              clear hb HTx10 HT210 HT310 HT410 HT510 HU10 HB10
              go_wp2_with fail
              refine (may_any a5 n5 c5 l5 out pm Hm5.out w11 HT511.out (by omega) Hz5.out).mono ?_
              rintro e w12 ⟨rfl, hb⟩
              have HTx12 := Lib.hid (HTx11.out.below hb)
              have HT212 := Lib.hid (HT211.out.below hb)
              have HT312 := Lib.hid (HT311.out.below hb)
              have HT412 := Lib.hid (HT411.out.below hb)
              have HT512 := Lib.hid (HT511.out.below hb)
              have HU12 := Lib.hid (HU11.out.below hb)
              have HB12 := Lib.hid (HB11.out.trans (hb.mono HB11.out.size))
              clear hb HTx11 HT211 HT311 HT411 HT511 HU11 HB11
              cases pm with
              | true =>
                go_wp2
                go_ret
                exact ⟨rfl, HB12.out⟩
              | false =>
                obtain ⟨w2, w5⟩ := HF2.out rfl
                have w2' : (e2 == 1) = true := by rw [w2]; rfl
                have w5' : (e5 == 1) = true := by rw [w5]; rfl
                clear w2 w5
                go_wp2
                go_ret
                exact ⟨rfl, HB12.out⟩
          · have k4 : (e4 != 0) = true := by simpa using hd4
            have hl4 := Lib.hid (He4.out hd4)
            clear hd4
            go_wp2_with fail
            refine (sameO_any a4 a n4 n c4 c l4 l w7 HT47.out HTx7.out (by omega) true (by rw [hl4.out]; simp)).mono ?_
            rintro e w8 ⟨rfl, hb⟩
            have HTx8 := Lib.hid (HTx7.out.below hb)
            have HT28 := Lib.hid (HT27.out.below hb)
            have HT38 := Lib.hid (HT37.out.below hb)
            have HT48 := Lib.hid (HT47.out.below hb)
            have HT58 := Lib.hid (HT57.out.below hb)
            have HU8 := Lib.hid (HU7.out.below hb)
            have HB8 := Lib.hid (HB7.out.trans (hb.mono HB7.out.size))
            clear hb HTx7 HT27 HT37 HT47 HT57 HU7 HB7
            by_cases hd5 : e5 = 0
            · have k5 : (e5 != 0) = false := by simpa using hd5
              clear hd5
              go_wp2_with fail
              refine (may_any a2 n2 c2 l2 out pm Hm2.out w8 HT28.out (by omega) Hz2.out).mono ?_
              rintro e w9 ⟨rfl, hb⟩
              have HTx9 := Lib.hid (HTx8.out.below hb)
              have HT29 := Lib.hid (HT28.out.below hb)
              have HT39 := Lib.hid (HT38.out.below hb)
              have HT49 := Lib.hid (HT48.out.below hb)
              have HT59 := Lib.hid (HT58.out.below hb)
              have HU9 := Lib.hid (HU8.out.below hb)
              have HB9 := Lib.hid (HB8.out.trans (hb.mono HB8.out.size))
              clear hb HTx8 HT28 HT38 HT48 HT58 HU8 HB8
              go_wp2_with fail
              refine (may_any a3 n3 c3 l3 out pm Hm3.out w9 HT39.out (by omega) Hz3.out).mono ?_
              rintro e w10 ⟨rfl, hb⟩
              have HTx10 := Lib.hid (HTx9.out.below hb)
              have HT210 := Lib.hid (HT29.out.below hb)
              have HT310 := Lib.hid (HT39.out.below hb)
              have HT410 := Lib.hid (HT49.out.below hb)
              have HT510 := Lib.hid (HT59.out.below hb)
              have HU10 := Lib.hid (HU9.out.below hb)
              have HB10 := Lib.hid (HB9.out.trans (hb.mono HB9.out.size))
              clear hb HTx9 HT29 HT39 HT49 HT59 HU9 HB9
              go_wp2_with fail
              refine (may_any a4 n4 c4 l4 out pm Hm4.out w10 HT410.out (by omega) Hz4.out).mono ?_
              rintro e w11 ⟨rfl, hb⟩
              have HTx11 := Lib.hid (HTx10.out.below hb)
              have HT211 := Lib.hid (HT210.out.below hb)
              have HT311 := Lib.hid (HT310.out.below hb)
              have HT411 := Lib.hid (HT410.out.below hb)
              have HT511 := Lib.hid (HT510.out.below hb)
              have HU11 := Lib.hid (HU10.out.below hb)
              have HB11 := Lib.hid (HB10.out.trans (hb.mono HB10.out.size))
              clear hb HTx10 HT210 HT310 HT410 HT510 HU10 HB10
              go_wp2_with fail
              refine (may_any a5 n5 c5 l5 out pm Hm5.out w11 HT511.out (by omega) Hz5.out).mono ?_
              rintro e w12 ⟨rfl, hb⟩
              have HTx12 := Lib.hid (HTx11.out.below hb)
              have HT212 := Lib.hid (HT211.out.below hb)
              have HT312 := Lib.hid (HT311.out.below hb)
              have HT412 := Lib.hid (HT411.out.below hb)
              have HT512 := Lib.hid (HT511.out.below hb)
              have HU12 := Lib.hid (HU11.out.below hb)
              have HB12 := Lib.hid (HB11.out.trans (hb.mono HB11.out.size))
              clear hb HTx11 HT211 HT311 HT411 HT511 HU11 HB11
              cases pm with
              | true =>
                go_wp2
                go_ret
                exact ⟨rfl, HB12.out⟩
              | false =>
                obtain ⟨w2, w5⟩ := HF2.out rfl
                have w2' : (e2 == 1) = true := by rw [w2]; rfl
                have w5' : (e5 == 1) = true := by rw [w5]; rfl
                clear w2 w5
                go_wp2
                go_ret
                exact ⟨rfl, HB12.out⟩
            · have k5 : (e5 != 0) = true := by simpa using hd5
              have hl5 := Lib.hid (He5.out hd5)
              clear hd5
              go_wp2_with fail
              refine (sameO_any a5 a n5 n c5 c l5 l w8 HT58.out HTx8.out (by omega) true (by rw [hl5.out]; simp)).mono ?_
              rintro e w9 ⟨rfl, hb⟩
              have HTx9 := Lib.hid (HTx8.out.below hb)
              have HT29 := Lib.hid (HT28.out.below hb)
              have HT39 := Lib.hid (HT38.out.below hb)
              have HT49 := Lib.hid (HT48.out.below hb)
              have HT59 := Lib.hid (HT58.out.below hb)
              have HU9 := Lib.hid (HU8.out.below hb)
              have HB9 := Lib.hid (HB8.out.trans (hb.mono HB8.out.size))
              clear hb HTx8 HT28 HT38 HT48 HT58 HU8 HB8
              go_wp2_with fail
              refine (may_any a2 n2 c2 l2 out pm Hm2.out w9 HT29.out (by omega) Hz2.out).mono ?_
              rintro e w10 ⟨rfl, hb⟩
              have HTx10 := Lib.hid (HTx9.out.below hb)
              have HT210 := Lib.hid (HT29.out.below hb)
              have HT310 := Lib.hid (HT39.out.below hb)
              have HT410 := Lib.hid (HT49.out.below hb)
              have HT510 := Lib.hid (HT59.out.below hb)
              have HU10 := Lib.hid (HU9.out.below hb)
              have HB10 := Lib.hid (HB9.out.trans (hb.mono HB9.out.size))
              clear hb HTx9 HT29 HT39 HT49 HT59 HU9 HB9
              go_wp2_with fail
              refine (may_any a3 n3 c3 l3 out pm Hm3.out w10 HT310.out (by omega) Hz3.out).mono ?_
              rintro e w11 ⟨rfl, hb⟩
              have HTx11 := Lib.hid (HTx10.out.below hb)
              have HT211 := Lib.hid (HT210.out.below hb)
              have HT311 := Lib.hid (HT310.out.below hb)
              have HT411 := Lib.hid (HT410.out.below hb)
              have HT511 := Lib.hid (HT510.out.below hb)
              have HU11 := Lib.hid (HU10.out.below hb)
              have HB11 := Lib.hid (HB10.out.trans (hb.mono HB10.out.size))
              clear hb HTx10 HT210 HT310 HT410 HT510 HU10 HB10
              go_wp2_with fail
              refine (may_any a4 n4 c4 l4 out pm Hm4.out w11 HT411.out (by omega) Hz4.out).mono ?_
              rintro e w12 ⟨rfl, hb⟩
              have HTx12 := Lib.hid (HTx11.out.below hb)
              have HT212 := Lib.hid (HT211.out.below hb)
              have HT312 := Lib.hid (HT311.out.below hb)
              have HT412 := Lib.hid (HT411.out.below hb)
              have HT512 := Lib.hid (HT511.out.below hb)
              have HU12 := Lib.hid (HU11.out.below hb)
              have HB12 := Lib.hid (HB11.out.trans (hb.mono HB11.out.size))
              clear hb HTx11 HT211 HT311 HT411 HT511 HU11 HB11
              go_wp2_with fail
              refine (may_any a5 n5 c5 l5 out pm Hm5.out w12 HT512.out (by omega) Hz5.out).mono ?_
              rintro e w13 ⟨rfl, hb⟩
              have HTx13 := Lib.hid (HTx12.out.below hb)
              have HT213 := Lib.hid (HT212.out.below hb)
              have HT313 := Lib.hid (HT312.out.below hb)
              have HT413 := Lib.hid (HT412.out.below hb)
              have HT513 := Lib.hid (HT512.out.below hb)
              have HU13 := Lib.hid (HU12.out.below hb)
              have HB13 := Lib.hid (HB12.out.trans (hb.mono HB12.out.size))
              clear hb HTx12 HT212 HT312 HT412 HT512 HU12 HB12
              cases pm with
              | true =>
                go_wp2
                go_ret
                exact ⟨rfl, HB13.out⟩
              | false =>
                obtain ⟨w2, w5⟩ := HF2.out rfl
                have w2' : (e2 == 1) = true := by rw [w2]; rfl
                have w5' : (e5 == 1) = true := by rw [w5]; rfl
                clear w2 w5
                go_wp2
                go_ret
                exact ⟨rfl, HB13.out⟩
        · have k3 : (e3 != 0) = true := by simpa using hd3
          have hl3 := Lib.hid (He3.out hd3)
          clear hd3
          go_wp2_with fail
          refine (sameO_any a3 a n3 n c3 c l3 l w7 HT37.out HTx7.out (by omega) true (by rw [hl3.out]; simp)).mono ?_
          rintro e w8 ⟨rfl, hb⟩
          have HTx8 := Lib.hid (HTx7.out.below hb)
          have HT28 := Lib.hid (HT27.out.below hb)
          have HT38 := Lib.hid (HT37.out.below hb)
          have HT48 := Lib.hid (HT47.out.below hb)
          have HT58 := Lib.hid (HT57.out.below hb)
          have HU8 := Lib.hid (HU7.out.below hb)
          have HB8 := Lib.hid (HB7.out.trans (hb.mono HB7.out.size))
          clear hb HTx7 HT27 HT37 HT47 HT57 HU7 HB7
          by_cases hd4 : e4 = 0
          · have k4 : (e4 != 0) = false := by simpa using hd4
            clear hd4
            by_cases hd5 : e5 = 0
            · have k5 : (e5 != 0) = false := by simpa using hd5
              clear hd5
              go_wp2_with fail
              refine (may_any a2 n2 c2 l2 out pm Hm2.out w8 HT28.out (by omega) Hz2.out).mono ?_
              rintro e w9 ⟨rfl, hb⟩
              have HTx9 := Lib.hid (HTx8.out.below hb)
              have HT29 := Lib.hid (HT28.out.below hb)
              have HT39 := Lib.hid (HT38.out.below hb)
              have HT49 := Lib.hid (HT48.out.below hb)
              have HT59 := Lib.hid (HT58.out.below hb)
              have HU9 := Lib.hid (HU8.out.below hb)
              have HB9 := Lib.hid (HB8.out.trans (hb.mono HB8.out.size))
              clear hb HTx8 HT28 HT38 HT48 HT58 HU8 HB8
              go_wp2_with fail
              refine (may_any a3 n3 c3 l3 out pm Hm3.out w9 HT39.out (by omega) Hz3.out).mono ?_
              rintro e w10 ⟨rfl, hb⟩
              have HTx10 := Lib.hid (HTx9.out.below hb)
              have HT210 := Lib.hid (HT29.out.below hb)
              have HT310 := Lib.hid (HT39.out.below hb)
              have HT410 := Lib.hid (HT49.out.below hb)
              have HT510 := Lib.hid (HT59.out.below hb)
              have HU10 := Lib.hid (HU9.out.below hb)
              have HB10 := Lib.hid (HB9.out.trans (hb.mono HB9.out.size))
              clear hb HTx9 HT29 HT39 HT49 HT59 HU9 HB9
              go_wp2_with fail
              refine (may_any a4 n4 c4 l4 out pm Hm4.out w10 HT410.out (by omega) Hz4.out).mono ?_
              rintro e w11 ⟨rfl, hb⟩
              have HTx11 := Lib.hid (HTx10.out.below hb)
              have HT211 := Lib.hid (HT210.out.below hb)
              have HT311 := Lib.hid (HT310.out.below hb)
              have HT411 := Lib.hid (HT410.out.below hb)
              have HT511 := Lib.hid (HT510.out.below hb)
              have HU11 := Lib.hid (HU10.out.below hb)
              have HB11 := Lib.hid (HB10.out.trans (hb.mono HB10.out.size))
              clear hb HTx10 HT210 HT310 HT410 HT510 HU10 HB10
              go_wp2_with fail
              refine (may_any a5 n5 c5 l5 out pm Hm5.out w11 HT511.out (by omega) Hz5.out).mono ?_
              rintro e w12 ⟨rfl, hb⟩
              have HTx12 := Lib.hid (HTx11.out.below hb)
              have HT212 := Lib.hid (HT211.out.below hb)
              have HT312 := Lib.hid (HT311.out.below hb)
              have HT412 := Lib.hid (HT411.out.below hb)
              have HT512 := Lib.hid (HT511.out.below hb)
              have HU12 := Lib.hid (HU11.out.below hb)
              have HB12 := Lib.hid (HB11.out.trans (hb.mono HB11.out.size))
              clear hb HTx11 HT211 HT311 HT411 HT511 HU11 HB11
              cases pm with
              | true =>
                go_wp2
                go_ret
                exact ⟨rfl, HB12.out⟩
              | false =>
                obtain ⟨w2, w5⟩ := HF2.out rfl
                have w2' : (e2 == 1) = true := by rw [w2]; rfl
                have w5' : (e5 == 1) = true := by rw [w5]; rfl
                clear w2 w5
                go_wp2
                go_ret
                exact ⟨rfl, HB12.out⟩
            · have k5 : (e5 != 0) = true := by simpa using hd5
              have hl5 := Lib.hid (He5.out hd5)
              clear hd5
              go_wp2_with fail
              refine (sameO_any a5 a n5 n c5 c l5 l w8 HT58.out HTx8.out (by omega) true (by rw [hl5.out]; simp)).mono ?_
              rintro e w9 ⟨rfl, hb⟩
              have HTx9 := Lib.hid (HTx8.out.below hb)
              have HT29 := Lib.hid (HT28.out.below hb)
              have HT39 := Lib.hid (HT38.out.below hb)
              have HT49 := Lib.hid (HT48.out.below hb)
              have HT59 := Lib.hid (HT58.out.below hb)
              have HU9 := Lib.hid (HU8.out.below hb)
              have HB9 := Lib.hid (HB8.out.trans (hb.mono HB8.out.size))
              clear hb HTx8 HT28 HT38 HT48 HT58 HU8 HB8
              go_wp2_with fail
              refine (may_any a2 n2 c2 l2 out pm Hm2.out w9 HT29.out (by omega) Hz2.out).mono ?_
              rintro e w10 ⟨rfl, hb⟩
              have HTx10 := Lib.hid (HTx9.out.below hb)
              have HT210 := Lib.hid (HT29.out.below hb)
              have HT310 := Lib.hid (HT39.out.below hb)
              have HT410 := Lib.hid (HT49.out.below hb)
              have HT510 := Lib.hid (HT59.out.below hb)
              have HU10 := Lib.hid (HU9.out.below hb)
              have HB10 := Lib.hid (HB9.out.trans (hb.mono HB9.out.size))
              clear hb HTx9 HT29 HT39 HT49 HT59 HU9 HB9
              go_wp2_with fail
              refine (may_any a3 n3 c3 l3 out pm Hm3.out w10 HT310.out (by omega) Hz3.out).mono ?_
              rintro e w11 ⟨rfl, hb⟩
              have HTx11 := Lib.hid (HTx10.out.below hb)
              have HT211 := Lib.hid (HT210.out.below hb)
              have HT311 := Lib.hid (HT310.out.below hb)
              have HT411 := Lib.hid (HT410.out.below hb)
              have HT511 := Lib.hid (HT510.out.below hb)
              have HU11 := Lib.hid (HU10.out.below hb)
              have HB11 := Lib.hid (HB10.out.trans (hb.mono HB10.out.size))
              clear hb HTx10 HT210 HT310 HT410 HT510 HU10 HB10
              go_wp2_with fail
              refine (may_any a4 n4 c4 l4 out pm Hm4.out w11 HT411.out (by omega) Hz4.out).mono ?_
              rintro e w12 ⟨rfl, hb⟩
              have HTx12 := Lib.hid (HTx11.out.below hb)
              have HT212 := Lib.hid (HT211.out.below hb)
              have HT312 := Lib.hid (HT311.out.below hb)
              have HT412 := Lib.hid (HT411.out.below hb)
              have HT512 := Lib.hid (HT511.out.below hb)
              have HU12 := Lib.hid (HU11.out.below hb)
              have HB12 := Lib.hid (HB11.out.trans (hb.mono HB11.out.size))
              clear hb HTx11 HT211 HT311 HT411 HT511 HU11 HB11
              go_wp2_with fail
              refine (may_any a5 n5 c5 l5 out pm Hm5.out w12 HT512.out (by omega) Hz5.out).mono ?_
              rintro e w13 ⟨rfl, hb⟩
              have HTx13 := Lib.hid (HTx12.out.below hb)
              have HT213 := Lib.hid (HT212.out.below hb)
              have HT313 := Lib.hid (HT312.out.below hb)
              have HT413 := Lib.hid (HT412.out.below hb)
              have HT513 := Lib.hid (HT512.out.below hb)
              have HU13 := Lib.hid (HU12.out.below hb)
              have HB13 := Lib.hid (HB12.out.trans (hb.mono HB12.out.size))
              clear hb HTx12 HT212 HT312 HT412 HT512 HU12 HB12
              cases pm with
              | true =>
                go_wp2
                go_ret
                exact ⟨rfl, HB13.out⟩
              | false =>
                obtain ⟨w2, w5⟩ := HF2.out rfl
                have w2' : (e2 == 1) = true := by rw [w2]; rfl
                have w5' : (e5 == 1) = true := by rw [w5]; rfl
                clear w2 w5
                go_wp2
                go_ret
                exact ⟨rfl, HB13.out⟩
          · have k4 : (e4 != 0) = true := by simpa using hd4
            have hl4 := Lib.hid (He4.out hd4)
            clear hd4
            go_wp2_with fail
            refine (sameO_any a4 a n4 n c4 c l4 l w8 HT48.out HTx8.out (by omega) true (by rw [hl4.out]; simp)).mono ?_
            rintro e w9 ⟨rfl, hb⟩
            have HTx9 := Lib.hid (HTx8.out.below hb)
            have HT29 := Lib.hid (HT28.out.below hb)
            have HT39 := Lib.hid (HT38.out.below hb)
            have HT49 := Lib.hid (HT48.out.below hb)
            have HT59 := Lib.hid (HT58.out.below hb)
            have HU9 := Lib.hid (HU8.out.below hb)
            have HB9 := Lib.hid (HB8.out.trans (hb.mono HB8.out.size))
            clear hb HTx8 HT28 HT38 HT48 HT58 HU8 HB8
            by_cases hd5 : e5 = 0
            · have k5 : (e5 != 0) = false := by simpa using hd5
              clear hd5
              go_wp2_with fail
              refine (may_any a2 n2 c2 l2 out pm Hm2.out w9 HT29.out (by omega) Hz2.out).mono ?_
              rintro e w10 ⟨rfl, hb⟩
              have HTx10 := Lib.hid (HTx9.out.below hb)
              have HT210 := Lib.hid (HT29.out.below hb)
              have HT310 := Lib.hid (HT39.out.below hb)
              have HT410 := Lib.hid (HT49.out.below hb)
              have HT510 := Lib.hid (HT59.out.below hb)
              have HU10 := Lib.hid (HU9.out.below hb)
              have HB10 := Lib.hid (HB9.out.trans (hb.mono HB9.out.size))
              clear hb HTx9 HT29 HT39 HT49 HT59 HU9 HB9
              go_wp2_with fail
              refine (may_any a3 n3 c3 l3 out pm Hm3.out w10 HT310.out (by omega) Hz3.out).mono ?_
              rintro e w11 ⟨rfl, hb⟩
              have HTx11 := Lib.hid (HTx10.out.below hb)
              have HT211 := Lib.hid (HT210.out.below hb)
              have HT311 := Lib.hid (HT310.out.below hb)
              have HT411 := Lib.hid (HT410.out.below hb)
              have HT511 := Lib.hid (HT510.out.below hb)
              have HU11 := Lib.hid (HU10.out.below hb)
              have HB11 := Lib.hid (HB10.out.trans (hb.mono HB10.out.size))
              clear hb HTx10 HT210 HT310 HT410 HT510 HU10 HB10
              go_wp2_with fail
              refine (may_any a4 n4 c4 l4 out pm Hm4.out w11 HT411.out (by omega) Hz4.out).mono ?_
              rintro e w12 ⟨rfl, hb⟩
              have HTx12 := Lib.hid (HTx11.out.below hb)
              have HT212 := Lib.hid (HT211.out.below hb)
              have HT312 := Lib.hid (HT311.out.below hb)
              have HT412 := Lib.hid (HT411.out.below hb)
              have HT512 := Lib.hid (HT511.out.below hb)
              have HU12 := Lib.hid (HU11.out.below hb)
              have HB12 := Lib.hid (HB11.out.trans (hb.mono HB11.out.size))
              clear hb HTx11 HT211 HT311 HT411 HT511 HU11 HB11
              go_wp2_with fail
              refine (may_any a5 n5 c5 l5 out pm Hm5.out w12 HT512.out (by omega) Hz5.out).mono ?_
              rintro e w13 ⟨rfl, hb⟩
              have HTx13 := Lib.hid (HTx12.out.below hb)
              have HT213 := Lib.hid (HT212.out.below hb)
              have HT313 := Lib.hid (HT312.out.below hb)
              have HT413 := Lib.hid (HT412.out.below hb)
              have HT513 := Lib.hid (HT512.out.below hb)
              have HU13 := Lib.hid (HU12.out.below hb)
              have HB13 := Lib.hid (HB12.out.trans (hb.mono HB12.out.size))
              clear hb HTx12 HT212 HT312 HT412 HT512 HU12 HB12
              cases pm with
              | true =>
                go_wp2
                go_ret
                exact ⟨rfl, HB13.out⟩
              | false =>
                obtain ⟨w2, w5⟩ := HF2.out rfl
                have w2' : (e2 == 1) = true := by rw [w2]; rfl
                have w5' : (e5 == 1) = true := by rw [w5]; rfl
                clear w2 w5
                go_wp2
                go_ret
                exact ⟨rfl, HB13.out⟩
            · have k5 : (e5 != 0) = true := by simpa using hd5
              have hl5 := Lib.hid (He5.out hd5)
              clear hd5
              go_wp2_with fail
              refine (sameO_any a5 a n5 n c5 c l5 l w9 HT59.out HTx9.out (by omega) true (by rw [hl5.out]; simp)).mono ?_
              rintro e w10 ⟨rfl, hb⟩
              have HTx10 := Lib.hid (HTx9.out.below hb)
              have HT210 := Lib.hid (HT29.out.below hb)
              have HT310 := Lib.hid (HT39.out.below hb)
              have HT410 := Lib.hid (HT49.out.below hb)
              have HT510 := Lib.hid (HT59.out.below hb)
              have HU10 := Lib.hid (HU9.out.below hb)
              have HB10 := Lib.hid (HB9.out.trans (hb.mono HB9.out.size))
              clear hb HTx9 HT29 HT39 HT49 HT59 HU9 HB9
              go_wp2_with fail
              refine (may_any a2 n2 c2 l2 out pm Hm2.out w10 HT210.out (by omega) Hz2.out).mono ?_
              rintro e w11 ⟨rfl, hb⟩
              have HTx11 := Lib.hid (HTx10.out.below hb)
              have HT211 := Lib.hid (HT210.out.below hb)
              have HT311 := Lib.hid (HT310.out.below hb)
              have HT411 := Lib.hid (HT410.out.below hb)
              have HT511 := Lib.hid (HT510.out.below hb)
              have HU11 := Lib.hid (HU10.out.below hb)
              have HB11 := Lib.hid (HB10.out.trans (hb.mono HB10.out.size))
              clear hb HTx10 HT210 HT310 HT410 HT510 HU10 HB10
              go_wp2_with fail
              refine (may_any a3 n3 c3 l3 out pm Hm3.out w11 HT311.out (by omega) Hz3.out).mono ?_
              rintro e w12 ⟨rfl, hb⟩
              have HTx12 := Lib.hid (HTx11.out.below hb)
              have HT212 := Lib.hid (HT211.out.below hb)
              have HT312 := Lib.hid (HT311.out.below hb)
              have HT412 := Lib.hid (HT411.out.below hb)
              have HT512 := Lib.hid (HT511.out.below hb)
              have HU12 := Lib.hid (HU11.out.below hb)
              have HB12 := Lib.hid (HB11.out.trans (hb.mono HB11.out.size))
              clear hb HTx11 HT211 HT311 HT411 HT511 HU11 HB11
              go_wp2_with fail
              refine (may_any a4 n4 c4 l4 out pm Hm4.out w12 HT412.out (by omega) Hz4.out).mono ?_
              rintro e w13 ⟨rfl, hb⟩
              have HTx13 := Lib.hid (HTx12.out.below hb)
              have HT213 := Lib.hid (HT212.out.below hb)
              have HT313 := Lib.hid (HT312.out.below hb)
              have HT413 := Lib.hid (HT412.out.below hb)
              have HT513 := Lib.hid (HT512.out.below hb)
              have HU13 := Lib.hid (HU12.out.below hb)
              have HB13 := Lib.hid (HB12.out.trans (hb.mono HB12.out.size))
              clear hb HTx12 HT212 HT312 HT412 HT512 HU12 HB12
              go_wp2_with fail
              refine (may_any a5 n5 c5 l5 out pm Hm5.out w13 HT513.out (by omega) Hz5.out).mono ?_
              rintro e w14 ⟨rfl, hb⟩
              have HTx14 := Lib.hid (HTx13.out.below hb)
              have HT214 := Lib.hid (HT213.out.below hb)
              have HT314 := Lib.hid (HT313.out.below hb)
              have HT414 := Lib.hid (HT413.out.below hb)
              have HT514 := Lib.hid (HT513.out.below hb)
              have HU14 := Lib.hid (HU13.out.below hb)
              have HB14 := Lib.hid (HB13.out.trans (hb.mono HB13.out.size))
              clear hb HTx13 HT213 HT313 HT413 HT513 HU13 HB13
              cases pm with
              | true =>
                go_wp2
                go_ret
                exact ⟨rfl, HB14.out⟩
              | false =>
                obtain ⟨w2, w5⟩ := HF2.out rfl
                have w2' : (e2 == 1) = true := by rw [w2]; rfl
                have w5' : (e5 == 1) = true := by rw [w5]; rfl
                clear w2 w5
                go_wp2
                go_ret
                exact ⟨rfl, HB14.out⟩
    · have g3 : decide ((40 : Int) < (nb : Int)) = true := by simp; omega
      go_enter Try.func4, Try.ntmps4
      go_wp2_with fail
      refine (oawake_any w).mono ?_
      rintro e w1 ⟨rfl, hb⟩
      have HTx1 := Lib.hid (HTx0.out.below hb)
      have HU1 := Lib.hid (HU0.out.below hb)
      have HB1 := Lib.hid (HB0.out.trans (hb.mono HB0.out.size))
      clear hb HTx0 HU0 HB0
      go_wp2
      go_ret
      exact ⟨rfl, HB1.out⟩
  · have g1 : decide ((6 : Int) < (n : Int)) = true := by simp; omega
    go_enter Try.func4, Try.ntmps4
    go_wp2_with fail
    refine (oawake_any w).mono ?_
    rintro e w1 ⟨rfl, hb⟩
    have HTx1 := Lib.hid (HTx0.out.below hb)
    have HU1 := Lib.hid (HU0.out.below hb)
    have HB1 := Lib.hid (HB0.out.trans (hb.mono HB0.out.size))
    clear hb HTx0 HU0 HB0
    go_wp2
    go_ret
    exact ⟨rfl, HB1.out⟩
end Go.Proofs.Ytejckbnapcdhpaa
