/-
  PoolTells, at every two lists, numbers and busy addresses.
-/
import Derived.Test.YtejckbnapcdhpaaOLaws
namespace Go.Proofs.Ytejckbnapcdhpaa
open Go.RowKit

set_option maxRecDepth 100000 in
set_option maxHeartbeats 4000000 in
theorem PoolTells_in (a : Option Addr) (n c : Nat) (l : List O.Pl) (a' : Option Addr) (n' c' : Nat) (l' : List O.Pl) (out k f nn : Int) (ab : Option Addr) (nb cb : Nat) (bs : List Int) (w : World) (h : QIn w a n c l) (h' : QIn w a' n' c' l') (hz : O.Sm l) (ho : out ≤ 9223372036854775807) (hf : f ≤ 9223372036854775807) (hu : BIn w ab nb cb bs) :
    Calls Try.prog 3 #[.slice a n c, .slice a' n' c', .int .i64 out, .int .i64 k, .int .i64 f, .int .i64 nn, .slice ab nb cb] w fun e w' => e = .returned (.bool true) ∧ Below w.heap.size w w' := by
  have HB0 := Lib.hid (Below.refl w.heap.size w)
  have HTx0 := Lib.hid h
  have hl := h.1
  have HTy0 := Lib.hid h'
  have HU0 := Lib.hid hu
  have HZ := Lib.hid hz
  clear hz
  clear h h' hu
  by_cases hn : n ≤ 6
  · have g1 : decide ((6 : Int) < (n : Int)) = false := by simp; omega
    by_cases hn' : n' ≤ 6
    · have g2 : decide ((6 : Int) < (n' : Int)) = false := by simp; omega
      by_cases hnb : nb ≤ 40
      · have g3 : decide ((40 : Int) < (nb : Int)) = false := by simp; omega
        obtain ⟨⟨l2, e2⟩, s2⟩ : ∃ x, O.add l out f nn = x := ⟨_, rfl⟩
        obtain ⟨n2, m2⟩ : ∃ m, l2.length = m := ⟨_, rfl⟩
        have b2 := O.add_len l out f nn
        rw [s2] at b2
        dsimp only at b2
        rw [m2] at b2
        have z2 : n2 ≤ 100 := by omega
        clear b2
        have S2 := Lib.hid s2
        have M2 := Lib.hid m2
        obtain ⟨⟨l3, e3⟩, s3⟩ : ∃ x, O.drain l out k = x := ⟨_, rfl⟩
        obtain ⟨n3, m3⟩ : ∃ m, l3.length = m := ⟨_, rfl⟩
        have b3 := O.drain_len l out k
        rw [s3] at b3
        dsimp only at b3
        rw [m3] at b3
        have z3 : n3 ≤ 100 := by omega
        clear b3
        have S3 := Lib.hid s3
        have M3 := Lib.hid m3
        obtain ⟨⟨l4, e4⟩, s4⟩ : ∃ x, O.size l out k nn bs = x := ⟨_, rfl⟩
        obtain ⟨n4, m4⟩ : ∃ m, l4.length = m := ⟨_, rfl⟩
        have b4 := O.size_len l out k nn bs
        rw [s4] at b4
        dsimp only at b4
        rw [m4] at b4
        have z4 : n4 ≤ 100 := by omega
        clear b4
        have S4 := Lib.hid s4
        have M4 := Lib.hid m4
        obtain ⟨⟨l5, e5⟩, s5⟩ : ∃ x, O.gone l out k bs = x := ⟨_, rfl⟩
        obtain ⟨n5, m5⟩ : ∃ m, l5.length = m := ⟨_, rfl⟩
        have b5 := O.gone_len l out k bs
        rw [s5] at b5
        dsimp only at b5
        rw [m5] at b5
        have z5 : n5 ≤ 100 := by omega
        clear b5
        have S5 := Lib.hid s5
        have M5 := Lib.hid m5
        obtain ⟨pm, hpm⟩ : ∃ b, O.may l out = b := ⟨_, rfl⟩
        obtain ⟨ps, hps⟩ : ∃ b, decide (l = l') = b := ⟨_, rfl⟩
        obtain ⟨r, hr⟩ : ∃ b, O.of l f = b := ⟨_, rfl⟩
        obtain ⟨pg, hpg⟩ : ∃ b, O.gives l f = b := ⟨_, rfl⟩
        have HM := Lib.hid hpm
        have HS := Lib.hid hps
        have HR := Lib.hid hr
        have HG := Lib.hid hpg
        have f2 : (e2 != e2) = false := by simp
        have f3 : (e3 != e3) = false := by simp
        have f4 : (e4 != e4) = false := by simp
        have f5 : (e5 != e5) = false := by simp
        have f6 : (pm == pm) = true := by simp
        have f7 : (ps == ps) = true := by simp
        have f8 : (r == r) = true := by simp
        have f9 : (pg == pg) = true := by simp
        clear hpm hps hr hpg
        clear s2 m2
        clear s3 m3
        clear s4 m4
        clear s5 m5
        go_enter Try.func3, Try.ntmps3
        go_wp2_with fail
        refine (oawake_any w).mono ?_
        rintro e w1 ⟨rfl, hb⟩
        have HTx1 := Lib.hid (HTx0.out.below hb)
        have HTy1 := Lib.hid (HTy0.out.below hb)
        have HU1 := Lib.hid (HU0.out.below hb)
        have HB1 := Lib.hid (HB0.out.trans (hb.mono HB0.out.size))
        clear hb HTx0 HTy0 HU0 HB0
        go_wp2_with fail
        refine (add_is a n c l out f nn l2 n2 e2 w1 HTx1.out (by omega) HZ.out hf S2.out M2.out).mono ?_
        rintro e w2 ⟨a2, c2, rfl, ht2, hb⟩
        have HTx2 := Lib.hid (HTx1.out.below hb)
        have HTy2 := Lib.hid (HTy1.out.below hb)
        have HU2 := Lib.hid (HU1.out.below hb)
        have HB2 := Lib.hid (HB1.out.trans (hb.mono HB1.out.size))
        clear hb HTx1 HTy1 HU1 HB1
        have HT22 := ht2
        clear ht2
        go_wp2_with fail
        refine (refAdd_is a n c l out f nn l2 n2 e2 w2 HTx2.out (by omega) ho S2.out M2.out).mono ?_
        rintro e w3 ⟨a3, c3, rfl, ht3, hb⟩
        have HTx3 := Lib.hid (HTx2.out.below hb)
        have HTy3 := Lib.hid (HTy2.out.below hb)
        have HT23 := Lib.hid (HT22.out.below hb)
        have HU3 := Lib.hid (HU2.out.below hb)
        have HB3 := Lib.hid (HB2.out.trans (hb.mono HB2.out.size))
        clear hb HTx2 HTy2 HT22 HU2 HB2
        have HT33 := ht3
        clear ht3
        go_wp2_with fail
        refine (drain_is a n c l out k l3 n3 e3 w3 HTx3.out (by omega) HZ.out S3.out M3.out).mono ?_
        rintro e w4 ⟨a4, c4, rfl, ht4, hb⟩
        have HTx4 := Lib.hid (HTx3.out.below hb)
        have HTy4 := Lib.hid (HTy3.out.below hb)
        have HT24 := Lib.hid (HT23.out.below hb)
        have HT34 := Lib.hid (HT33.out.below hb)
        have HU4 := Lib.hid (HU3.out.below hb)
        have HB4 := Lib.hid (HB3.out.trans (hb.mono HB3.out.size))
        clear hb HTx3 HTy3 HT23 HT33 HU3 HB3
        have HT44 := ht4
        clear ht4
        go_wp2_with fail
        refine (refDrain_is a n c l out k l3 n3 e3 w4 HTx4.out (by omega) S3.out M3.out).mono ?_
        rintro e w5 ⟨a5, c5, rfl, ht5, hb⟩
        have HTx5 := Lib.hid (HTx4.out.below hb)
        have HTy5 := Lib.hid (HTy4.out.below hb)
        have HT25 := Lib.hid (HT24.out.below hb)
        have HT35 := Lib.hid (HT34.out.below hb)
        have HT45 := Lib.hid (HT44.out.below hb)
        have HU5 := Lib.hid (HU4.out.below hb)
        have HB5 := Lib.hid (HB4.out.trans (hb.mono HB4.out.size))
        clear hb HTx4 HTy4 HT24 HT34 HT44 HU4 HB4
        have HT55 := ht5
        clear ht5
        go_wp2_with fail
        refine (size_is a n c l out k nn ab nb cb bs l4 n4 e4 w5 HTx5.out (by omega) HZ.out HU5.out (by omega) S4.out M4.out).mono ?_
        rintro e w6 ⟨a6, c6, rfl, ht6, hb⟩
        have HTx6 := Lib.hid (HTx5.out.below hb)
        have HTy6 := Lib.hid (HTy5.out.below hb)
        have HT26 := Lib.hid (HT25.out.below hb)
        have HT36 := Lib.hid (HT35.out.below hb)
        have HT46 := Lib.hid (HT45.out.below hb)
        have HT56 := Lib.hid (HT55.out.below hb)
        have HU6 := Lib.hid (HU5.out.below hb)
        have HB6 := Lib.hid (HB5.out.trans (hb.mono HB5.out.size))
        clear hb HTx5 HTy5 HT25 HT35 HT45 HT55 HU5 HB5
        have HT66 := ht6
        clear ht6
        go_wp2_with fail
        refine (refSize_is a n c l out k nn ab nb cb bs l4 n4 e4 w6 HTx6.out (by omega) ho HU6.out (by omega) S4.out M4.out).mono ?_
        rintro e w7 ⟨a7, c7, rfl, ht7, hb⟩
        have HTx7 := Lib.hid (HTx6.out.below hb)
        have HTy7 := Lib.hid (HTy6.out.below hb)
        have HT27 := Lib.hid (HT26.out.below hb)
        have HT37 := Lib.hid (HT36.out.below hb)
        have HT47 := Lib.hid (HT46.out.below hb)
        have HT57 := Lib.hid (HT56.out.below hb)
        have HT67 := Lib.hid (HT66.out.below hb)
        have HU7 := Lib.hid (HU6.out.below hb)
        have HB7 := Lib.hid (HB6.out.trans (hb.mono HB6.out.size))
        clear hb HTx6 HTy6 HT26 HT36 HT46 HT56 HT66 HU6 HB6
        have HT77 := ht7
        clear ht7
        go_wp2_with fail
        refine (gone_is a n c l out k ab nb cb bs l5 n5 e5 w7 HTx7.out (by omega) HZ.out HU7.out (by omega) S5.out M5.out).mono ?_
        rintro e w8 ⟨a8, c8, rfl, ht8, hb⟩
        have HTx8 := Lib.hid (HTx7.out.below hb)
        have HTy8 := Lib.hid (HTy7.out.below hb)
        have HT28 := Lib.hid (HT27.out.below hb)
        have HT38 := Lib.hid (HT37.out.below hb)
        have HT48 := Lib.hid (HT47.out.below hb)
        have HT58 := Lib.hid (HT57.out.below hb)
        have HT68 := Lib.hid (HT67.out.below hb)
        have HT78 := Lib.hid (HT77.out.below hb)
        have HU8 := Lib.hid (HU7.out.below hb)
        have HB8 := Lib.hid (HB7.out.trans (hb.mono HB7.out.size))
        clear hb HTx7 HTy7 HT27 HT37 HT47 HT57 HT67 HT77 HU7 HB7
        have HT88 := ht8
        clear ht8
        go_wp2_with fail
        refine (refGone_is a n c l out k ab nb cb bs l5 n5 e5 w8 HTx8.out (by omega) HU8.out (by omega) S5.out M5.out).mono ?_
        rintro e w9 ⟨a9, c9, rfl, ht9, hb⟩
        have HTx9 := Lib.hid (HTx8.out.below hb)
        have HTy9 := Lib.hid (HTy8.out.below hb)
        have HT29 := Lib.hid (HT28.out.below hb)
        have HT39 := Lib.hid (HT38.out.below hb)
        have HT49 := Lib.hid (HT48.out.below hb)
        have HT59 := Lib.hid (HT58.out.below hb)
        have HT69 := Lib.hid (HT68.out.below hb)
        have HT79 := Lib.hid (HT78.out.below hb)
        have HT89 := Lib.hid (HT88.out.below hb)
        have HU9 := Lib.hid (HU8.out.below hb)
        have HB9 := Lib.hid (HB8.out.trans (hb.mono HB8.out.size))
        clear hb HTx8 HTy8 HT28 HT38 HT48 HT58 HT68 HT78 HT88 HU8 HB8
        have HT99 := ht9
        clear ht9
        go_wp2_with fail
        refine (refSame_any a2 a3 n2 n2 c2 c3 l2 l2 w9 HT29.out HT39.out (by omega) true (by simp)).mono ?_
        rintro e w10 ⟨rfl, hb⟩
        have HTx10 := Lib.hid (HTx9.out.below hb)
        have HTy10 := Lib.hid (HTy9.out.below hb)
        have HT210 := Lib.hid (HT29.out.below hb)
        have HT310 := Lib.hid (HT39.out.below hb)
        have HT410 := Lib.hid (HT49.out.below hb)
        have HT510 := Lib.hid (HT59.out.below hb)
        have HT610 := Lib.hid (HT69.out.below hb)
        have HT710 := Lib.hid (HT79.out.below hb)
        have HT810 := Lib.hid (HT89.out.below hb)
        have HT910 := Lib.hid (HT99.out.below hb)
        have HU10 := Lib.hid (HU9.out.below hb)
        have HB10 := Lib.hid (HB9.out.trans (hb.mono HB9.out.size))
        clear hb HTx9 HTy9 HT29 HT39 HT49 HT59 HT69 HT79 HT89 HT99 HU9 HB9
        go_wp2_with fail
        refine (refSame_any a4 a5 n3 n3 c4 c5 l3 l3 w10 HT410.out HT510.out (by omega) true (by simp)).mono ?_
        rintro e w11 ⟨rfl, hb⟩
        have HTx11 := Lib.hid (HTx10.out.below hb)
        have HTy11 := Lib.hid (HTy10.out.below hb)
        have HT211 := Lib.hid (HT210.out.below hb)
        have HT311 := Lib.hid (HT310.out.below hb)
        have HT411 := Lib.hid (HT410.out.below hb)
        have HT511 := Lib.hid (HT510.out.below hb)
        have HT611 := Lib.hid (HT610.out.below hb)
        have HT711 := Lib.hid (HT710.out.below hb)
        have HT811 := Lib.hid (HT810.out.below hb)
        have HT911 := Lib.hid (HT910.out.below hb)
        have HU11 := Lib.hid (HU10.out.below hb)
        have HB11 := Lib.hid (HB10.out.trans (hb.mono HB10.out.size))
        clear hb HTx10 HTy10 HT210 HT310 HT410 HT510 HT610 HT710 HT810 HT910 HU10 HB10
        go_wp2_with fail
        refine (refSame_any a6 a7 n4 n4 c6 c7 l4 l4 w11 HT611.out HT711.out (by omega) true (by simp)).mono ?_
        rintro e w12 ⟨rfl, hb⟩
        have HTx12 := Lib.hid (HTx11.out.below hb)
        have HTy12 := Lib.hid (HTy11.out.below hb)
        have HT212 := Lib.hid (HT211.out.below hb)
        have HT312 := Lib.hid (HT311.out.below hb)
        have HT412 := Lib.hid (HT411.out.below hb)
        have HT512 := Lib.hid (HT511.out.below hb)
        have HT612 := Lib.hid (HT611.out.below hb)
        have HT712 := Lib.hid (HT711.out.below hb)
        have HT812 := Lib.hid (HT811.out.below hb)
        have HT912 := Lib.hid (HT911.out.below hb)
        have HU12 := Lib.hid (HU11.out.below hb)
        have HB12 := Lib.hid (HB11.out.trans (hb.mono HB11.out.size))
        clear hb HTx11 HTy11 HT211 HT311 HT411 HT511 HT611 HT711 HT811 HT911 HU11 HB11
        go_wp2_with fail
        refine (refSame_any a8 a9 n5 n5 c8 c9 l5 l5 w12 HT812.out HT912.out (by omega) true (by simp)).mono ?_
        rintro e w13 ⟨rfl, hb⟩
        have HTx13 := Lib.hid (HTx12.out.below hb)
        have HTy13 := Lib.hid (HTy12.out.below hb)
        have HT213 := Lib.hid (HT212.out.below hb)
        have HT313 := Lib.hid (HT312.out.below hb)
        have HT413 := Lib.hid (HT412.out.below hb)
        have HT513 := Lib.hid (HT512.out.below hb)
        have HT613 := Lib.hid (HT612.out.below hb)
        have HT713 := Lib.hid (HT712.out.below hb)
        have HT813 := Lib.hid (HT812.out.below hb)
        have HT913 := Lib.hid (HT912.out.below hb)
        have HU13 := Lib.hid (HU12.out.below hb)
        have HB13 := Lib.hid (HB12.out.trans (hb.mono HB12.out.size))
        clear hb HTx12 HTy12 HT212 HT312 HT412 HT512 HT612 HT712 HT812 HT912 HU12 HB12
        go_wp2_with fail
        refine (refMay_any a n c l out pm HM.out w13 HTx13.out (by omega)).mono ?_
        rintro e w14 ⟨rfl, hb⟩
        have HTx14 := Lib.hid (HTx13.out.below hb)
        have HTy14 := Lib.hid (HTy13.out.below hb)
        have HT214 := Lib.hid (HT213.out.below hb)
        have HT314 := Lib.hid (HT313.out.below hb)
        have HT414 := Lib.hid (HT413.out.below hb)
        have HT514 := Lib.hid (HT513.out.below hb)
        have HT614 := Lib.hid (HT613.out.below hb)
        have HT714 := Lib.hid (HT713.out.below hb)
        have HT814 := Lib.hid (HT813.out.below hb)
        have HT914 := Lib.hid (HT913.out.below hb)
        have HU14 := Lib.hid (HU13.out.below hb)
        have HB14 := Lib.hid (HB13.out.trans (hb.mono HB13.out.size))
        clear hb HTx13 HTy13 HT213 HT313 HT413 HT513 HT613 HT713 HT813 HT913 HU13 HB13
        go_wp2_with fail
        refine (refSame_any a a' n n' c c' l l' w14 HTx14.out HTy14.out (by omega) ps HS.out).mono ?_
        rintro e w15 ⟨rfl, hb⟩
        have HTx15 := Lib.hid (HTx14.out.below hb)
        have HTy15 := Lib.hid (HTy14.out.below hb)
        have HT215 := Lib.hid (HT214.out.below hb)
        have HT315 := Lib.hid (HT314.out.below hb)
        have HT415 := Lib.hid (HT414.out.below hb)
        have HT515 := Lib.hid (HT514.out.below hb)
        have HT615 := Lib.hid (HT614.out.below hb)
        have HT715 := Lib.hid (HT714.out.below hb)
        have HT815 := Lib.hid (HT814.out.below hb)
        have HT915 := Lib.hid (HT914.out.below hb)
        have HU15 := Lib.hid (HU14.out.below hb)
        have HB15 := Lib.hid (HB14.out.trans (hb.mono HB14.out.size))
        clear hb HTx14 HTy14 HT214 HT314 HT414 HT514 HT614 HT714 HT814 HT914 HU14 HB14
        go_wp2_with fail
        refine (refGives_any a n c l f pg HG.out w15 HTx15.out (by omega)).mono ?_
        rintro e w16 ⟨rfl, hb⟩
        have HTx16 := Lib.hid (HTx15.out.below hb)
        have HTy16 := Lib.hid (HTy15.out.below hb)
        have HT216 := Lib.hid (HT215.out.below hb)
        have HT316 := Lib.hid (HT315.out.below hb)
        have HT416 := Lib.hid (HT415.out.below hb)
        have HT516 := Lib.hid (HT515.out.below hb)
        have HT616 := Lib.hid (HT615.out.below hb)
        have HT716 := Lib.hid (HT715.out.below hb)
        have HT816 := Lib.hid (HT815.out.below hb)
        have HT916 := Lib.hid (HT915.out.below hb)
        have HU16 := Lib.hid (HU15.out.below hb)
        have HB16 := Lib.hid (HB15.out.trans (hb.mono HB15.out.size))
        clear hb HTx15 HTy15 HT215 HT315 HT415 HT515 HT615 HT715 HT815 HT915 HU15 HB15
        go_wp2_with fail
        refine (may_any a n c l out pm HM.out w16 HTx16.out (by omega) HZ.out).mono ?_
        rintro e w17 ⟨rfl, hb⟩
        have HTx17 := Lib.hid (HTx16.out.below hb)
        have HTy17 := Lib.hid (HTy16.out.below hb)
        have HT217 := Lib.hid (HT216.out.below hb)
        have HT317 := Lib.hid (HT316.out.below hb)
        have HT417 := Lib.hid (HT416.out.below hb)
        have HT517 := Lib.hid (HT516.out.below hb)
        have HT617 := Lib.hid (HT616.out.below hb)
        have HT717 := Lib.hid (HT716.out.below hb)
        have HT817 := Lib.hid (HT816.out.below hb)
        have HT917 := Lib.hid (HT916.out.below hb)
        have HU17 := Lib.hid (HU16.out.below hb)
        have HB17 := Lib.hid (HB16.out.trans (hb.mono HB16.out.size))
        clear hb HTx16 HTy16 HT216 HT316 HT416 HT516 HT616 HT716 HT816 HT916 HU16 HB16
        go_wp2_with fail
        refine (sameO_any a a' n n' c c' l l' w17 HTx17.out HTy17.out (by omega) ps HS.out).mono ?_
        rintro e w18 ⟨rfl, hb⟩
        have HTx18 := Lib.hid (HTx17.out.below hb)
        have HTy18 := Lib.hid (HTy17.out.below hb)
        have HT218 := Lib.hid (HT217.out.below hb)
        have HT318 := Lib.hid (HT317.out.below hb)
        have HT418 := Lib.hid (HT417.out.below hb)
        have HT518 := Lib.hid (HT517.out.below hb)
        have HT618 := Lib.hid (HT617.out.below hb)
        have HT718 := Lib.hid (HT717.out.below hb)
        have HT818 := Lib.hid (HT817.out.below hb)
        have HT918 := Lib.hid (HT917.out.below hb)
        have HU18 := Lib.hid (HU17.out.below hb)
        have HB18 := Lib.hid (HB17.out.trans (hb.mono HB17.out.size))
        clear hb HTx17 HTy17 HT217 HT317 HT417 HT517 HT617 HT717 HT817 HT917 HU17 HB17
        go_wp2_with fail
        refine (of_any a n c l f r HR.out w18 HTx18.out (by omega)).mono ?_
        rintro e w19 ⟨rfl, hb⟩
        have HTx19 := Lib.hid (HTx18.out.below hb)
        have HTy19 := Lib.hid (HTy18.out.below hb)
        have HT219 := Lib.hid (HT218.out.below hb)
        have HT319 := Lib.hid (HT318.out.below hb)
        have HT419 := Lib.hid (HT418.out.below hb)
        have HT519 := Lib.hid (HT518.out.below hb)
        have HT619 := Lib.hid (HT618.out.below hb)
        have HT719 := Lib.hid (HT718.out.below hb)
        have HT819 := Lib.hid (HT818.out.below hb)
        have HT919 := Lib.hid (HT918.out.below hb)
        have HU19 := Lib.hid (HU18.out.below hb)
        have HB19 := Lib.hid (HB18.out.trans (hb.mono HB18.out.size))
        clear hb HTx18 HTy18 HT218 HT318 HT418 HT518 HT618 HT718 HT818 HT918 HU18 HB18
        go_wp2_with fail
        refine (refOf_any a n c l f r HR.out w19 HTx19.out (by omega)).mono ?_
        rintro e w20 ⟨rfl, hb⟩
        have HTx20 := Lib.hid (HTx19.out.below hb)
        have HTy20 := Lib.hid (HTy19.out.below hb)
        have HT220 := Lib.hid (HT219.out.below hb)
        have HT320 := Lib.hid (HT319.out.below hb)
        have HT420 := Lib.hid (HT419.out.below hb)
        have HT520 := Lib.hid (HT519.out.below hb)
        have HT620 := Lib.hid (HT619.out.below hb)
        have HT720 := Lib.hid (HT719.out.below hb)
        have HT820 := Lib.hid (HT819.out.below hb)
        have HT920 := Lib.hid (HT919.out.below hb)
        have HU20 := Lib.hid (HU19.out.below hb)
        have HB20 := Lib.hid (HB19.out.trans (hb.mono HB19.out.size))
        clear hb HTx19 HTy19 HT219 HT319 HT419 HT519 HT619 HT719 HT819 HT919 HU19 HB19
        go_wp2_with fail
        refine (gives_any a n c l f pg HG.out w20 HTx20.out (by omega)).mono ?_
        rintro e w21 ⟨rfl, hb⟩
        have HTx21 := Lib.hid (HTx20.out.below hb)
        have HTy21 := Lib.hid (HTy20.out.below hb)
        have HT221 := Lib.hid (HT220.out.below hb)
        have HT321 := Lib.hid (HT320.out.below hb)
        have HT421 := Lib.hid (HT420.out.below hb)
        have HT521 := Lib.hid (HT520.out.below hb)
        have HT621 := Lib.hid (HT620.out.below hb)
        have HT721 := Lib.hid (HT720.out.below hb)
        have HT821 := Lib.hid (HT820.out.below hb)
        have HT921 := Lib.hid (HT920.out.below hb)
        have HU21 := Lib.hid (HU20.out.below hb)
        have HB21 := Lib.hid (HB20.out.trans (hb.mono HB20.out.size))
        clear hb HTx20 HTy20 HT220 HT320 HT420 HT520 HT620 HT720 HT820 HT920 HU20 HB20
        go_wp2
        go_ret
        exact ⟨rfl, HB21.out⟩
      · have g3 : decide ((40 : Int) < (nb : Int)) = true := by simp; omega
        go_enter Try.func3, Try.ntmps3
        go_wp2_with fail
        refine (oawake_any w).mono ?_
        rintro e w1 ⟨rfl, hb⟩
        have HTx1 := Lib.hid (HTx0.out.below hb)
        have HTy1 := Lib.hid (HTy0.out.below hb)
        have HU1 := Lib.hid (HU0.out.below hb)
        have HB1 := Lib.hid (HB0.out.trans (hb.mono HB0.out.size))
        clear hb HTx0 HTy0 HU0 HB0
        go_wp2
        go_ret
        exact ⟨rfl, HB1.out⟩
    · have g2 : decide ((6 : Int) < (n' : Int)) = true := by simp; omega
      go_enter Try.func3, Try.ntmps3
      go_wp2_with fail
      refine (oawake_any w).mono ?_
      rintro e w1 ⟨rfl, hb⟩
      have HTx1 := Lib.hid (HTx0.out.below hb)
      have HTy1 := Lib.hid (HTy0.out.below hb)
      have HU1 := Lib.hid (HU0.out.below hb)
      have HB1 := Lib.hid (HB0.out.trans (hb.mono HB0.out.size))
      clear hb HTx0 HTy0 HU0 HB0
      go_wp2
      go_ret
      exact ⟨rfl, HB1.out⟩
  · have g1 : decide ((6 : Int) < (n : Int)) = true := by simp; omega
    go_enter Try.func3, Try.ntmps3
    go_wp2_with fail
    refine (oawake_any w).mono ?_
    rintro e w1 ⟨rfl, hb⟩
    have HTx1 := Lib.hid (HTx0.out.below hb)
    have HTy1 := Lib.hid (HTy0.out.below hb)
    have HU1 := Lib.hid (HU0.out.below hb)
    have HB1 := Lib.hid (HB0.out.trans (hb.mono HB0.out.size))
    clear hb HTx0 HTy0 HU0 HB0
    go_wp2
    go_ret
    exact ⟨rfl, HB1.out⟩
end Go.Proofs.Ytejckbnapcdhpaa
