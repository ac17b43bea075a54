/-
  PoolBusy, at every list, numbers and busy addresses.
-/
import Derived.Test.YtejckbnapcdhpaaOLaws
namespace Go.Proofs.Ytejckbnapcdhpaa
open Go.RowKit

set_option maxRecDepth 100000 in
set_option maxHeartbeats 1500000 in
theorem PoolBusy_in (a : Option Addr) (n c : Nat) (l : List O.Pl) (out k nn : Int) (ab : Option Addr) (nb cb : Nat) (bs : List Int) (i : Int) (w : World) (h : QIn w a n c l) (hz : O.Sm l) (hu : BIn w ab nb cb bs) :
    Calls Try.prog 5 #[.slice a n c, .int .i64 out, .int .i64 k, .int .i64 nn, .slice ab nb cb, .int .i64 i] w fun e w' => e = .returned (.bool true) ∧ Below w.heap.size w w' := by
  have HB0 := Lib.hid (Below.refl w.heap.size w)
  have HTx0 := Lib.hid h
  have hl := h.1
  have HU0 := Lib.hid hu
  have HZ := Lib.hid hz
  clear hz
  clear h hu
  by_cases hn : n ≤ 6
  · have g1 : decide ((6 : Int) < (n : Int)) = false := by simp; omega
    by_cases hnb : nb ≤ 40
    · have g3 : decide ((40 : Int) < (nb : Int)) = false := by simp; omega
      obtain ⟨pm, hpm⟩ : ∃ b, O.may l out = b := ⟨_, rfl⟩
      have HM := Lib.hid hpm
      by_cases hp1 : pm = false
      · subst hp1
        clear hpm
        go_enter Try.func5, Try.ntmps5
        go_wp2_with fail
        refine (oawake_any w).mono ?_
        rintro e w1 ⟨rfl, hb⟩
        have HTx1 := Lib.hid (HTx0.out.below hb)
        have HU1 := Lib.hid (HU0.out.below hb)
        have HB1 := Lib.hid (HB0.out.trans (hb.mono HB0.out.size))
        clear hb HTx0 HU0 HB0
        go_wp2_with fail
        refine (may_any a n c l out false HM.out w1 HTx1.out (by omega) HZ.out).mono ?_
        rintro e w2 ⟨rfl, hb⟩
        have HTx2 := Lib.hid (HTx1.out.below hb)
        have HU2 := Lib.hid (HU1.out.below hb)
        have HB2 := Lib.hid (HB1.out.trans (hb.mono HB1.out.size))
        clear hb HTx1 HU1 HB1
        go_wp2
        go_ret
        exact ⟨rfl, HB2.out⟩
      · obtain rfl : pm = true := by simpa using hp1
        have hm := O.may_iff.1 hpm
        clear hp1 hpm
        by_cases hi : i < 0
        · have d4 : decide (i < 0) = true := by simpa using hi
          go_enter Try.func5, Try.ntmps5
          go_wp2_with fail
          refine (oawake_any w).mono ?_
          rintro e w1 ⟨rfl, hb⟩
          have HTx1 := Lib.hid (HTx0.out.below hb)
          have HU1 := Lib.hid (HU0.out.below hb)
          have HB1 := Lib.hid (HB0.out.trans (hb.mono HB0.out.size))
          clear hb HTx0 HU0 HB0
          go_wp2_with fail
          refine (may_any a n c l out true HM.out w1 HTx1.out (by omega) HZ.out).mono ?_
          rintro e w2 ⟨rfl, hb⟩
          have HTx2 := Lib.hid (HTx1.out.below hb)
          have HU2 := Lib.hid (HU1.out.below hb)
          have HB2 := Lib.hid (HB1.out.trans (hb.mono HB1.out.size))
          clear hb HTx1 HU1 HB1
          go_wp2
          go_ret
          exact ⟨rfl, HB2.out⟩
        · have d4 : decide (i < 0) = false := by simpa using hi
          by_cases hi2 : (nb : Int) ≤ i
          · have d5 : decide ((nb : Int) ≤ i) = true := by simpa using hi2
            go_enter Try.func5, Try.ntmps5
            go_wp2_with fail
            refine (oawake_any w).mono ?_
            rintro e w1 ⟨rfl, hb⟩
            have HTx1 := Lib.hid (HTx0.out.below hb)
            have HU1 := Lib.hid (HU0.out.below hb)
            have HB1 := Lib.hid (HB0.out.trans (hb.mono HB0.out.size))
            clear hb HTx0 HU0 HB0
            go_wp2_with fail
            refine (may_any a n c l out true HM.out w1 HTx1.out (by omega) HZ.out).mono ?_
            rintro e w2 ⟨rfl, hb⟩
            have HTx2 := Lib.hid (HTx1.out.below hb)
            have HU2 := Lib.hid (HU1.out.below hb)
            have HB2 := Lib.hid (HB1.out.trans (hb.mono HB1.out.size))
            clear hb HTx1 HU1 HB1
            go_wp2
            go_ret
            exact ⟨rfl, HB2.out⟩
          · have d5 : decide ((nb : Int) ≤ i) = false := by simpa using hi2
            obtain ⟨mi, rfl⟩ : ∃ mi : Nat, i = mi := ⟨i.toNat, by omega⟩
            have hmi : mi < nb := by omega
            have hbl := HU0.out.1
            have hy := List.getElem?_eq_getElem (show mi < bs.length by omega)
            obtain ⟨y, hyl⟩ : ∃ y, bs[mi]'(by omega) = y := ⟨_, rfl⟩
            rw [hyl] at hy
            have HY := Lib.hid hy
            have hyb : y ∈ bs := List.mem_of_getElem? hy
            have i0 : (0 : Int) ≤ mi := by omega
            have i1 : (mi : Int) < nb := by omega
            clear hyl hy hbl
            obtain ⟨⟨l4, e4⟩, s4⟩ : ∃ x, O.size l out k nn bs = x := ⟨_, rfl⟩
            obtain ⟨n4, m4⟩ : ∃ m, l4.length = m := ⟨_, rfl⟩
            have b4 := O.size_len l out k nn bs
            rw [s4] at b4
            dsimp only at b4
            rw [m4] at b4
            have z4 : n4 ≤ 100 := by omega
            clear b4
            have S4 := Lib.hid s4
            have M4 := Lib.hid m4
            obtain ⟨⟨l5, e5⟩, s5⟩ : ∃ x, O.gone l out k bs = x := ⟨_, rfl⟩
            obtain ⟨n5, m5⟩ : ∃ m, l5.length = m := ⟨_, rfl⟩
            have b5 := O.gone_len l out k bs
            rw [s5] at b5
            dsimp only at b5
            rw [m5] at b5
            have z5 : n5 ≤ 100 := by omega
            clear b5
            have S5 := Lib.hid s5
            have M5 := Lib.hid m5
            obtain ⟨r, hr⟩ : ∃ b, O.of l y = b := ⟨_, rfl⟩
            obtain ⟨pg, hpg⟩ : ∃ b, O.gives l y = b := ⟨_, rfl⟩
            have HR := Lib.hid hr
            have HG := Lib.hid hpg
            have f9 : (pg != pg) = false := by simp
            by_cases hw : 0 ≤ r
            · have d6 : decide (0 ≤ r) = true := by simpa using hw
              have h4 := O.size_busy (k := k) (n := nn) hm hyb (by rw [hr]; exact hw)
              have h5 := O.gone_busy (k := k) hm hyb (by rw [hr]; exact hw)
              rw [s4, hpg] at h4
              rw [s5, hpg] at h5
              obtain ⟨r4, hr4⟩ : ∃ b, O.of l4 y = b := ⟨_, rfl⟩
              obtain ⟨r5, hr5⟩ : ∃ b, O.of l5 y = b := ⟨_, rfl⟩
              have R4 := Lib.hid hr4
              have R5 := Lib.hid hr5
              have G4 : Hid (O.gives l4 y = pg) := Lib.hid h4.2
              have G5 : Hid (O.gives l5 y = pg) := Lib.hid h5.2
              have d7 : decide (r4 < 0) = false := by have := h4.1; dsimp only at this; rw [hr4] at this; simpa using this
              have d8 : decide (r5 < 0) = false := by have := h5.1; dsimp only at this; rw [hr5] at this; simpa using this
              clear h4 h5 hr4 hr5 hw
              by_cases h5 : e5 = 0
              · subst h5
                obtain ⟨m, x, rfl, hml, hx, hxs, hlen, hne⟩ := O.gone_was (l := l) (out := out) (k := k) (at' := y) hyb (by rw [s5])
                rw [s5] at hlen
                dsimp only at hlen
                rw [m5] at hlen
                have HX := Lib.hid hx
                have hmn : m < n := by omega
                have m0 : (0 : Int) ≤ m := by omega
                have m1 : (m : Int) < n := by omega
                have q1 : decide ((0 : Int) ≤ m) = true := by simp
                have q2 : decide ((m : Int) < n) = true := by simp; omega
                have q3 : IntKind.i64.wrap ((n : Int) - 1) = (n : Int) - 1 := IntWalk.i64_in _ (by omega)
                have q4 : ((n5 : Int) == (n : Int) - 1) = true := by simp; omega
                have q5 : (x.s == 1) = true := by rw [hxs]; rfl
                have q6 : (r != (m : Int)) = true := by rw [hr] at hne; simpa using hne
                clear hx hxs hlen hne hr hpg hml hyb hm
                clear s4 m4
                clear s5 m5
                go_enter Try.func5, Try.ntmps5
                go_wp2_with fail
                refine (oawake_any w).mono ?_
                rintro e w1 ⟨rfl, hb⟩
                have HTx1 := Lib.hid (HTx0.out.below hb)
                have HU1 := Lib.hid (HU0.out.below hb)
                have HB1 := Lib.hid (HB0.out.trans (hb.mono HB0.out.size))
                clear hb HTx0 HU0 HB0
                go_wp2_with fail
                refine (may_any a n c l out true HM.out w1 HTx1.out (by omega) HZ.out).mono ?_
                rintro e w2 ⟨rfl, hb⟩
                have HTx2 := Lib.hid (HTx1.out.below hb)
                have HU2 := Lib.hid (HU1.out.below hb)
                have HB2 := Lib.hid (HB1.out.trans (hb.mono HB1.out.size))
                clear hb HTx1 HU1 HB1
                obtain ⟨bb, offb, y', rfl, hbb, hyl, u0⟩ := HU2.out.at hmi
                obtain rfl : y = y' := by have := HY.out; rw [hyl] at this; exact (Option.some.inj this).symm
                clear hyl hbb
                go_wp2_with fail
                refine (of_any a n c l y r HR.out w2 HTx2.out (by omega)).mono ?_
                rintro e w3 ⟨rfl, hb⟩
                have HTx3 := Lib.hid (HTx2.out.below hb)
                have HU3 := Lib.hid (HU2.out.below hb)
                have HB3 := Lib.hid (HB2.out.trans (hb.mono HB2.out.size))
                clear hb HTx2 HU2 HB2
                clear u0
                go_wp2_with fail
                refine (gives_any a n c l y pg HG.out w3 HTx3.out (by omega)).mono ?_
                rintro e w4 ⟨rfl, hb⟩
                have HTx4 := Lib.hid (HTx3.out.below hb)
                have HU4 := Lib.hid (HU3.out.below hb)
                have HB4 := Lib.hid (HB3.out.trans (hb.mono HB3.out.size))
                clear hb HTx3 HU3 HB3
                go_wp2_with fail
                refine (size_is a n c l out m nn (some ⟨bb, offb, none⟩) nb cb bs l4 n4 e4 w4 HTx4.out (by omega) HZ.out HU4.out (by omega) S4.out M4.out).mono ?_
                rintro e w5 ⟨a4, c4, rfl, ht4, hb⟩
                have HTx5 := Lib.hid (HTx4.out.below hb)
                have HU5 := Lib.hid (HU4.out.below hb)
                have HB5 := Lib.hid (HB4.out.trans (hb.mono HB4.out.size))
                clear hb HTx4 HU4 HB4
                have HT45 := ht4
                clear ht4
                go_wp2_with fail
                refine (gone_is a n c l out m (some ⟨bb, offb, none⟩) nb cb bs l5 n5 0 w5 HTx5.out (by omega) HZ.out HU5.out (by omega) S5.out M5.out).mono ?_
                rintro e w6 ⟨a5, c5, rfl, ht5, hb⟩
                have HTx6 := Lib.hid (HTx5.out.below hb)
                have HT46 := Lib.hid (HT45.out.below hb)
                have HU6 := Lib.hid (HU5.out.below hb)
                have HB6 := Lib.hid (HB5.out.trans (hb.mono HB5.out.size))
                clear hb HTx5 HT45 HU5 HB5
                have HT56 := ht5
                clear ht5
                go_wp2_with fail
                refine (of_any a4 n4 c4 l4 y r4 R4.out w6 HT46.out (by omega)).mono ?_
                rintro e w7 ⟨rfl, hb⟩
                have HTx7 := Lib.hid (HTx6.out.below hb)
                have HT47 := Lib.hid (HT46.out.below hb)
                have HT57 := Lib.hid (HT56.out.below hb)
                have HU7 := Lib.hid (HU6.out.below hb)
                have HB7 := Lib.hid (HB6.out.trans (hb.mono HB6.out.size))
                clear hb HTx6 HT46 HT56 HU6 HB6
                go_wp2_with fail
                refine (of_any a5 n5 c5 l5 y r5 R5.out w7 HT57.out (by omega)).mono ?_
                rintro e w8 ⟨rfl, hb⟩
                have HTx8 := Lib.hid (HTx7.out.below hb)
                have HT48 := Lib.hid (HT47.out.below hb)
                have HT58 := Lib.hid (HT57.out.below hb)
                have HU8 := Lib.hid (HU7.out.below hb)
                have HB8 := Lib.hid (HB7.out.trans (hb.mono HB7.out.size))
                clear hb HTx7 HT47 HT57 HU7 HB7
                go_wp2_with fail
                refine (gives_any a4 n4 c4 l4 y pg G4.out w8 HT48.out (by omega)).mono ?_
                rintro e w9 ⟨rfl, hb⟩
                have HTx9 := Lib.hid (HTx8.out.below hb)
                have HT49 := Lib.hid (HT48.out.below hb)
                have HT59 := Lib.hid (HT58.out.below hb)
                have HU9 := Lib.hid (HU8.out.below hb)
                have HB9 := Lib.hid (HB8.out.trans (hb.mono HB8.out.size))
                clear hb HTx8 HT48 HT58 HU8 HB8
                go_wp2_with fail
                refine (gives_any a5 n5 c5 l5 y pg G5.out w9 HT59.out (by omega)).mono ?_
                rintro e w10 ⟨rfl, hb⟩
                have HTx10 := Lib.hid (HTx9.out.below hb)
                have HT410 := Lib.hid (HT49.out.below hb)
                have HT510 := Lib.hid (HT59.out.below hb)
                have HU10 := Lib.hid (HU9.out.below hb)
                have HB10 := Lib.hid (HB9.out.trans (hb.mono HB9.out.size))
                clear hb HTx9 HT49 HT59 HU9 HB9
                obtain ⟨bx, ox, x', rfl, hbx, hxl, p0, p1, p2⟩ := HTx10.out.at hmn
                obtain rfl : x = x' := by have := HX.out; rw [hxl] at this; exact (Option.some.inj this).symm
                clear hxl hbx
                go_wp2_with fail
                refine (of_any (some ⟨bx, ox, none⟩) n c l y r HR.out w10 HTx10.out (by omega)).mono ?_
                rintro e w11 ⟨rfl, hb⟩
                have HTx11 := Lib.hid (HTx10.out.below hb)
                have HT411 := Lib.hid (HT410.out.below hb)
                have HT511 := Lib.hid (HT510.out.below hb)
                have HU11 := Lib.hid (HU10.out.below hb)
                have HB11 := Lib.hid (HB10.out.trans (hb.mono HB10.out.size))
                clear hb HTx10 HT410 HT510 HU10 HB10
                go_wp2
                go_ret
                exact ⟨rfl, HB11.out⟩
              · have k5 : (e5 != 0) = true := by simpa using h5
                clear h5 hr hpg hyb hm
                clear s4 m4
                clear s5 m5
                go_enter Try.func5, Try.ntmps5
                go_wp2_with fail
                refine (oawake_any w).mono ?_
                rintro e w1 ⟨rfl, hb⟩
                have HTx1 := Lib.hid (HTx0.out.below hb)
                have HU1 := Lib.hid (HU0.out.below hb)
                have HB1 := Lib.hid (HB0.out.trans (hb.mono HB0.out.size))
                clear hb HTx0 HU0 HB0
                go_wp2_with fail
                refine (may_any a n c l out true HM.out w1 HTx1.out (by omega) HZ.out).mono ?_
                rintro e w2 ⟨rfl, hb⟩
                have HTx2 := Lib.hid (HTx1.out.below hb)
                have HU2 := Lib.hid (HU1.out.below hb)
                have HB2 := Lib.hid (HB1.out.trans (hb.mono HB1.out.size))
                clear hb HTx1 HU1 HB1
                obtain ⟨bb, offb, y', rfl, hbb, hyl, u0⟩ := HU2.out.at hmi
                obtain rfl : y = y' := by have := HY.out; rw [hyl] at this; exact (Option.some.inj this).symm
                clear hyl hbb
                go_wp2_with fail
                refine (of_any a n c l y r HR.out w2 HTx2.out (by omega)).mono ?_
                rintro e w3 ⟨rfl, hb⟩
                have HTx3 := Lib.hid (HTx2.out.below hb)
                have HU3 := Lib.hid (HU2.out.below hb)
                have HB3 := Lib.hid (HB2.out.trans (hb.mono HB2.out.size))
                clear hb HTx2 HU2 HB2
                clear u0
                go_wp2_with fail
                refine (gives_any a n c l y pg HG.out w3 HTx3.out (by omega)).mono ?_
                rintro e w4 ⟨rfl, hb⟩
                have HTx4 := Lib.hid (HTx3.out.below hb)
                have HU4 := Lib.hid (HU3.out.below hb)
                have HB4 := Lib.hid (HB3.out.trans (hb.mono HB3.out.size))
                clear hb HTx3 HU3 HB3
                go_wp2_with fail
                refine (size_is a n c l out k nn (some ⟨bb, offb, none⟩) nb cb bs l4 n4 e4 w4 HTx4.out (by omega) HZ.out HU4.out (by omega) S4.out M4.out).mono ?_
                rintro e w5 ⟨a4, c4, rfl, ht4, hb⟩
                have HTx5 := Lib.hid (HTx4.out.below hb)
                have HU5 := Lib.hid (HU4.out.below hb)
                have HB5 := Lib.hid (HB4.out.trans (hb.mono HB4.out.size))
                clear hb HTx4 HU4 HB4
                have HT45 := ht4
                clear ht4
                go_wp2_with fail
                refine (gone_is a n c l out k (some ⟨bb, offb, none⟩) nb cb bs l5 n5 e5 w5 HTx5.out (by omega) HZ.out HU5.out (by omega) S5.out M5.out).mono ?_
                rintro e w6 ⟨a5, c5, rfl, ht5, hb⟩
                have HTx6 := Lib.hid (HTx5.out.below hb)
                have HT46 := Lib.hid (HT45.out.below hb)
                have HU6 := Lib.hid (HU5.out.below hb)
                have HB6 := Lib.hid (HB5.out.trans (hb.mono HB5.out.size))
                clear hb HTx5 HT45 HU5 HB5
                have HT56 := ht5
                clear ht5
                go_wp2_with fail
                refine (of_any a4 n4 c4 l4 y r4 R4.out w6 HT46.out (by omega)).mono ?_
                rintro e w7 ⟨rfl, hb⟩
                have HTx7 := Lib.hid (HTx6.out.below hb)
                have HT47 := Lib.hid (HT46.out.below hb)
                have HT57 := Lib.hid (HT56.out.below hb)
                have HU7 := Lib.hid (HU6.out.below hb)
                have HB7 := Lib.hid (HB6.out.trans (hb.mono HB6.out.size))
                clear hb HTx6 HT46 HT56 HU6 HB6
                go_wp2_with fail
                refine (of_any a5 n5 c5 l5 y r5 R5.out w7 HT57.out (by omega)).mono ?_
                rintro e w8 ⟨rfl, hb⟩
                have HTx8 := Lib.hid (HTx7.out.below hb)
                have HT48 := Lib.hid (HT47.out.below hb)
                have HT58 := Lib.hid (HT57.out.below hb)
                have HU8 := Lib.hid (HU7.out.below hb)
                have HB8 := Lib.hid (HB7.out.trans (hb.mono HB7.out.size))
                clear hb HTx7 HT47 HT57 HU7 HB7
                go_wp2_with fail
                refine (gives_any a4 n4 c4 l4 y pg G4.out w8 HT48.out (by omega)).mono ?_
                rintro e w9 ⟨rfl, hb⟩
                have HTx9 := Lib.hid (HTx8.out.below hb)
                have HT49 := Lib.hid (HT48.out.below hb)
                have HT59 := Lib.hid (HT58.out.below hb)
                have HU9 := Lib.hid (HU8.out.below hb)
                have HB9 := Lib.hid (HB8.out.trans (hb.mono HB8.out.size))
                clear hb HTx8 HT48 HT58 HU8 HB8
                go_wp2_with fail
                refine (gives_any a5 n5 c5 l5 y pg G5.out w9 HT59.out (by omega)).mono ?_
                rintro e w10 ⟨rfl, hb⟩
                have HTx10 := Lib.hid (HTx9.out.below hb)
                have HT410 := Lib.hid (HT49.out.below hb)
                have HT510 := Lib.hid (HT59.out.below hb)
                have HU10 := Lib.hid (HU9.out.below hb)
                have HB10 := Lib.hid (HB9.out.trans (hb.mono HB9.out.size))
                clear hb HTx9 HT49 HT59 HU9 HB9
                go_wp2
                go_ret
                exact ⟨rfl, HB10.out⟩
            · have d6 : decide (0 ≤ r) = false := by simpa using hw
              clear hw
              by_cases h5 : e5 = 0
              · subst h5
                obtain ⟨m, x, rfl, hml, hx, hxs, hlen, hne⟩ := O.gone_was (l := l) (out := out) (k := k) (at' := y) hyb (by rw [s5])
                rw [s5] at hlen
                dsimp only at hlen
                rw [m5] at hlen
                have HX := Lib.hid hx
                have hmn : m < n := by omega
                have m0 : (0 : Int) ≤ m := by omega
                have m1 : (m : Int) < n := by omega
                have q1 : decide ((0 : Int) ≤ m) = true := by simp
                have q2 : decide ((m : Int) < n) = true := by simp; omega
                have q3 : IntKind.i64.wrap ((n : Int) - 1) = (n : Int) - 1 := IntWalk.i64_in _ (by omega)
                have q4 : ((n5 : Int) == (n : Int) - 1) = true := by simp; omega
                have q5 : (x.s == 1) = true := by rw [hxs]; rfl
                have q6 : (r != (m : Int)) = true := by rw [hr] at hne; simpa using hne
                clear hx hxs hlen hne hr hpg hml hyb hm
                clear s4 m4
                clear s5 m5
                go_enter Try.func5, Try.ntmps5
                go_wp2_with fail
                refine (oawake_any w).mono ?_
                rintro e w1 ⟨rfl, hb⟩
                have HTx1 := Lib.hid (HTx0.out.below hb)
                have HU1 := Lib.hid (HU0.out.below hb)
                have HB1 := Lib.hid (HB0.out.trans (hb.mono HB0.out.size))
                clear hb HTx0 HU0 HB0
                go_wp2_with fail
                refine (may_any a n c l out true HM.out w1 HTx1.out (by omega) HZ.out).mono ?_
                rintro e w2 ⟨rfl, hb⟩
                have HTx2 := Lib.hid (HTx1.out.below hb)
                have HU2 := Lib.hid (HU1.out.below hb)
                have HB2 := Lib.hid (HB1.out.trans (hb.mono HB1.out.size))
                clear hb HTx1 HU1 HB1
                obtain ⟨bb, offb, y', rfl, hbb, hyl, u0⟩ := HU2.out.at hmi
                obtain rfl : y = y' := by have := HY.out; rw [hyl] at this; exact (Option.some.inj this).symm
                clear hyl hbb
                go_wp2_with fail
                refine (of_any a n c l y r HR.out w2 HTx2.out (by omega)).mono ?_
                rintro e w3 ⟨rfl, hb⟩
                have HTx3 := Lib.hid (HTx2.out.below hb)
                have HU3 := Lib.hid (HU2.out.below hb)
                have HB3 := Lib.hid (HB2.out.trans (hb.mono HB2.out.size))
                clear hb HTx2 HU2 HB2
                clear u0
                go_wp2_with fail
                refine (gives_any a n c l y pg HG.out w3 HTx3.out (by omega)).mono ?_
                rintro e w4 ⟨rfl, hb⟩
                have HTx4 := Lib.hid (HTx3.out.below hb)
                have HU4 := Lib.hid (HU3.out.below hb)
                have HB4 := Lib.hid (HB3.out.trans (hb.mono HB3.out.size))
                clear hb HTx3 HU3 HB3
                go_wp2_with fail
                refine (size_is a n c l out m nn (some ⟨bb, offb, none⟩) nb cb bs l4 n4 e4 w4 HTx4.out (by omega) HZ.out HU4.out (by omega) S4.out M4.out).mono ?_
                rintro e w5 ⟨a4, c4, rfl, ht4, hb⟩
                have HTx5 := Lib.hid (HTx4.out.below hb)
                have HU5 := Lib.hid (HU4.out.below hb)
                have HB5 := Lib.hid (HB4.out.trans (hb.mono HB4.out.size))
                clear hb HTx4 HU4 HB4
                have HT45 := ht4
                clear ht4
                go_wp2_with fail
                refine (gone_is a n c l out m (some ⟨bb, offb, none⟩) nb cb bs l5 n5 0 w5 HTx5.out (by omega) HZ.out HU5.out (by omega) S5.out M5.out).mono ?_
                rintro e w6 ⟨a5, c5, rfl, ht5, hb⟩
                have HTx6 := Lib.hid (HTx5.out.below hb)
                have HT46 := Lib.hid (HT45.out.below hb)
                have HU6 := Lib.hid (HU5.out.below hb)
                have HB6 := Lib.hid (HB5.out.trans (hb.mono HB5.out.size))
                clear hb HTx5 HT45 HU5 HB5
                have HT56 := ht5
                clear ht5
                obtain ⟨bx, ox, x', rfl, hbx, hxl, p0, p1, p2⟩ := HTx6.out.at hmn
                obtain rfl : x = x' := by have := HX.out; rw [hxl] at this; exact (Option.some.inj this).symm
                clear hxl hbx
                go_wp2_with fail
                refine (of_any (some ⟨bx, ox, none⟩) n c l y r HR.out w6 HTx6.out (by omega)).mono ?_
                rintro e w7 ⟨rfl, hb⟩
                have HTx7 := Lib.hid (HTx6.out.below hb)
                have HT47 := Lib.hid (HT46.out.below hb)
                have HT57 := Lib.hid (HT56.out.below hb)
                have HU7 := Lib.hid (HU6.out.below hb)
                have HB7 := Lib.hid (HB6.out.trans (hb.mono HB6.out.size))
                clear hb HTx6 HT46 HT56 HU6 HB6
                go_wp2
                go_ret
                exact ⟨rfl, HB7.out⟩
              · have k5 : (e5 != 0) = true := by simpa using h5
                clear h5 hr hpg hyb hm
                clear s4 m4
                clear s5 m5
                go_enter Try.func5, Try.ntmps5
                go_wp2_with fail
                refine (oawake_any w).mono ?_
                rintro e w1 ⟨rfl, hb⟩
                have HTx1 := Lib.hid (HTx0.out.below hb)
                have HU1 := Lib.hid (HU0.out.below hb)
                have HB1 := Lib.hid (HB0.out.trans (hb.mono HB0.out.size))
                clear hb HTx0 HU0 HB0
                go_wp2_with fail
                refine (may_any a n c l out true HM.out w1 HTx1.out (by omega) HZ.out).mono ?_
                rintro e w2 ⟨rfl, hb⟩
                have HTx2 := Lib.hid (HTx1.out.below hb)
                have HU2 := Lib.hid (HU1.out.below hb)
                have HB2 := Lib.hid (HB1.out.trans (hb.mono HB1.out.size))
                clear hb HTx1 HU1 HB1
                obtain ⟨bb, offb, y', rfl, hbb, hyl, u0⟩ := HU2.out.at hmi
                obtain rfl : y = y' := by have := HY.out; rw [hyl] at this; exact (Option.some.inj this).symm
                clear hyl hbb
                go_wp2_with fail
                refine (of_any a n c l y r HR.out w2 HTx2.out (by omega)).mono ?_
                rintro e w3 ⟨rfl, hb⟩
                have HTx3 := Lib.hid (HTx2.out.below hb)
                have HU3 := Lib.hid (HU2.out.below hb)
                have HB3 := Lib.hid (HB2.out.trans (hb.mono HB2.out.size))
                clear hb HTx2 HU2 HB2
                clear u0
                go_wp2_with fail
                refine (gives_any a n c l y pg HG.out w3 HTx3.out (by omega)).mono ?_
                rintro e w4 ⟨rfl, hb⟩
                have HTx4 := Lib.hid (HTx3.out.below hb)
                have HU4 := Lib.hid (HU3.out.below hb)
                have HB4 := Lib.hid (HB3.out.trans (hb.mono HB3.out.size))
                clear hb HTx3 HU3 HB3
                go_wp2_with fail
                refine (size_is a n c l out k nn (some ⟨bb, offb, none⟩) nb cb bs l4 n4 e4 w4 HTx4.out (by omega) HZ.out HU4.out (by omega) S4.out M4.out).mono ?_
                rintro e w5 ⟨a4, c4, rfl, ht4, hb⟩
                have HTx5 := Lib.hid (HTx4.out.below hb)
                have HU5 := Lib.hid (HU4.out.below hb)
                have HB5 := Lib.hid (HB4.out.trans (hb.mono HB4.out.size))
                clear hb HTx4 HU4 HB4
                have HT45 := ht4
                clear ht4
                go_wp2_with fail
                refine (gone_is a n c l out k (some ⟨bb, offb, none⟩) nb cb bs l5 n5 e5 w5 HTx5.out (by omega) HZ.out HU5.out (by omega) S5.out M5.out).mono ?_
                rintro e w6 ⟨a5, c5, rfl, ht5, hb⟩
                have HTx6 := Lib.hid (HTx5.out.below hb)
                have HT46 := Lib.hid (HT45.out.below hb)
                have HU6 := Lib.hid (HU5.out.below hb)
                have HB6 := Lib.hid (HB5.out.trans (hb.mono HB5.out.size))
                clear hb HTx5 HT45 HU5 HB5
                have HT56 := ht5
                clear ht5
                go_wp2
                go_ret
                exact ⟨rfl, HB6.out⟩
    · have g3 : decide ((40 : Int) < (nb : Int)) = true := by simp; omega
      go_enter Try.func5, Try.ntmps5
      go_wp2_with fail
      refine (oawake_any w).mono ?_
      rintro e w1 ⟨rfl, hb⟩
      have HTx1 := Lib.hid (HTx0.out.below hb)
      have HU1 := Lib.hid (HU0.out.below hb)
      have HB1 := Lib.hid (HB0.out.trans (hb.mono HB0.out.size))
      clear hb HTx0 HU0 HB0
      go_wp2
      go_ret
      exact ⟨rfl, HB1.out⟩
  · have g1 : decide ((6 : Int) < (n : Int)) = true := by simp; omega
    go_enter Try.func5, Try.ntmps5
    go_wp2_with fail
    refine (oawake_any w).mono ?_
    rintro e w1 ⟨rfl, hb⟩
    have HTx1 := Lib.hid (HTx0.out.below hb)
    have HU1 := Lib.hid (HU0.out.below hb)
    have HB1 := Lib.hid (HB0.out.trans (hb.mono HB0.out.size))
    clear hb HTx0 HU0 HB0
    go_wp2
    go_ret
    exact ⟨rfl, HB1.out⟩
end Go.Proofs.Ytejckbnapcdhpaa
