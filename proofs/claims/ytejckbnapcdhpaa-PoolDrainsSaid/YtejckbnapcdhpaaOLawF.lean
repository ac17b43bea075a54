/-
  PoolDrains, at every list, numbers and busy addresses.
-/
import Derived.Test.YtejckbnapcdhpaaOLaws
namespace Go.Proofs.Ytejckbnapcdhpaa
open Go.RowKit

set_option maxRecDepth 100000 in
set_option maxHeartbeats 1500000 in
theorem PoolDrains_in (a : Option Addr) (n c : Nat) (l : List O.Pl) (out k nn : Int) (ab : Option Addr) (nb cb : Nat) (bs : List Int) (at' : Int) (w : World) (h : QIn w a n c l) (hz : O.Sm l) (hu : BIn w ab nb cb bs) :
    Calls Try.prog 8 #[.slice a n c, .int .i64 out, .int .i64 k, .int .i64 nn, .slice ab nb cb, .int .i64 at'] w fun e w' => e = .returned (.bool true) ∧ Below w.heap.size w w' := by
  have HB0 := Lib.hid (Below.refl w.heap.size w)
  have HTx0 := Lib.hid h
  have hl := h.1
  have HU0 := Lib.hid hu
  have HZ := Lib.hid hz
  clear hz
  clear h hu
  by_cases hn : n ≤ 6
  · have g1 : decide ((6 : Int) < (n : Int)) = false := by simp; omega
    by_cases hnb : nb ≤ 40
    · have g3 : decide ((40 : Int) < (nb : Int)) = false := by simp; omega
      obtain ⟨⟨l3, e3⟩, s3⟩ : ∃ x, O.drain l out k = x := ⟨_, rfl⟩
      have hz3 : O.Sm l3 := by have := O.drain_sm out k HZ.out; rw [s3] at this; exact this
      have Hz3 := Lib.hid hz3
      have S3 := Lib.hid s3
      have hl3 : l3.length = n := by have := O.drain_len l out k; rw [s3] at this; rw [← hl]; exact this
      have M3 := Lib.hid hl3
      by_cases he : e3 = 0
      · subst he
        obtain ⟨m, l3', l4, e4, y, rfl, hml, ha, hal, hs4, hl4, hy, hys, h5, hg, h6⟩ := O.drain_was (l := l) (out := out) (k := k) (n := nn) (at' := at') (busy := bs) (by rw [s3])
        obtain rfl : l3 = l3' := by rw [s3] at ha; exact ha
        have S4 := Lib.hid hs4
        have M4 : Hid (l4.length = n) := Lib.hid (by rw [hl4, hl])
        have HY := Lib.hid hy
        have hmn : m < n := by omega
        have m0 : (0 : Int) ≤ m := by omega
        have m1 : (m : Int) < n := by omega
        have q1 : decide ((m : Int) < 0) = false := by simp
        have q2 : decide ((n : Int) ≤ m) = false := by simp; omega
        have q3 : (y.s != 1) = false := by rw [hys]; rfl
        obtain ⟨⟨l5, e5⟩, s5⟩ : ∃ x, O.drain l3 out m = x := ⟨_, rfl⟩
        obtain rfl : (11 : Int) = e5 := by rw [s5] at h5; exact h5.symm
        have S5 := Lib.hid s5
        obtain ⟨n5, m5⟩ : ∃ m, l5.length = m := ⟨_, rfl⟩
        have M5 := Lib.hid m5
        obtain ⟨⟨l6, e6⟩, s6⟩ : ∃ x, O.gone l out m bs = x := ⟨_, rfl⟩
        obtain rfl : (12 : Int) = e6 := by rw [s6] at h6; exact h6.symm
        have S6 := Lib.hid s6
        obtain ⟨n6, m6⟩ : ∃ m, l6.length = m := ⟨_, rfl⟩
        have M6 := Lib.hid m6
        obtain ⟨r, hr⟩ : ∃ b, O.of l4 at' = b := ⟨_, rfl⟩
        have HR := Lib.hid hr
        rw [hr] at hg
        clear ha hal hs4 hl4 hy hys h5 h6 s3 s5 m5 s6 m6 hr hz3 hl3 hl hml
        by_cases hrm : r = m
        · have q4 : (r == (m : Int)) = true := by simpa using hrm
          have HG := Lib.hid (hg hrm)
          clear hg hrm
          go_enter Try.func8, Try.ntmps8
          go_wp2_with fail
          refine (oawake_any w).mono ?_
          rintro e w1 ⟨rfl, hb⟩
          have HTx1 := Lib.hid (HTx0.out.below hb)
          have HU1 := Lib.hid (HU0.out.below hb)
          have HB1 := Lib.hid (HB0.out.trans (hb.mono HB0.out.size))
          clear hb HTx0 HU0 HB0
          go_wp2_with fail
          refine (drain_is a n c l out m l3 n 0 w1 HTx1.out (by omega) HZ.out S3.out M3.out).mono ?_
          rintro e w2 ⟨a3, c3, rfl, ht3, hb⟩
          have HTx2 := Lib.hid (HTx1.out.below hb)
          have HU2 := Lib.hid (HU1.out.below hb)
          have HB2 := Lib.hid (HB1.out.trans (hb.mono HB1.out.size))
          clear hb HTx1 HU1 HB1
          have HT32 := ht3
          clear ht3
          go_wp2_with fail
          refine (size_is a3 n c3 l3 out m nn ab nb cb bs l4 n e4 w2 HT32.out (by omega) Hz3.out HU2.out (by omega) S4.out M4.out).mono ?_
          rintro e w3 ⟨a4, c4, rfl, ht4, hb⟩
          have HTx3 := Lib.hid (HTx2.out.below hb)
          have HT33 := Lib.hid (HT32.out.below hb)
          have HU3 := Lib.hid (HU2.out.below hb)
          have HB3 := Lib.hid (HB2.out.trans (hb.mono HB2.out.size))
          clear hb HTx2 HT32 HU2 HB2
          have HT43 := ht4
          clear ht4
          go_wp2_with fail
          refine (drain_is a3 n c3 l3 out m l5 n5 11 w3 HT33.out (by omega) Hz3.out S5.out M5.out).mono ?_
          rintro e w4 ⟨a5, c5, rfl, ht5, hb⟩
          have HTx4 := Lib.hid (HTx3.out.below hb)
          have HT34 := Lib.hid (HT33.out.below hb)
          have HT44 := Lib.hid (HT43.out.below hb)
          have HU4 := Lib.hid (HU3.out.below hb)
          have HB4 := Lib.hid (HB3.out.trans (hb.mono HB3.out.size))
          clear hb HTx3 HT33 HT43 HU3 HB3
          have HT54 := ht5
          clear ht5
          obtain ⟨bx, ox, x', rfl, hbx, hxl, p0, p1, p2⟩ := HT44.out.at hmn
          obtain rfl : y = x' := by have := HY.out; rw [hxl] at this; exact (Option.some.inj this).symm
          clear hxl hbx
          go_wp2_with fail
          refine (of_any (some ⟨bx, ox, none⟩) n c4 l4 at' r HR.out w4 HT44.out (by omega)).mono ?_
          rintro e w5 ⟨rfl, hb⟩
          have HTx5 := Lib.hid (HTx4.out.below hb)
          have HT35 := Lib.hid (HT34.out.below hb)
          have HT45 := Lib.hid (HT44.out.below hb)
          have HT55 := Lib.hid (HT54.out.below hb)
          have HU5 := Lib.hid (HU4.out.below hb)
          have HB5 := Lib.hid (HB4.out.trans (hb.mono HB4.out.size))
          clear hb HTx4 HT34 HT44 HT54 HU4 HB4
          clear p0 p1 p2
          go_wp2_with fail
          refine (gives_any (some ⟨bx, ox, none⟩) n c4 l4 at' false HG.out w5 HT45.out (by omega)).mono ?_
          rintro e w6 ⟨rfl, hb⟩
          have HTx6 := Lib.hid (HTx5.out.below hb)
          have HT36 := Lib.hid (HT35.out.below hb)
          have HT46 := Lib.hid (HT45.out.below hb)
          have HT56 := Lib.hid (HT55.out.below hb)
          have HU6 := Lib.hid (HU5.out.below hb)
          have HB6 := Lib.hid (HB5.out.trans (hb.mono HB5.out.size))
          clear hb HTx5 HT35 HT45 HT55 HU5 HB5
          go_wp2_with fail
          refine (gone_is a n c l out m ab nb cb bs l6 n6 12 w6 HTx6.out (by omega) HZ.out HU6.out (by omega) S6.out M6.out).mono ?_
          rintro e w7 ⟨a6, c6, rfl, ht6, hb⟩
          have HTx7 := Lib.hid (HTx6.out.below hb)
          have HT37 := Lib.hid (HT36.out.below hb)
          have HT47 := Lib.hid (HT46.out.below hb)
          have HT57 := Lib.hid (HT56.out.below hb)
          have HU7 := Lib.hid (HU6.out.below hb)
          have HB7 := Lib.hid (HB6.out.trans (hb.mono HB6.out.size))
          clear hb HTx6 HT36 HT46 HT56 HU6 HB6
          have HT67 := ht6
          clear ht6
          go_wp2
          go_ret
          exact ⟨rfl, HB7.out⟩
        · have q4 : (r == (m : Int)) = false := by simpa using hrm
          clear hg hrm
          go_enter Try.func8, Try.ntmps8
          go_wp2_with fail
          refine (oawake_any w).mono ?_
          rintro e w1 ⟨rfl, hb⟩
          have HTx1 := Lib.hid (HTx0.out.below hb)
          have HU1 := Lib.hid (HU0.out.below hb)
          have HB1 := Lib.hid (HB0.out.trans (hb.mono HB0.out.size))
          clear hb HTx0 HU0 HB0
          go_wp2_with fail
          refine (drain_is a n c l out m l3 n 0 w1 HTx1.out (by omega) HZ.out S3.out M3.out).mono ?_
          rintro e w2 ⟨a3, c3, rfl, ht3, hb⟩
          have HTx2 := Lib.hid (HTx1.out.below hb)
          have HU2 := Lib.hid (HU1.out.below hb)
          have HB2 := Lib.hid (HB1.out.trans (hb.mono HB1.out.size))
          clear hb HTx1 HU1 HB1
          have HT32 := ht3
          clear ht3
          go_wp2_with fail
          refine (size_is a3 n c3 l3 out m nn ab nb cb bs l4 n e4 w2 HT32.out (by omega) Hz3.out HU2.out (by omega) S4.out M4.out).mono ?_
          rintro e w3 ⟨a4, c4, rfl, ht4, hb⟩
          have HTx3 := Lib.hid (HTx2.out.below hb)
          have HT33 := Lib.hid (HT32.out.below hb)
          have HU3 := Lib.hid (HU2.out.below hb)
          have HB3 := Lib.hid (HB2.out.trans (hb.mono HB2.out.size))
          clear hb HTx2 HT32 HU2 HB2
          have HT43 := ht4
          clear ht4
          go_wp2_with fail
          refine (drain_is a3 n c3 l3 out m l5 n5 11 w3 HT33.out (by omega) Hz3.out S5.out M5.out).mono ?_
          rintro e w4 ⟨a5, c5, rfl, ht5, hb⟩
          have HTx4 := Lib.hid (HTx3.out.below hb)
          have HT34 := Lib.hid (HT33.out.below hb)
          have HT44 := Lib.hid (HT43.out.below hb)
          have HU4 := Lib.hid (HU3.out.below hb)
          have HB4 := Lib.hid (HB3.out.trans (hb.mono HB3.out.size))
          clear hb HTx3 HT33 HT43 HU3 HB3
          have HT54 := ht5
          clear ht5
          obtain ⟨bx, ox, x', rfl, hbx, hxl, p0, p1, p2⟩ := HT44.out.at hmn
          obtain rfl : y = x' := by have := HY.out; rw [hxl] at this; exact (Option.some.inj this).symm
          clear hxl hbx
          go_wp2_with fail
          refine (of_any (some ⟨bx, ox, none⟩) n c4 l4 at' r HR.out w4 HT44.out (by omega)).mono ?_
          rintro e w5 ⟨rfl, hb⟩
          have HTx5 := Lib.hid (HTx4.out.below hb)
          have HT35 := Lib.hid (HT34.out.below hb)
          have HT45 := Lib.hid (HT44.out.below hb)
          have HT55 := Lib.hid (HT54.out.below hb)
          have HU5 := Lib.hid (HU4.out.below hb)
          have HB5 := Lib.hid (HB4.out.trans (hb.mono HB4.out.size))
          clear hb HTx4 HT34 HT44 HT54 HU4 HB4
          clear p0 p1 p2
          go_wp2_with fail
          refine (gone_is a n c l out m ab nb cb bs l6 n6 12 w5 HTx5.out (by omega) HZ.out HU5.out (by omega) S6.out M6.out).mono ?_
          rintro e w6 ⟨a6, c6, rfl, ht6, hb⟩
          have HTx6 := Lib.hid (HTx5.out.below hb)
          have HT36 := Lib.hid (HT35.out.below hb)
          have HT46 := Lib.hid (HT45.out.below hb)
          have HT56 := Lib.hid (HT55.out.below hb)
          have HU6 := Lib.hid (HU5.out.below hb)
          have HB6 := Lib.hid (HB5.out.trans (hb.mono HB5.out.size))
          clear hb HTx5 HT35 HT45 HT55 HU5 HB5
          have HT66 := ht6
          clear ht6
          go_wp2
          go_ret
          exact ⟨rfl, HB6.out⟩
      · have k2 : (e3 != 0) = true := by simpa using he
        have hl2 : l3 = l := by
          rcases O.drain_cases l out k with ⟨e, h, _⟩ | ⟨m, x, _, _, _, _, h, _⟩ <;> rw [s3] at h
          · exact (Prod.mk.inj h).1
          · exact absurd (Prod.mk.inj h).2 he
        have HL2 := Lib.hid hl2
        clear hl2 he s3 hz3 hl3
        go_enter Try.func8, Try.ntmps8
        go_wp2_with fail
        refine (oawake_any w).mono ?_
        rintro e w1 ⟨rfl, hb⟩
        have HTx1 := Lib.hid (HTx0.out.below hb)
        have HU1 := Lib.hid (HU0.out.below hb)
        have HB1 := Lib.hid (HB0.out.trans (hb.mono HB0.out.size))
        clear hb HTx0 HU0 HB0
        go_wp2_with fail
        refine (drain_is a n c l out k l3 n e3 w1 HTx1.out (by omega) HZ.out S3.out M3.out).mono ?_
        rintro e w2 ⟨a3, c3, rfl, ht3, hb⟩
        have HTx2 := Lib.hid (HTx1.out.below hb)
        have HU2 := Lib.hid (HU1.out.below hb)
        have HB2 := Lib.hid (HB1.out.trans (hb.mono HB1.out.size))
        clear hb HTx1 HU1 HB1
        have HT32 := ht3
        clear ht3
        go_wp2_with fail
        refine (sameO_any a3 a n n c3 c l3 l w2 HT32.out HTx2.out (by omega) true (by rw [HL2.out]; simp)).mono ?_
        rintro e w3 ⟨rfl, hb⟩
        have HTx3 := Lib.hid (HTx2.out.below hb)
        have HT33 := Lib.hid (HT32.out.below hb)
        have HU3 := Lib.hid (HU2.out.below hb)
        have HB3 := Lib.hid (HB2.out.trans (hb.mono HB2.out.size))
        clear hb HTx2 HT32 HU2 HB2
        go_wp2
        go_ret
        exact ⟨rfl, HB3.out⟩
    · have g3 : decide ((40 : Int) < (nb : Int)) = true := by simp; omega
      go_enter Try.func8, Try.ntmps8
      go_wp2_with fail
      refine (oawake_any w).mono ?_
      rintro e w1 ⟨rfl, hb⟩
      have HTx1 := Lib.hid (HTx0.out.below hb)
      have HU1 := Lib.hid (HU0.out.below hb)
      have HB1 := Lib.hid (HB0.out.trans (hb.mono HB0.out.size))
      clear hb HTx0 HU0 HB0
      go_wp2
      go_ret
      exact ⟨rfl, HB1.out⟩
  · have g1 : decide ((6 : Int) < (n : Int)) = true := by simp; omega
    go_enter Try.func8, Try.ntmps8
    go_wp2_with fail
    refine (oawake_any w).mono ?_
    rintro e w1 ⟨rfl, hb⟩
    have HTx1 := Lib.hid (HTx0.out.below hb)
    have HU1 := Lib.hid (HU0.out.below hb)
    have HB1 := Lib.hid (HB0.out.trans (hb.mono HB0.out.size))
    clear hb HTx0 HU0 HB0
    go_wp2
    go_ret
    exact ⟨rfl, HB1.out⟩
end Go.Proofs.Ytejckbnapcdhpaa
