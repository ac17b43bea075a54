/-
  PoolSizes, at every list and numbers.
-/
import Derived.Test.YtejckbnapcdhpaaOLaws
namespace Go.Proofs.Ytejckbnapcdhpaa
open Go.RowKit

set_option maxRecDepth 100000 in
set_option maxHeartbeats 1500000 in
theorem PoolSizes_in (a : Option Addr) (n c : Nat) (l : List O.Pl) (out k nn : Int) (w : World) (h : QIn w a n c l) (hz : O.Sm l) :
    Calls Try.prog 9 #[.slice a n c, .int .i64 out, .int .i64 k, .int .i64 nn] w fun e w' => e = .returned (.bool true) ∧ Below w.heap.size w w' := by
  have HB0 := Lib.hid (Below.refl w.heap.size w)
  have HTx0 := Lib.hid h
  have hl := h.1
  have HZ := Lib.hid hz
  clear hz h
  by_cases hn : n ≤ 6
  · have g1 : decide ((6 : Int) < (n : Int)) = false := by simp; omega
    obtain ⟨⟨l2, e2⟩, s2⟩ : ∃ x, O.size l out k nn [] = x := ⟨_, rfl⟩
    have hz2 : O.Sm l2 := by have := O.size_sm out k nn [] HZ.out; rw [s2] at this; exact this
    have Hz2 := Lib.hid hz2
    have S2 := Lib.hid s2
    have hl2 : l2.length = n := by have := O.size_len l out k nn []; rw [s2] at this; rw [← hl]; exact this
    have M2 := Lib.hid hl2
    by_cases he : e2 = 0
    · subst he
      obtain ⟨m, ⟨xf, xn, xs⟩, rfl, hml, hx, hs, hback⟩ := O.size_was (l := l) (out := out) (k := k) (n := nn) (by rw [s2])
      rw [s2] at hs
      dsimp only at hs hback
      rw [← hs] at hback
      have HX := Lib.hid hx
      have hmn : m < n := by omega
      have hy : l2[m]? = some ⟨xf, nn, xs⟩ := by rw [hs]; simp [hml]
      have HY := Lib.hid hy
      have S3 := Lib.hid hback
      have M3 := Lib.hid hl
      have m0 : (0 : Int) ≤ m := by omega
      have m1 : (m : Int) < n := by omega
      have q1 : decide ((m : Int) < 0) = false := by simp
      have q2 : decide ((n : Int) ≤ m) = false := by simp; omega
      have q7 : decide (n ≤ m) = false := by simp; omega
      have q3 : ((n : Int) != n) = false := by simp
      have q4 : (xf != xf) = false := by simp
      have q5 : (nn != nn) = false := by simp
      have q6 : (xs != xs) = false := by simp
      clear hs hback hx hy hl2 hz2 s2 hl hml
      go_enter Try.func9, Try.ntmps9
      go_wp2_with fail
      refine (oawake_any w).mono ?_
      rintro e w1 ⟨rfl, hb⟩
      have HTx1 := Lib.hid (HTx0.out.below hb)
      have HB1 := Lib.hid (HB0.out.trans (hb.mono HB0.out.size))
      clear hb HTx0 HB0
      go_wp2_with fail
      refine (size_is a n c l out m nn none 0 0 [] l2 n 0 w1 HTx1.out (by omega) HZ.out (BIn.nil _) (by omega) S2.out M2.out).mono ?_
      rintro e w2 ⟨a2, c2, rfl, ht2, hb⟩
      have HTx2 := Lib.hid (HTx1.out.below hb)
      have HB2 := Lib.hid (HB1.out.trans (hb.mono HB1.out.size))
      clear hb HTx1 HB1
      have HT22 := ht2
      clear ht2
      obtain ⟨bx, ox, ⟨x0, x1, x2⟩, rfl, hbx, hxl, p0, p1, p2⟩ := HTx2.out.at hmn
      cases (Option.some.inj ((hxl.symm.trans HX.out)))
      obtain ⟨by', oy, ⟨y0, y1, y2⟩, rfl, hby, hyl, r0, r1, r2⟩ := HT22.out.at hmn
      cases (Option.some.inj ((hyl.symm.trans HY.out)))
      dsimp only at p0 p1 p2 r0 r1 r2
      clear hxl hyl hbx hby
      have cp0 := fun d os => cell_regrown p0 d os
      have cp1 := fun d os => cell_regrown p1 d os
      have cp2 := fun d os => cell_regrown p2 d os
      have cr0 := fun d os => cell_regrown r0 d os
      have cr1 := fun d os => cell_regrown r1 d os
      have cr2 := fun d os => cell_regrown r2 d os
      go_wp2_with fail
      refine wp_region_quiet_below (by kernel_rfl) (by kernel_rfl) ?_
      repeat (go_big_quiet_step (fail))
      refine wpQuiet_nil ?_
      intro _ hw'
      obtain ⟨⟨dq, osq⟩, hw''⟩ := hw'
      subst hw''
      clear cp0 cp1 cp2 cr0 cr1 cr2
      obtain ⟨W3, hW3⟩ : ∃ W3, Go.Sort.grow (redrawn w2 dq) osq = W3 := ⟨_, rfl⟩
      have hb : Below w2.heap.size w2 W3 := by rw [← hW3]; exact below_regrown _ _ _
      have cb0 : W3.cell? ⟨bx, ox + m * 3 + 1, none⟩ = some (.int .i64 xn) := by rw [← hW3]; exact cell_regrown p1 _ _
      rw [hW3]
      have HTx3 := Lib.hid (HTx2.out.below hb)
      have HT23 := Lib.hid (HT22.out.below hb)
      have HB3 := Lib.hid (HB2.out.trans (hb.mono HB2.out.size))
      clear hb HTx2 HT22 HB2 hW3 p0 p1 p2 r0 r1 r2
      go_wp2_with fail
      refine (size_is (some ⟨by', oy, none⟩) n c2 l2 out m xn none 0 0 [] l n 0 W3 HT23.out (by omega) Hz2.out (BIn.nil _) (by omega) S3.out M3.out).mono ?_
      rintro e w4 ⟨a3, c3, rfl, ht3, hb⟩
      have HTx4 := Lib.hid (HTx3.out.below hb)
      have HT24 := Lib.hid (HT23.out.below hb)
      have HB4 := Lib.hid (HB3.out.trans (hb.mono HB3.out.size))
      clear hb HTx3 HT23 HB3
      have HT34 := ht3
      clear ht3
      clear cb0
      go_wp2_with fail
      refine (sameO_any a3 (some ⟨bx, ox, none⟩) n n c3 c l l w4 HT34.out HTx4.out (by omega) true (by simp)).mono ?_
      rintro e w5 ⟨rfl, hb⟩
      have HTx5 := Lib.hid (HTx4.out.below hb)
      have HT25 := Lib.hid (HT24.out.below hb)
      have HT35 := Lib.hid (HT34.out.below hb)
      have HB5 := Lib.hid (HB4.out.trans (hb.mono HB4.out.size))
      clear hb HTx4 HT24 HT34 HB4
      go_wp2
      go_ret
      exact ⟨rfl, HB5.out⟩
    · have hs : l2 = l := by
        rcases O.size_cases l out k nn [] with ⟨e, h1, h2⟩ | ⟨m, x, rfl, hml, hx, h1, _⟩
        · rw [s2] at h1; exact (Prod.mk.inj h1).1
        · rw [s2] at h1; exact absurd (Prod.mk.inj h1).2 he
      have HS := Lib.hid hs
      have q1 : (e2 != 0) = true := by simpa using he
      clear hs he hl2 hz2 s2 hl
      go_enter Try.func9, Try.ntmps9
      go_wp2_with fail
      refine (oawake_any w).mono ?_
      rintro e w1 ⟨rfl, hb⟩
      have HTx1 := Lib.hid (HTx0.out.below hb)
      have HB1 := Lib.hid (HB0.out.trans (hb.mono HB0.out.size))
      clear hb HTx0 HB0
      go_wp2_with fail
      refine (size_is a n c l out k nn none 0 0 [] l2 n e2 w1 HTx1.out (by omega) HZ.out (BIn.nil _) (by omega) S2.out M2.out).mono ?_
      rintro e w2 ⟨a2, c2, rfl, ht2, hb⟩
      have HTx2 := Lib.hid (HTx1.out.below hb)
      have HB2 := Lib.hid (HB1.out.trans (hb.mono HB1.out.size))
      clear hb HTx1 HB1
      have HT22 := ht2
      clear ht2
      go_wp2_with fail
      refine (sameO_any a2 a n n c2 c l2 l w2 HT22.out HTx2.out (by omega) true (by rw [HS.out]; simp)).mono ?_
      rintro e w3 ⟨rfl, hb⟩
      have HTx3 := Lib.hid (HTx2.out.below hb)
      have HT23 := Lib.hid (HT22.out.below hb)
      have HB3 := Lib.hid (HB2.out.trans (hb.mono HB2.out.size))
      clear hb HTx2 HT22 HB2
      go_wp2
      go_ret
      exact ⟨rfl, HB3.out⟩
  · have g1 : decide ((6 : Int) < (n : Int)) = true := by simp; omega
    go_enter Try.func9, Try.ntmps9
    go_wp2_with fail
    refine (oawake_any w).mono ?_
    rintro e w1 ⟨rfl, hb⟩
    have HTx1 := Lib.hid (HTx0.out.below hb)
    have HB1 := Lib.hid (HB0.out.trans (hb.mono HB0.out.size))
    clear hb HTx0 HB0
    go_wp2
    go_ret
    exact ⟨rfl, HB1.out⟩
end Go.Proofs.Ytejckbnapcdhpaa
