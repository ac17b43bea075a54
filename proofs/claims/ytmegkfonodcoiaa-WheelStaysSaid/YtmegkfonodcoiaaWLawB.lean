/-
  WheelStays, at every wheel, number and time.
-/
import Derived.Test.YtmegkfonodcoiaaWLaws
namespace Go.Proofs.Ytmegkfonodcoiaa
open Go.RowKit


set_option maxRecDepth 100000 in
set_option maxHeartbeats 4000000 in
theorem WheelStays_in (k : Int) (a : Option Addr) (n c : Nat) (l : List W.Tm) (id at' : Int) (w : World) (h : TIn w a n c l) :
    Calls Try.prog 4 #[.agg #[.int .i64 k, .slice a n c], .int .i64 id, .int .i64 at'] w fun e w' => e = .returned (.bool true) ∧ Below w.heap.size w w' := by
  have hl := h.1
  have HB0 := Lib.hid (wbox_below w k a n c)
  have HKx0 := Lib.hid (wbox_blok w k a n c)
  have HTx0 := Lib.hid (h.below (wbox_below w k a n c))
  by_cases hn : n ≤ 70
  · have g1 : decide ((70 : Int) < (n : Int)) = false := by simp; omega
    obtain ⟨pm, hpm⟩ : ∃ b, W.may k l = b := ⟨_, rfl⟩
    have HM := Lib.hid hpm
    cases pm
    · clear hpm
      go_enter Try.func4, Try.ntmps4
      go_wp2_with fail
      refine (wawake_any (wbox w k a n c)).mono ?_
      rintro e w1 ⟨rfl, hb⟩
      have HKx1 := Lib.hid (HKx0.out.on' hb)
      have HTx1 := Lib.hid (HTx0.out.below hb)
      have xf0 := HKx1.out.b0
      have xf1 := HKx1.out.b1
      have HB1 := Lib.hid (HB0.out.trans (hb.mono HB0.out.size))
      clear hb
      go_wp2_with fail
      refine (may_any k a n c l w1 HTx1.out (by omega) false HM.out).mono ?_
      clear xf0 xf1
      rintro e w2 ⟨rfl, hb⟩
      have HKx2 := Lib.hid (HKx1.out.on' hb)
      have HTx2 := Lib.hid (HTx1.out.below hb)
      have xf0 := HKx2.out.b0
      have xf1 := HKx2.out.b1
      have HB2 := Lib.hid (HB1.out.trans (hb.mono HB1.out.size))
      clear hb
      go_wp2
      go_ret
      exact ⟨rfl, HB2.out⟩
    · have hm : W.May k l := W.may_iff.1 hpm
      clear hpm
      obtain ⟨⟨l2, e2⟩, s2⟩ : ∃ x, W.add k l id at' = x := ⟨_, rfl⟩
      obtain ⟨n2, m2⟩ : ∃ m, l2.length = m := ⟨_, rfl⟩
      have b2 := W.add_len s2
      obtain ⟨⟨⟨k4, l4⟩, d4, e4⟩, s4⟩ : ∃ x, W.step k l at' = x := ⟨_, rfl⟩
      obtain ⟨n4, m4⟩ : ∃ m, l4.length = m := ⟨_, rfl⟩
      obtain ⟨q4, p4⟩ : ∃ m, d4.length = m := ⟨_, rfl⟩
      have b4 := W.step_len s4
      obtain ⟨⟨l3, e3⟩, s3⟩ : ∃ x, W.drop k l2 id = x := ⟨_, rfl⟩
      obtain ⟨n3, m3⟩ : ∃ m, l3.length = m := ⟨_, rfl⟩
      have b3 := W.drop_len' s3
      have hm2 : W.May k l2 := by have := W.add_may (id := id) (at' := at') hm; rw [s2] at this; exact this
      have hm3 : W.May k l3 := by have := W.drop_may (id := id) hm2; rw [s3] at this; exact this
      have hm4 : W.May k4 l4 := by have := W.step_may (tt := at') hm; rw [s4] at this; exact this
      have hz2 : e2 ≠ 0 → l2 = l := fun he => by have := W.add_err (id := id) (at' := at') hm (by rw [s2]; exact he); rw [s2] at this; exact this
      have hz4 : e4 ≠ 0 → k4 = k ∧ l4 = l := fun he => by
        have := (W.step_err (k := k) (l := l) (tt := at') (by rw [s4]; exact he)).1; rw [s4] at this; exact ⟨congrArg Prod.fst this, congrArg Prod.snd this⟩
      have hz3 : e2 = 0 → l3 = l ∧ e3 = true ∧ l2.length = l.length + 1 := fun he => by
        have := W.add_drop (id := id) (at' := at') hm (by rw [s2]; exact he); rw [s2] at this; rw [s3] at this; exact ⟨congrArg Prod.fst this.1, congrArg Prod.snd this.1, this.2⟩
      have z2 : n2 ≤ 100 := by omega
      have z3 : n3 ≤ 100 := by omega
      have z4 : n4 ≤ 100 ∧ q4 ≤ 100 := by omega
      have Hm2 := Lib.hid (W.may_iff.2 hm2)
      have Hm3 := Lib.hid (W.may_iff.2 hm3)
      have Hm4 := Lib.hid (W.may_iff.2 hm4)
      have hnn : e2 = 0 → n2 = n + 1 := fun he => by have := (hz3 he).2.2; omega
      clear hm hm2 hm3 hm4 b2 b3 b4
      have S2 := Lib.hid s2
      have S3 := Lib.hid s3
      have S4 := Lib.hid s4
      have M2 := Lib.hid m2
      have M3 := Lib.hid m3
      have M4 := Lib.hid m4
      have P4 := Lib.hid p4
      have Hz2 := Lib.hid hz2
      have Hz3 := Lib.hid hz3
      have Hz4 := Lib.hid hz4
      have Hnn := Lib.hid hnn
      have Hl := Lib.hid hl
      clear s2 s3 s4 m2 m3 m4 p4 hz2 hz3 hz4 hnn hl
      by_cases he2 : e2 = 0
      · subst he2
        obtain ⟨hl3, rfl, _⟩ := Hz3.out rfl
        have HL3 := Lib.hid hl3
        have hnn := Hnn.out rfl
        have hw : IntKind.i64.wrap ((n : Int) + 1) = (n : Int) + 1 := IntWalk.i64_in _ (by omega)
        have hq : ((n2 : Int) == (n : Int) + 1) = true := by simp; omega
        clear hl3 hnn
        by_cases he4 : e4 = 0
        · subst he4
          go_enter Try.func4, Try.ntmps4
          go_wp2_with fail
          refine (wawake_any (wbox w k a n c)).mono ?_
          rintro e w1 ⟨rfl, hb⟩
          have HKx1 := Lib.hid (HKx0.out.on' hb)
          have HTx1 := Lib.hid (HTx0.out.below hb)
          have xf0 := HKx1.out.b0
          have xf1 := HKx1.out.b1
          have HB1 := Lib.hid (HB0.out.trans (hb.mono HB0.out.size))
          clear hb
          go_wp2_with fail
          refine (may_any k a n c l w1 HTx1.out (by omega) true HM.out).mono ?_
          clear xf0 xf1
          rintro e w2 ⟨rfl, hb⟩
          have HKx2 := Lib.hid (HKx1.out.on' hb)
          have HTx2 := Lib.hid (HTx1.out.below hb)
          have xf0 := HKx2.out.b0
          have xf1 := HKx2.out.b1
          have HB2 := Lib.hid (HB1.out.trans (hb.mono HB1.out.size))
          clear hb
          go_wp2_with fail
          refine (add_is k id at' a n c l l2 n2 0 w2 HTx2.out (by omega) S2.out M2.out).mono ?_
          clear xf0 xf1
          rintro e w3 ⟨a2, c2, rfl, htb2, hb⟩
          have HKx3 := Lib.hid (HKx2.out.on' hb)
          have HTx3 := Lib.hid (HTx2.out.below hb)
          have xf0 := HKx3.out.b0
          have xf1 := HKx3.out.b1
          have HB3 := Lib.hid (HB2.out.trans (hb.mono HB2.out.size))
          clear hb
          have HTb23 := htb2
          clear htb2
          have Nxb2 := Lib.hid (Nat.ne_of_lt HKx3.out.lt)
          have hb := wbox_below w3 k a2 n2 c2
          have HKx4 := Lib.hid (HKx3.out.on' hb)
          have HTx4 := Lib.hid (HTx3.out.below hb)
          have xb2a0 := fun o => (HKx3.out.alloc o).b0
          have xb2a1 := fun o => (HKx3.out.alloc o).b1
          have HTb24 := Lib.hid (HTb23.out.below hb)
          have HKb24 := Lib.hid (wbox_blok w3 k a2 n2 c2)
          have HB4 := Lib.hid (HB3.out.trans (hb.mono HB3.out.size))
          clear hb
          go_wp2_with fail
          refine (step_is k at' a n c l k4 l4 d4 n4 q4 0 (wbox w3 k a2 n2 c2) HTx4.out (by omega) S4.out M4.out P4.out).mono ?_
          clear xf0 xf1 xb2a0 xb2a1
          rintro e w5 ⟨a4, c4, a7, c7, rfl, htb4, htd4, hb⟩
          have HKx5 := Lib.hid (HKx4.out.on' hb)
          have HTx5 := Lib.hid (HTx4.out.below hb)
          have HKb25 := Lib.hid (HKb24.out.on' hb)
          have HTb25 := Lib.hid (HTb24.out.below hb)
          have xf0 := HKx5.out.b0
          have xf1 := HKx5.out.b1
          have b2f0 := HKb25.out.b0
          have b2f1 := HKb25.out.b1
          have HB5 := Lib.hid (HB4.out.trans (hb.mono HB4.out.size))
          clear hb
          have HTb45 := htb4
          clear htb4
          clear htd4
          have Nxb4 := Lib.hid (Nat.ne_of_lt HKx5.out.lt)
          have Nb2b4 := Lib.hid (Nat.ne_of_lt HKb25.out.lt)
          have hb := wbox_below w5 k4 a4 n4 c4
          have HKx6 := Lib.hid (HKx5.out.on' hb)
          have HTx6 := Lib.hid (HTx5.out.below hb)
          have HKb26 := Lib.hid (HKb25.out.on' hb)
          have HTb26 := Lib.hid (HTb25.out.below hb)
          have xb4a0 := fun o => (HKx5.out.alloc o).b0
          have xb4a1 := fun o => (HKx5.out.alloc o).b1
          have b2b4a0 := fun o => (HKb25.out.alloc o).b0
          have b2b4a1 := fun o => (HKb25.out.alloc o).b1
          have HTb46 := Lib.hid (HTb45.out.below hb)
          have HKb46 := Lib.hid (wbox_blok w5 k4 a4 n4 c4)
          have HB6 := Lib.hid (HB5.out.trans (hb.mono HB5.out.size))
          clear hb
          go_wp2_with fail
          refine (drop_is k id a2 n2 c2 l2 l3 n3 true (wbox w5 k4 a4 n4 c4) HTb26.out (by omega) S3.out M3.out).mono ?_
          clear xf0 xf1 b2f0 b2f1 xb4a0 xb4a1 b2b4a0 b2b4a1
          rintro e w7 ⟨a3, c3, rfl, htb3, hb⟩
          have HKx7 := Lib.hid (HKx6.out.on' hb)
          have HTx7 := Lib.hid (HTx6.out.below hb)
          have HKb27 := Lib.hid (HKb26.out.on' hb)
          have HTb27 := Lib.hid (HTb26.out.below hb)
          have HKb47 := Lib.hid (HKb46.out.on' hb)
          have HTb47 := Lib.hid (HTb46.out.below hb)
          have xf0 := HKx7.out.b0
          have xf1 := HKx7.out.b1
          have b2f0 := HKb27.out.b0
          have b2f1 := HKb27.out.b1
          have b4f0 := HKb47.out.b0
          have b4f1 := HKb47.out.b1
          have HB7 := Lib.hid (HB6.out.trans (hb.mono HB6.out.size))
          clear hb
          have HTb37 := htb3
          clear htb3
          have Nxb3 := Lib.hid (Nat.ne_of_lt HKx7.out.lt)
          have Nb2b3 := Lib.hid (Nat.ne_of_lt HKb27.out.lt)
          have Nb4b3 := Lib.hid (Nat.ne_of_lt HKb47.out.lt)
          have hb := wbox_below w7 k a3 n3 c3
          have HKx8 := Lib.hid (HKx7.out.on' hb)
          have HTx8 := Lib.hid (HTx7.out.below hb)
          have HKb28 := Lib.hid (HKb27.out.on' hb)
          have HTb28 := Lib.hid (HTb27.out.below hb)
          have HKb48 := Lib.hid (HKb47.out.on' hb)
          have HTb48 := Lib.hid (HTb47.out.below hb)
          have xb3a0 := fun o => (HKx7.out.alloc o).b0
          have xb3a1 := fun o => (HKx7.out.alloc o).b1
          have b2b3a0 := fun o => (HKb27.out.alloc o).b0
          have b2b3a1 := fun o => (HKb27.out.alloc o).b1
          have b4b3a0 := fun o => (HKb47.out.alloc o).b0
          have b4b3a1 := fun o => (HKb47.out.alloc o).b1
          have HTb38 := Lib.hid (HTb37.out.below hb)
          have HKb38 := Lib.hid (wbox_blok w7 k a3 n3 c3)
          have HB8 := Lib.hid (HB7.out.trans (hb.mono HB7.out.size))
          clear hb
          go_wp2_with fail
          refine (may_any k a2 n2 c2 l2 (wbox w7 k a3 n3 c3) HTb28.out (by omega) true Hm2.out).mono ?_
          clear xf0 xf1 b2f0 b2f1 b4f0 b4f1 xb3a0 xb3a1 b2b3a0 b2b3a1 b4b3a0 b4b3a1
          rintro e w9 ⟨rfl, hb⟩
          have HKx9 := Lib.hid (HKx8.out.on' hb)
          have HTx9 := Lib.hid (HTx8.out.below hb)
          have HKb29 := Lib.hid (HKb28.out.on' hb)
          have HTb29 := Lib.hid (HTb28.out.below hb)
          have HKb49 := Lib.hid (HKb48.out.on' hb)
          have HTb49 := Lib.hid (HTb48.out.below hb)
          have HKb39 := Lib.hid (HKb38.out.on' hb)
          have HTb39 := Lib.hid (HTb38.out.below hb)
          have xf0 := HKx9.out.b0
          have xf1 := HKx9.out.b1
          have b2f0 := HKb29.out.b0
          have b2f1 := HKb29.out.b1
          have b4f0 := HKb49.out.b0
          have b4f1 := HKb49.out.b1
          have b3f0 := HKb39.out.b0
          have b3f1 := HKb39.out.b1
          have HB9 := Lib.hid (HB8.out.trans (hb.mono HB8.out.size))
          clear hb
          go_wp2_with fail
          refine (may_any k4 a4 n4 c4 l4 w9 HTb49.out (by omega) true Hm4.out).mono ?_
          clear xf0 xf1 b2f0 b2f1 b4f0 b4f1 b3f0 b3f1
          rintro e w10 ⟨rfl, hb⟩
          have HKx10 := Lib.hid (HKx9.out.on' hb)
          have HTx10 := Lib.hid (HTx9.out.below hb)
          have HKb210 := Lib.hid (HKb29.out.on' hb)
          have HTb210 := Lib.hid (HTb29.out.below hb)
          have HKb410 := Lib.hid (HKb49.out.on' hb)
          have HTb410 := Lib.hid (HTb49.out.below hb)
          have HKb310 := Lib.hid (HKb39.out.on' hb)
          have HTb310 := Lib.hid (HTb39.out.below hb)
          have xf0 := HKx10.out.b0
          have xf1 := HKx10.out.b1
          have b2f0 := HKb210.out.b0
          have b2f1 := HKb210.out.b1
          have b4f0 := HKb410.out.b0
          have b4f1 := HKb410.out.b1
          have b3f0 := HKb310.out.b0
          have b3f1 := HKb310.out.b1
          have HB10 := Lib.hid (HB9.out.trans (hb.mono HB9.out.size))
          clear hb
          go_wp2_with fail
          refine (may_any k a3 n3 c3 l3 w10 HTb310.out (by omega) true Hm3.out).mono ?_
          clear xf0 xf1 b2f0 b2f1 b4f0 b4f1 b3f0 b3f1
          rintro e w11 ⟨rfl, hb⟩
          have HKx11 := Lib.hid (HKx10.out.on' hb)
          have HTx11 := Lib.hid (HTx10.out.below hb)
          have HKb211 := Lib.hid (HKb210.out.on' hb)
          have HTb211 := Lib.hid (HTb210.out.below hb)
          have HKb411 := Lib.hid (HKb410.out.on' hb)
          have HTb411 := Lib.hid (HTb410.out.below hb)
          have HKb311 := Lib.hid (HKb310.out.on' hb)
          have HTb311 := Lib.hid (HTb310.out.below hb)
          have xf0 := HKx11.out.b0
          have xf1 := HKx11.out.b1
          have b2f0 := HKb211.out.b0
          have b2f1 := HKb211.out.b1
          have b4f0 := HKb411.out.b0
          have b4f1 := HKb411.out.b1
          have b3f0 := HKb311.out.b0
          have b3f1 := HKb311.out.b1
          have HB11 := Lib.hid (HB10.out.trans (hb.mono HB10.out.size))
          clear hb
          go_wp2_with fail
          refine (same_any k k a3 a n3 n c3 c l3 l w11 HTb311.out HTx11.out (by omega) true (by rw [HL3.out]; simp)).mono ?_
          clear xf0 xf1 b2f0 b2f1 b4f0 b4f1 b3f0 b3f1
          rintro e w12 ⟨rfl, hb⟩
          have HKx12 := Lib.hid (HKx11.out.on' hb)
          have HTx12 := Lib.hid (HTx11.out.below hb)
          have HKb212 := Lib.hid (HKb211.out.on' hb)
          have HTb212 := Lib.hid (HTb211.out.below hb)
          have HKb412 := Lib.hid (HKb411.out.on' hb)
          have HTb412 := Lib.hid (HTb411.out.below hb)
          have HKb312 := Lib.hid (HKb311.out.on' hb)
          have HTb312 := Lib.hid (HTb311.out.below hb)
          have xf0 := HKx12.out.b0
          have xf1 := HKx12.out.b1
          have b2f0 := HKb212.out.b0
          have b2f1 := HKb212.out.b1
          have b4f0 := HKb412.out.b0
          have b4f1 := HKb412.out.b1
          have b3f0 := HKb312.out.b0
          have b3f1 := HKb312.out.b1
          have HB12 := Lib.hid (HB11.out.trans (hb.mono HB11.out.size))
          clear hb
          go_wp2
          go_ret
          exact ⟨rfl, HB12.out⟩
        · have HL4 := Lib.hid (Hz4.out he4)
          have ue4 : (e4 == 0) = false := by simpa using he4
          have ve4 : (e4 != 0) = true := by simpa using he4
          have te4 : decide (e4 = 0) = false := by simpa using he4
          clear he4
          go_enter Try.func4, Try.ntmps4
          go_wp2_with fail
          refine (wawake_any (wbox w k a n c)).mono ?_
          rintro e w1 ⟨rfl, hb⟩
          have HKx1 := Lib.hid (HKx0.out.on' hb)
          have HTx1 := Lib.hid (HTx0.out.below hb)
          have xf0 := HKx1.out.b0
          have xf1 := HKx1.out.b1
          have HB1 := Lib.hid (HB0.out.trans (hb.mono HB0.out.size))
          clear hb
          go_wp2_with fail
          refine (may_any k a n c l w1 HTx1.out (by omega) true HM.out).mono ?_
          clear xf0 xf1
          rintro e w2 ⟨rfl, hb⟩
          have HKx2 := Lib.hid (HKx1.out.on' hb)
          have HTx2 := Lib.hid (HTx1.out.below hb)
          have xf0 := HKx2.out.b0
          have xf1 := HKx2.out.b1
          have HB2 := Lib.hid (HB1.out.trans (hb.mono HB1.out.size))
          clear hb
          go_wp2_with fail
          refine (add_is k id at' a n c l l2 n2 0 w2 HTx2.out (by omega) S2.out M2.out).mono ?_
          clear xf0 xf1
          rintro e w3 ⟨a2, c2, rfl, htb2, hb⟩
          have HKx3 := Lib.hid (HKx2.out.on' hb)
          have HTx3 := Lib.hid (HTx2.out.below hb)
          have xf0 := HKx3.out.b0
          have xf1 := HKx3.out.b1
          have HB3 := Lib.hid (HB2.out.trans (hb.mono HB2.out.size))
          clear hb
          have HTb23 := htb2
          clear htb2
          have Nxb2 := Lib.hid (Nat.ne_of_lt HKx3.out.lt)
          have hb := wbox_below w3 k a2 n2 c2
          have HKx4 := Lib.hid (HKx3.out.on' hb)
          have HTx4 := Lib.hid (HTx3.out.below hb)
          have xb2a0 := fun o => (HKx3.out.alloc o).b0
          have xb2a1 := fun o => (HKx3.out.alloc o).b1
          have HTb24 := Lib.hid (HTb23.out.below hb)
          have HKb24 := Lib.hid (wbox_blok w3 k a2 n2 c2)
          have HB4 := Lib.hid (HB3.out.trans (hb.mono HB3.out.size))
          clear hb
          go_wp2_with fail
          refine (step_is k at' a n c l k4 l4 d4 n4 q4 e4 (wbox w3 k a2 n2 c2) HTx4.out (by omega) S4.out M4.out P4.out).mono ?_
          clear xf0 xf1 xb2a0 xb2a1
          rintro e w5 ⟨a4, c4, a7, c7, rfl, htb4, htd4, hb⟩
          have HKx5 := Lib.hid (HKx4.out.on' hb)
          have HTx5 := Lib.hid (HTx4.out.below hb)
          have HKb25 := Lib.hid (HKb24.out.on' hb)
          have HTb25 := Lib.hid (HTb24.out.below hb)
          have xf0 := HKx5.out.b0
          have xf1 := HKx5.out.b1
          have b2f0 := HKb25.out.b0
          have b2f1 := HKb25.out.b1
          have HB5 := Lib.hid (HB4.out.trans (hb.mono HB4.out.size))
          clear hb
          have HTb45 := htb4
          clear htb4
          clear htd4
          have Nxb4 := Lib.hid (Nat.ne_of_lt HKx5.out.lt)
          have Nb2b4 := Lib.hid (Nat.ne_of_lt HKb25.out.lt)
          have hb := wbox_below w5 k4 a4 n4 c4
          have HKx6 := Lib.hid (HKx5.out.on' hb)
          have HTx6 := Lib.hid (HTx5.out.below hb)
          have HKb26 := Lib.hid (HKb25.out.on' hb)
          have HTb26 := Lib.hid (HTb25.out.below hb)
          have xb4a0 := fun o => (HKx5.out.alloc o).b0
          have xb4a1 := fun o => (HKx5.out.alloc o).b1
          have b2b4a0 := fun o => (HKb25.out.alloc o).b0
          have b2b4a1 := fun o => (HKb25.out.alloc o).b1
          have HTb46 := Lib.hid (HTb45.out.below hb)
          have HKb46 := Lib.hid (wbox_blok w5 k4 a4 n4 c4)
          have HB6 := Lib.hid (HB5.out.trans (hb.mono HB5.out.size))
          clear hb
          go_wp2_with fail
          refine (drop_is k id a2 n2 c2 l2 l3 n3 true (wbox w5 k4 a4 n4 c4) HTb26.out (by omega) S3.out M3.out).mono ?_
          clear xf0 xf1 b2f0 b2f1 xb4a0 xb4a1 b2b4a0 b2b4a1
          rintro e w7 ⟨a3, c3, rfl, htb3, hb⟩
          have HKx7 := Lib.hid (HKx6.out.on' hb)
          have HTx7 := Lib.hid (HTx6.out.below hb)
          have HKb27 := Lib.hid (HKb26.out.on' hb)
          have HTb27 := Lib.hid (HTb26.out.below hb)
          have HKb47 := Lib.hid (HKb46.out.on' hb)
          have HTb47 := Lib.hid (HTb46.out.below hb)
          have xf0 := HKx7.out.b0
          have xf1 := HKx7.out.b1
          have b2f0 := HKb27.out.b0
          have b2f1 := HKb27.out.b1
          have b4f0 := HKb47.out.b0
          have b4f1 := HKb47.out.b1
          have HB7 := Lib.hid (HB6.out.trans (hb.mono HB6.out.size))
          clear hb
          have HTb37 := htb3
          clear htb3
          have Nxb3 := Lib.hid (Nat.ne_of_lt HKx7.out.lt)
          have Nb2b3 := Lib.hid (Nat.ne_of_lt HKb27.out.lt)
          have Nb4b3 := Lib.hid (Nat.ne_of_lt HKb47.out.lt)
          have hb := wbox_below w7 k a3 n3 c3
          have HKx8 := Lib.hid (HKx7.out.on' hb)
          have HTx8 := Lib.hid (HTx7.out.below hb)
          have HKb28 := Lib.hid (HKb27.out.on' hb)
          have HTb28 := Lib.hid (HTb27.out.below hb)
          have HKb48 := Lib.hid (HKb47.out.on' hb)
          have HTb48 := Lib.hid (HTb47.out.below hb)
          have xb3a0 := fun o => (HKx7.out.alloc o).b0
          have xb3a1 := fun o => (HKx7.out.alloc o).b1
          have b2b3a0 := fun o => (HKb27.out.alloc o).b0
          have b2b3a1 := fun o => (HKb27.out.alloc o).b1
          have b4b3a0 := fun o => (HKb47.out.alloc o).b0
          have b4b3a1 := fun o => (HKb47.out.alloc o).b1
          have HTb38 := Lib.hid (HTb37.out.below hb)
          have HKb38 := Lib.hid (wbox_blok w7 k a3 n3 c3)
          have HB8 := Lib.hid (HB7.out.trans (hb.mono HB7.out.size))
          clear hb
          go_wp2_with fail
          refine (same_any k4 k a4 a n4 n c4 c l4 l (wbox w7 k a3 n3 c3) HTb48.out HTx8.out (by omega) true (by rw [HL4.out.1, HL4.out.2]; simp)).mono ?_
          clear xf0 xf1 b2f0 b2f1 b4f0 b4f1 xb3a0 xb3a1 b2b3a0 b2b3a1 b4b3a0 b4b3a1
          rintro e w9 ⟨rfl, hb⟩
          have HKx9 := Lib.hid (HKx8.out.on' hb)
          have HTx9 := Lib.hid (HTx8.out.below hb)
          have HKb29 := Lib.hid (HKb28.out.on' hb)
          have HTb29 := Lib.hid (HTb28.out.below hb)
          have HKb49 := Lib.hid (HKb48.out.on' hb)
          have HTb49 := Lib.hid (HTb48.out.below hb)
          have HKb39 := Lib.hid (HKb38.out.on' hb)
          have HTb39 := Lib.hid (HTb38.out.below hb)
          have xf0 := HKx9.out.b0
          have xf1 := HKx9.out.b1
          have b2f0 := HKb29.out.b0
          have b2f1 := HKb29.out.b1
          have b4f0 := HKb49.out.b0
          have b4f1 := HKb49.out.b1
          have b3f0 := HKb39.out.b0
          have b3f1 := HKb39.out.b1
          have HB9 := Lib.hid (HB8.out.trans (hb.mono HB8.out.size))
          clear hb
          go_wp2_with fail
          refine (may_any k a2 n2 c2 l2 w9 HTb29.out (by omega) true Hm2.out).mono ?_
          clear xf0 xf1 b2f0 b2f1 b4f0 b4f1 b3f0 b3f1
          rintro e w10 ⟨rfl, hb⟩
          have HKx10 := Lib.hid (HKx9.out.on' hb)
          have HTx10 := Lib.hid (HTx9.out.below hb)
          have HKb210 := Lib.hid (HKb29.out.on' hb)
          have HTb210 := Lib.hid (HTb29.out.below hb)
          have HKb410 := Lib.hid (HKb49.out.on' hb)
          have HTb410 := Lib.hid (HTb49.out.below hb)
          have HKb310 := Lib.hid (HKb39.out.on' hb)
          have HTb310 := Lib.hid (HTb39.out.below hb)
          have xf0 := HKx10.out.b0
          have xf1 := HKx10.out.b1
          have b2f0 := HKb210.out.b0
          have b2f1 := HKb210.out.b1
          have b4f0 := HKb410.out.b0
          have b4f1 := HKb410.out.b1
          have b3f0 := HKb310.out.b0
          have b3f1 := HKb310.out.b1
          have HB10 := Lib.hid (HB9.out.trans (hb.mono HB9.out.size))
          clear hb
          go_wp2_with fail
          refine (may_any k4 a4 n4 c4 l4 w10 HTb410.out (by omega) true Hm4.out).mono ?_
          clear xf0 xf1 b2f0 b2f1 b4f0 b4f1 b3f0 b3f1
          rintro e w11 ⟨rfl, hb⟩
          have HKx11 := Lib.hid (HKx10.out.on' hb)
          have HTx11 := Lib.hid (HTx10.out.below hb)
          have HKb211 := Lib.hid (HKb210.out.on' hb)
          have HTb211 := Lib.hid (HTb210.out.below hb)
          have HKb411 := Lib.hid (HKb410.out.on' hb)
          have HTb411 := Lib.hid (HTb410.out.below hb)
          have HKb311 := Lib.hid (HKb310.out.on' hb)
          have HTb311 := Lib.hid (HTb310.out.below hb)
          have xf0 := HKx11.out.b0
          have xf1 := HKx11.out.b1
          have b2f0 := HKb211.out.b0
          have b2f1 := HKb211.out.b1
          have b4f0 := HKb411.out.b0
          have b4f1 := HKb411.out.b1
          have b3f0 := HKb311.out.b0
          have b3f1 := HKb311.out.b1
          have HB11 := Lib.hid (HB10.out.trans (hb.mono HB10.out.size))
          clear hb
          go_wp2_with fail
          refine (may_any k a3 n3 c3 l3 w11 HTb311.out (by omega) true Hm3.out).mono ?_
          clear xf0 xf1 b2f0 b2f1 b4f0 b4f1 b3f0 b3f1
          rintro e w12 ⟨rfl, hb⟩
          have HKx12 := Lib.hid (HKx11.out.on' hb)
          have HTx12 := Lib.hid (HTx11.out.below hb)
          have HKb212 := Lib.hid (HKb211.out.on' hb)
          have HTb212 := Lib.hid (HTb211.out.below hb)
          have HKb412 := Lib.hid (HKb411.out.on' hb)
          have HTb412 := Lib.hid (HTb411.out.below hb)
          have HKb312 := Lib.hid (HKb311.out.on' hb)
          have HTb312 := Lib.hid (HTb311.out.below hb)
          have xf0 := HKx12.out.b0
          have xf1 := HKx12.out.b1
          have b2f0 := HKb212.out.b0
          have b2f1 := HKb212.out.b1
          have b4f0 := HKb412.out.b0
          have b4f1 := HKb412.out.b1
          have b3f0 := HKb312.out.b0
          have b3f1 := HKb312.out.b1
          have HB12 := Lib.hid (HB11.out.trans (hb.mono HB11.out.size))
          clear hb
          go_wp2_with fail
          refine (same_any k k a3 a n3 n c3 c l3 l w12 HTb312.out HTx12.out (by omega) true (by rw [HL3.out]; simp)).mono ?_
          clear xf0 xf1 b2f0 b2f1 b4f0 b4f1 b3f0 b3f1
          rintro e w13 ⟨rfl, hb⟩
          have HKx13 := Lib.hid (HKx12.out.on' hb)
          have HTx13 := Lib.hid (HTx12.out.below hb)
          have HKb213 := Lib.hid (HKb212.out.on' hb)
          have HTb213 := Lib.hid (HTb212.out.below hb)
          have HKb413 := Lib.hid (HKb412.out.on' hb)
          have HTb413 := Lib.hid (HTb412.out.below hb)
          have HKb313 := Lib.hid (HKb312.out.on' hb)
          have HTb313 := Lib.hid (HTb312.out.below hb)
          have xf0 := HKx13.out.b0
          have xf1 := HKx13.out.b1
          have b2f0 := HKb213.out.b0
          have b2f1 := HKb213.out.b1
          have b4f0 := HKb413.out.b0
          have b4f1 := HKb413.out.b1
          have b3f0 := HKb313.out.b0
          have b3f1 := HKb313.out.b1
          have HB13 := Lib.hid (HB12.out.trans (hb.mono HB12.out.size))
          clear hb
          go_wp2
          go_ret
          exact ⟨rfl, HB13.out⟩
      · have HL2 := Lib.hid (Hz2.out he2)
        have ue2 : (e2 == 0) = false := by simpa using he2
        have ve2 : (e2 != 0) = true := by simpa using he2
        have te2 : decide (e2 = 0) = false := by simpa using he2
        clear he2
        by_cases he4 : e4 = 0
        · subst he4
          go_enter Try.func4, Try.ntmps4
          go_wp2_with fail
          refine (wawake_any (wbox w k a n c)).mono ?_
          rintro e w1 ⟨rfl, hb⟩
          have HKx1 := Lib.hid (HKx0.out.on' hb)
          have HTx1 := Lib.hid (HTx0.out.below hb)
          have xf0 := HKx1.out.b0
          have xf1 := HKx1.out.b1
          have HB1 := Lib.hid (HB0.out.trans (hb.mono HB0.out.size))
          clear hb
          go_wp2_with fail
          refine (may_any k a n c l w1 HTx1.out (by omega) true HM.out).mono ?_
          clear xf0 xf1
          rintro e w2 ⟨rfl, hb⟩
          have HKx2 := Lib.hid (HKx1.out.on' hb)
          have HTx2 := Lib.hid (HTx1.out.below hb)
          have xf0 := HKx2.out.b0
          have xf1 := HKx2.out.b1
          have HB2 := Lib.hid (HB1.out.trans (hb.mono HB1.out.size))
          clear hb
          go_wp2_with fail
          refine (add_is k id at' a n c l l2 n2 e2 w2 HTx2.out (by omega) S2.out M2.out).mono ?_
          clear xf0 xf1
          rintro e w3 ⟨a2, c2, rfl, htb2, hb⟩
          have HKx3 := Lib.hid (HKx2.out.on' hb)
          have HTx3 := Lib.hid (HTx2.out.below hb)
          have xf0 := HKx3.out.b0
          have xf1 := HKx3.out.b1
          have HB3 := Lib.hid (HB2.out.trans (hb.mono HB2.out.size))
          clear hb
          have HTb23 := htb2
          clear htb2
          have Nxb2 := Lib.hid (Nat.ne_of_lt HKx3.out.lt)
          have hb := wbox_below w3 k a2 n2 c2
          have HKx4 := Lib.hid (HKx3.out.on' hb)
          have HTx4 := Lib.hid (HTx3.out.below hb)
          have xb2a0 := fun o => (HKx3.out.alloc o).b0
          have xb2a1 := fun o => (HKx3.out.alloc o).b1
          have HTb24 := Lib.hid (HTb23.out.below hb)
          have HKb24 := Lib.hid (wbox_blok w3 k a2 n2 c2)
          have HB4 := Lib.hid (HB3.out.trans (hb.mono HB3.out.size))
          clear hb
          go_wp2_with fail
          refine (step_is k at' a n c l k4 l4 d4 n4 q4 0 (wbox w3 k a2 n2 c2) HTx4.out (by omega) S4.out M4.out P4.out).mono ?_
          clear xf0 xf1 xb2a0 xb2a1
          rintro e w5 ⟨a4, c4, a7, c7, rfl, htb4, htd4, hb⟩
          have HKx5 := Lib.hid (HKx4.out.on' hb)
          have HTx5 := Lib.hid (HTx4.out.below hb)
          have HKb25 := Lib.hid (HKb24.out.on' hb)
          have HTb25 := Lib.hid (HTb24.out.below hb)
          have xf0 := HKx5.out.b0
          have xf1 := HKx5.out.b1
          have b2f0 := HKb25.out.b0
          have b2f1 := HKb25.out.b1
          have HB5 := Lib.hid (HB4.out.trans (hb.mono HB4.out.size))
          clear hb
          have HTb45 := htb4
          clear htb4
          clear htd4
          have Nxb4 := Lib.hid (Nat.ne_of_lt HKx5.out.lt)
          have Nb2b4 := Lib.hid (Nat.ne_of_lt HKb25.out.lt)
          have hb := wbox_below w5 k4 a4 n4 c4
          have HKx6 := Lib.hid (HKx5.out.on' hb)
          have HTx6 := Lib.hid (HTx5.out.below hb)
          have HKb26 := Lib.hid (HKb25.out.on' hb)
          have HTb26 := Lib.hid (HTb25.out.below hb)
          have xb4a0 := fun o => (HKx5.out.alloc o).b0
          have xb4a1 := fun o => (HKx5.out.alloc o).b1
          have b2b4a0 := fun o => (HKb25.out.alloc o).b0
          have b2b4a1 := fun o => (HKb25.out.alloc o).b1
          have HTb46 := Lib.hid (HTb45.out.below hb)
          have HKb46 := Lib.hid (wbox_blok w5 k4 a4 n4 c4)
          have HB6 := Lib.hid (HB5.out.trans (hb.mono HB5.out.size))
          clear hb
          go_wp2_with fail
          refine (drop_is k id a2 n2 c2 l2 l3 n3 e3 (wbox w5 k4 a4 n4 c4) HTb26.out (by omega) S3.out M3.out).mono ?_
          clear xf0 xf1 b2f0 b2f1 xb4a0 xb4a1 b2b4a0 b2b4a1
          rintro e w7 ⟨a3, c3, rfl, htb3, hb⟩
          have HKx7 := Lib.hid (HKx6.out.on' hb)
          have HTx7 := Lib.hid (HTx6.out.below hb)
          have HKb27 := Lib.hid (HKb26.out.on' hb)
          have HTb27 := Lib.hid (HTb26.out.below hb)
          have HKb47 := Lib.hid (HKb46.out.on' hb)
          have HTb47 := Lib.hid (HTb46.out.below hb)
          have xf0 := HKx7.out.b0
          have xf1 := HKx7.out.b1
          have b2f0 := HKb27.out.b0
          have b2f1 := HKb27.out.b1
          have b4f0 := HKb47.out.b0
          have b4f1 := HKb47.out.b1
          have HB7 := Lib.hid (HB6.out.trans (hb.mono HB6.out.size))
          clear hb
          have HTb37 := htb3
          clear htb3
          have Nxb3 := Lib.hid (Nat.ne_of_lt HKx7.out.lt)
          have Nb2b3 := Lib.hid (Nat.ne_of_lt HKb27.out.lt)
          have Nb4b3 := Lib.hid (Nat.ne_of_lt HKb47.out.lt)
          have hb := wbox_below w7 k a3 n3 c3
          have HKx8 := Lib.hid (HKx7.out.on' hb)
          have HTx8 := Lib.hid (HTx7.out.below hb)
          have HKb28 := Lib.hid (HKb27.out.on' hb)
          have HTb28 := Lib.hid (HTb27.out.below hb)
          have HKb48 := Lib.hid (HKb47.out.on' hb)
          have HTb48 := Lib.hid (HTb47.out.below hb)
          have xb3a0 := fun o => (HKx7.out.alloc o).b0
          have xb3a1 := fun o => (HKx7.out.alloc o).b1
          have b2b3a0 := fun o => (HKb27.out.alloc o).b0
          have b2b3a1 := fun o => (HKb27.out.alloc o).b1
          have b4b3a0 := fun o => (HKb47.out.alloc o).b0
          have b4b3a1 := fun o => (HKb47.out.alloc o).b1
          have HTb38 := Lib.hid (HTb37.out.below hb)
          have HKb38 := Lib.hid (wbox_blok w7 k a3 n3 c3)
          have HB8 := Lib.hid (HB7.out.trans (hb.mono HB7.out.size))
          clear hb
          go_wp2_with fail
          refine (same_any k k a2 a n2 n c2 c l2 l (wbox w7 k a3 n3 c3) HTb28.out HTx8.out (by omega) true (by rw [HL2.out]; simp)).mono ?_
          clear xf0 xf1 b2f0 b2f1 b4f0 b4f1 xb3a0 xb3a1 b2b3a0 b2b3a1 b4b3a0 b4b3a1
          rintro e w9 ⟨rfl, hb⟩
          have HKx9 := Lib.hid (HKx8.out.on' hb)
          have HTx9 := Lib.hid (HTx8.out.below hb)
          have HKb29 := Lib.hid (HKb28.out.on' hb)
          have HTb29 := Lib.hid (HTb28.out.below hb)
          have HKb49 := Lib.hid (HKb48.out.on' hb)
          have HTb49 := Lib.hid (HTb48.out.below hb)
          have HKb39 := Lib.hid (HKb38.out.on' hb)
          have HTb39 := Lib.hid (HTb38.out.below hb)
          have xf0 := HKx9.out.b0
          have xf1 := HKx9.out.b1
          have b2f0 := HKb29.out.b0
          have b2f1 := HKb29.out.b1
          have b4f0 := HKb49.out.b0
          have b4f1 := HKb49.out.b1
          have b3f0 := HKb39.out.b0
          have b3f1 := HKb39.out.b1
          have HB9 := Lib.hid (HB8.out.trans (hb.mono HB8.out.size))
          clear hb
          go_wp2_with fail
          refine (may_any k a2 n2 c2 l2 w9 HTb29.out (by omega) true Hm2.out).mono ?_
          clear xf0 xf1 b2f0 b2f1 b4f0 b4f1 b3f0 b3f1
          rintro e w10 ⟨rfl, hb⟩
          have HKx10 := Lib.hid (HKx9.out.on' hb)
          have HTx10 := Lib.hid (HTx9.out.below hb)
          have HKb210 := Lib.hid (HKb29.out.on' hb)
          have HTb210 := Lib.hid (HTb29.out.below hb)
          have HKb410 := Lib.hid (HKb49.out.on' hb)
          have HTb410 := Lib.hid (HTb49.out.below hb)
          have HKb310 := Lib.hid (HKb39.out.on' hb)
          have HTb310 := Lib.hid (HTb39.out.below hb)
          have xf0 := HKx10.out.b0
          have xf1 := HKx10.out.b1
          have b2f0 := HKb210.out.b0
          have b2f1 := HKb210.out.b1
          have b4f0 := HKb410.out.b0
          have b4f1 := HKb410.out.b1
          have b3f0 := HKb310.out.b0
          have b3f1 := HKb310.out.b1
          have HB10 := Lib.hid (HB9.out.trans (hb.mono HB9.out.size))
          clear hb
          go_wp2_with fail
          refine (may_any k4 a4 n4 c4 l4 w10 HTb410.out (by omega) true Hm4.out).mono ?_
          clear xf0 xf1 b2f0 b2f1 b4f0 b4f1 b3f0 b3f1
          rintro e w11 ⟨rfl, hb⟩
          have HKx11 := Lib.hid (HKx10.out.on' hb)
          have HTx11 := Lib.hid (HTx10.out.below hb)
          have HKb211 := Lib.hid (HKb210.out.on' hb)
          have HTb211 := Lib.hid (HTb210.out.below hb)
          have HKb411 := Lib.hid (HKb410.out.on' hb)
          have HTb411 := Lib.hid (HTb410.out.below hb)
          have HKb311 := Lib.hid (HKb310.out.on' hb)
          have HTb311 := Lib.hid (HTb310.out.below hb)
          have xf0 := HKx11.out.b0
          have xf1 := HKx11.out.b1
          have b2f0 := HKb211.out.b0
          have b2f1 := HKb211.out.b1
          have b4f0 := HKb411.out.b0
          have b4f1 := HKb411.out.b1
          have b3f0 := HKb311.out.b0
          have b3f1 := HKb311.out.b1
          have HB11 := Lib.hid (HB10.out.trans (hb.mono HB10.out.size))
          clear hb
          go_wp2_with fail
          refine (may_any k a3 n3 c3 l3 w11 HTb311.out (by omega) true Hm3.out).mono ?_
          clear xf0 xf1 b2f0 b2f1 b4f0 b4f1 b3f0 b3f1
          rintro e w12 ⟨rfl, hb⟩
          have HKx12 := Lib.hid (HKx11.out.on' hb)
          have HTx12 := Lib.hid (HTx11.out.below hb)
          have HKb212 := Lib.hid (HKb211.out.on' hb)
          have HTb212 := Lib.hid (HTb211.out.below hb)
          have HKb412 := Lib.hid (HKb411.out.on' hb)
          have HTb412 := Lib.hid (HTb411.out.below hb)
          have HKb312 := Lib.hid (HKb311.out.on' hb)
          have HTb312 := Lib.hid (HTb311.out.below hb)
          have xf0 := HKx12.out.b0
          have xf1 := HKx12.out.b1
          have b2f0 := HKb212.out.b0
          have b2f1 := HKb212.out.b1
          have b4f0 := HKb412.out.b0
          have b4f1 := HKb412.out.b1
          have b3f0 := HKb312.out.b0
          have b3f1 := HKb312.out.b1
          have HB12 := Lib.hid (HB11.out.trans (hb.mono HB11.out.size))
          clear hb
          go_wp2
          go_ret
          exact ⟨rfl, HB12.out⟩
        · have HL4 := Lib.hid (Hz4.out he4)
          have ue4 : (e4 == 0) = false := by simpa using he4
          have ve4 : (e4 != 0) = true := by simpa using he4
          have te4 : decide (e4 = 0) = false := by simpa using he4
          clear he4
          go_enter Try.func4, Try.ntmps4
          go_wp2_with fail
          refine (wawake_any (wbox w k a n c)).mono ?_
          rintro e w1 ⟨rfl, hb⟩
          have HKx1 := Lib.hid (HKx0.out.on' hb)
          have HTx1 := Lib.hid (HTx0.out.below hb)
          have xf0 := HKx1.out.b0
          have xf1 := HKx1.out.b1
          have HB1 := Lib.hid (HB0.out.trans (hb.mono HB0.out.size))
          clear hb
          go_wp2_with fail
          refine (may_any k a n c l w1 HTx1.out (by omega) true HM.out).mono ?_
          clear xf0 xf1
          rintro e w2 ⟨rfl, hb⟩
          have HKx2 := Lib.hid (HKx1.out.on' hb)
          have HTx2 := Lib.hid (HTx1.out.below hb)
          have xf0 := HKx2.out.b0
          have xf1 := HKx2.out.b1
          have HB2 := Lib.hid (HB1.out.trans (hb.mono HB1.out.size))
          clear hb
          go_wp2_with fail
          refine (add_is k id at' a n c l l2 n2 e2 w2 HTx2.out (by omega) S2.out M2.out).mono ?_
          clear xf0 xf1
          rintro e w3 ⟨a2, c2, rfl, htb2, hb⟩
          have HKx3 := Lib.hid (HKx2.out.on' hb)
          have HTx3 := Lib.hid (HTx2.out.below hb)
          have xf0 := HKx3.out.b0
          have xf1 := HKx3.out.b1
          have HB3 := Lib.hid (HB2.out.trans (hb.mono HB2.out.size))
          clear hb
          have HTb23 := htb2
          clear htb2
          have Nxb2 := Lib.hid (Nat.ne_of_lt HKx3.out.lt)
          have hb := wbox_below w3 k a2 n2 c2
          have HKx4 := Lib.hid (HKx3.out.on' hb)
          have HTx4 := Lib.hid (HTx3.out.below hb)
          have xb2a0 := fun o => (HKx3.out.alloc o).b0
          have xb2a1 := fun o => (HKx3.out.alloc o).b1
          have HTb24 := Lib.hid (HTb23.out.below hb)
          have HKb24 := Lib.hid (wbox_blok w3 k a2 n2 c2)
          have HB4 := Lib.hid (HB3.out.trans (hb.mono HB3.out.size))
          clear hb
          go_wp2_with fail
          refine (step_is k at' a n c l k4 l4 d4 n4 q4 e4 (wbox w3 k a2 n2 c2) HTx4.out (by omega) S4.out M4.out P4.out).mono ?_
          clear xf0 xf1 xb2a0 xb2a1
          rintro e w5 ⟨a4, c4, a7, c7, rfl, htb4, htd4, hb⟩
          have HKx5 := Lib.hid (HKx4.out.on' hb)
          have HTx5 := Lib.hid (HTx4.out.below hb)
          have HKb25 := Lib.hid (HKb24.out.on' hb)
          have HTb25 := Lib.hid (HTb24.out.below hb)
          have xf0 := HKx5.out.b0
          have xf1 := HKx5.out.b1
          have b2f0 := HKb25.out.b0
          have b2f1 := HKb25.out.b1
          have HB5 := Lib.hid (HB4.out.trans (hb.mono HB4.out.size))
          clear hb
          have HTb45 := htb4
          clear htb4
          clear htd4
          have Nxb4 := Lib.hid (Nat.ne_of_lt HKx5.out.lt)
          have Nb2b4 := Lib.hid (Nat.ne_of_lt HKb25.out.lt)
          have hb := wbox_below w5 k4 a4 n4 c4
          have HKx6 := Lib.hid (HKx5.out.on' hb)
          have HTx6 := Lib.hid (HTx5.out.below hb)
          have HKb26 := Lib.hid (HKb25.out.on' hb)
          have HTb26 := Lib.hid (HTb25.out.below hb)
          have xb4a0 := fun o => (HKx5.out.alloc o).b0
          have xb4a1 := fun o => (HKx5.out.alloc o).b1
          have b2b4a0 := fun o => (HKb25.out.alloc o).b0
          have b2b4a1 := fun o => (HKb25.out.alloc o).b1
          have HTb46 := Lib.hid (HTb45.out.below hb)
          have HKb46 := Lib.hid (wbox_blok w5 k4 a4 n4 c4)
          have HB6 := Lib.hid (HB5.out.trans (hb.mono HB5.out.size))
          clear hb
          go_wp2_with fail
          refine (drop_is k id a2 n2 c2 l2 l3 n3 e3 (wbox w5 k4 a4 n4 c4) HTb26.out (by omega) S3.out M3.out).mono ?_
          clear xf0 xf1 b2f0 b2f1 xb4a0 xb4a1 b2b4a0 b2b4a1
          rintro e w7 ⟨a3, c3, rfl, htb3, hb⟩
          have HKx7 := Lib.hid (HKx6.out.on' hb)
          have HTx7 := Lib.hid (HTx6.out.below hb)
          have HKb27 := Lib.hid (HKb26.out.on' hb)
          have HTb27 := Lib.hid (HTb26.out.below hb)
          have HKb47 := Lib.hid (HKb46.out.on' hb)
          have HTb47 := Lib.hid (HTb46.out.below hb)
          have xf0 := HKx7.out.b0
          have xf1 := HKx7.out.b1
          have b2f0 := HKb27.out.b0
          have b2f1 := HKb27.out.b1
          have b4f0 := HKb47.out.b0
          have b4f1 := HKb47.out.b1
          have HB7 := Lib.hid (HB6.out.trans (hb.mono HB6.out.size))
          clear hb
          have HTb37 := htb3
          clear htb3
          have Nxb3 := Lib.hid (Nat.ne_of_lt HKx7.out.lt)
          have Nb2b3 := Lib.hid (Nat.ne_of_lt HKb27.out.lt)
          have Nb4b3 := Lib.hid (Nat.ne_of_lt HKb47.out.lt)
          have hb := wbox_below w7 k a3 n3 c3
          have HKx8 := Lib.hid (HKx7.out.on' hb)
          have HTx8 := Lib.hid (HTx7.out.below hb)
          have HKb28 := Lib.hid (HKb27.out.on' hb)
          have HTb28 := Lib.hid (HTb27.out.below hb)
          have HKb48 := Lib.hid (HKb47.out.on' hb)
          have HTb48 := Lib.hid (HTb47.out.below hb)
          have xb3a0 := fun o => (HKx7.out.alloc o).b0
          have xb3a1 := fun o => (HKx7.out.alloc o).b1
          have b2b3a0 := fun o => (HKb27.out.alloc o).b0
          have b2b3a1 := fun o => (HKb27.out.alloc o).b1
          have b4b3a0 := fun o => (HKb47.out.alloc o).b0
          have b4b3a1 := fun o => (HKb47.out.alloc o).b1
          have HTb38 := Lib.hid (HTb37.out.below hb)
          have HKb38 := Lib.hid (wbox_blok w7 k a3 n3 c3)
          have HB8 := Lib.hid (HB7.out.trans (hb.mono HB7.out.size))
          clear hb
          go_wp2_with fail
          refine (same_any k k a2 a n2 n c2 c l2 l (wbox w7 k a3 n3 c3) HTb28.out HTx8.out (by omega) true (by rw [HL2.out]; simp)).mono ?_
          clear xf0 xf1 b2f0 b2f1 b4f0 b4f1 xb3a0 xb3a1 b2b3a0 b2b3a1 b4b3a0 b4b3a1
          rintro e w9 ⟨rfl, hb⟩
          have HKx9 := Lib.hid (HKx8.out.on' hb)
          have HTx9 := Lib.hid (HTx8.out.below hb)
          have HKb29 := Lib.hid (HKb28.out.on' hb)
          have HTb29 := Lib.hid (HTb28.out.below hb)
          have HKb49 := Lib.hid (HKb48.out.on' hb)
          have HTb49 := Lib.hid (HTb48.out.below hb)
          have HKb39 := Lib.hid (HKb38.out.on' hb)
          have HTb39 := Lib.hid (HTb38.out.below hb)
          have xf0 := HKx9.out.b0
          have xf1 := HKx9.out.b1
          have b2f0 := HKb29.out.b0
          have b2f1 := HKb29.out.b1
          have b4f0 := HKb49.out.b0
          have b4f1 := HKb49.out.b1
          have b3f0 := HKb39.out.b0
          have b3f1 := HKb39.out.b1
          have HB9 := Lib.hid (HB8.out.trans (hb.mono HB8.out.size))
          clear hb
          go_wp2_with fail
          refine (same_any k4 k a4 a n4 n c4 c l4 l w9 HTb49.out HTx9.out (by omega) true (by rw [HL4.out.1, HL4.out.2]; simp)).mono ?_
          clear xf0 xf1 b2f0 b2f1 b4f0 b4f1 b3f0 b3f1
          rintro e w10 ⟨rfl, hb⟩
          have HKx10 := Lib.hid (HKx9.out.on' hb)
          have HTx10 := Lib.hid (HTx9.out.below hb)
          have HKb210 := Lib.hid (HKb29.out.on' hb)
          have HTb210 := Lib.hid (HTb29.out.below hb)
          have HKb410 := Lib.hid (HKb49.out.on' hb)
          have HTb410 := Lib.hid (HTb49.out.below hb)
          have HKb310 := Lib.hid (HKb39.out.on' hb)
          have HTb310 := Lib.hid (HTb39.out.below hb)
          have xf0 := HKx10.out.b0
          have xf1 := HKx10.out.b1
          have b2f0 := HKb210.out.b0
          have b2f1 := HKb210.out.b1
          have b4f0 := HKb410.out.b0
          have b4f1 := HKb410.out.b1
          have b3f0 := HKb310.out.b0
          have b3f1 := HKb310.out.b1
          have HB10 := Lib.hid (HB9.out.trans (hb.mono HB9.out.size))
          clear hb
          go_wp2_with fail
          refine (may_any k a2 n2 c2 l2 w10 HTb210.out (by omega) true Hm2.out).mono ?_
          clear xf0 xf1 b2f0 b2f1 b4f0 b4f1 b3f0 b3f1
          rintro e w11 ⟨rfl, hb⟩
          have HKx11 := Lib.hid (HKx10.out.on' hb)
          have HTx11 := Lib.hid (HTx10.out.below hb)
          have HKb211 := Lib.hid (HKb210.out.on' hb)
          have HTb211 := Lib.hid (HTb210.out.below hb)
          have HKb411 := Lib.hid (HKb410.out.on' hb)
          have HTb411 := Lib.hid (HTb410.out.below hb)
          have HKb311 := Lib.hid (HKb310.out.on' hb)
          have HTb311 := Lib.hid (HTb310.out.below hb)
          have xf0 := HKx11.out.b0
          have xf1 := HKx11.out.b1
          have b2f0 := HKb211.out.b0
          have b2f1 := HKb211.out.b1
          have b4f0 := HKb411.out.b0
          have b4f1 := HKb411.out.b1
          have b3f0 := HKb311.out.b0
          have b3f1 := HKb311.out.b1
          have HB11 := Lib.hid (HB10.out.trans (hb.mono HB10.out.size))
          clear hb
          go_wp2_with fail
          refine (may_any k4 a4 n4 c4 l4 w11 HTb411.out (by omega) true Hm4.out).mono ?_
          clear xf0 xf1 b2f0 b2f1 b4f0 b4f1 b3f0 b3f1
          rintro e w12 ⟨rfl, hb⟩
          have HKx12 := Lib.hid (HKx11.out.on' hb)
          have HTx12 := Lib.hid (HTx11.out.below hb)
          have HKb212 := Lib.hid (HKb211.out.on' hb)
          have HTb212 := Lib.hid (HTb211.out.below hb)
          have HKb412 := Lib.hid (HKb411.out.on' hb)
          have HTb412 := Lib.hid (HTb411.out.below hb)
          have HKb312 := Lib.hid (HKb311.out.on' hb)
          have HTb312 := Lib.hid (HTb311.out.below hb)
          have xf0 := HKx12.out.b0
          have xf1 := HKx12.out.b1
          have b2f0 := HKb212.out.b0
          have b2f1 := HKb212.out.b1
          have b4f0 := HKb412.out.b0
          have b4f1 := HKb412.out.b1
          have b3f0 := HKb312.out.b0
          have b3f1 := HKb312.out.b1
          have HB12 := Lib.hid (HB11.out.trans (hb.mono HB11.out.size))
          clear hb
          go_wp2_with fail
          refine (may_any k a3 n3 c3 l3 w12 HTb312.out (by omega) true Hm3.out).mono ?_
          clear xf0 xf1 b2f0 b2f1 b4f0 b4f1 b3f0 b3f1
          rintro e w13 ⟨rfl, hb⟩
          have HKx13 := Lib.hid (HKx12.out.on' hb)
          have HTx13 := Lib.hid (HTx12.out.below hb)
          have HKb213 := Lib.hid (HKb212.out.on' hb)
          have HTb213 := Lib.hid (HTb212.out.below hb)
          have HKb413 := Lib.hid (HKb412.out.on' hb)
          have HTb413 := Lib.hid (HTb412.out.below hb)
          have HKb313 := Lib.hid (HKb312.out.on' hb)
          have HTb313 := Lib.hid (HTb312.out.below hb)
          have xf0 := HKx13.out.b0
          have xf1 := HKx13.out.b1
          have b2f0 := HKb213.out.b0
          have b2f1 := HKb213.out.b1
          have b4f0 := HKb413.out.b0
          have b4f1 := HKb413.out.b1
          have b3f0 := HKb313.out.b0
          have b3f1 := HKb313.out.b1
          have HB13 := Lib.hid (HB12.out.trans (hb.mono HB12.out.size))
          clear hb
          go_wp2
          go_ret
          exact ⟨rfl, HB13.out⟩
  · have g1 : decide ((70 : Int) < (n : Int)) = true := by simp; omega
    go_enter Try.func4, Try.ntmps4
    go_wp2_with fail
    refine (wawake_any (wbox w k a n c)).mono ?_
    rintro e w1 ⟨rfl, hb⟩
    have HKx1 := Lib.hid (HKx0.out.on' hb)
    have HTx1 := Lib.hid (HTx0.out.below hb)
    have xf0 := HKx1.out.b0
    have xf1 := HKx1.out.b1
    have HB1 := Lib.hid (HB0.out.trans (hb.mono HB0.out.size))
    clear hb
    go_wp2
    go_ret
    exact ⟨rfl, HB1.out⟩
end Go.Proofs.Ytmegkfonodcoiaa
