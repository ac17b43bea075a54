/-
  WheelTwice, at every wheel and two times.
-/
import Derived.Test.YtmegkfonodcoiaaWLaws
namespace Go.Proofs.Ytmegkfonodcoiaa
open Go.RowKit


set_option maxRecDepth 100000 in
set_option maxHeartbeats 4000000 in
theorem WheelTwice_in (k : Int) (a : Option Addr) (n c : Nat) (l : List W.Tm) (first to' : Int) (w : World) (h : TIn w a n c l) :
    Calls Try.prog 5 #[.agg #[.int .i64 k, .slice a n c], .int .i64 first, .int .i64 to'] w fun e w' => e = .returned (.bool true) ∧ Below w.heap.size w w' := by
  have hl := h.1
  have HB0 := Lib.hid (wbox_below w k a n c)
  have HKx0 := Lib.hid (wbox_blok w k a n c)
  have HTx0 := Lib.hid (h.below (wbox_below w k a n c))
  by_cases hn : n ≤ 70
  · have g1 : decide ((70 : Int) < (n : Int)) = false := by simp; omega
    by_cases hf : first ≤ to'
    · have g2 : decide (to' < first) = false := by simp; omega
      obtain ⟨⟨⟨k2, l2⟩, d2, e2⟩, s2⟩ : ∃ x, W.step k l to' = x := ⟨_, rfl⟩
      obtain ⟨n2, m2⟩ : ∃ m, l2.length = m := ⟨_, rfl⟩
      obtain ⟨q2, p2⟩ : ∃ m, d2.length = m := ⟨_, rfl⟩
      have b2 := W.step_len s2
      obtain ⟨⟨⟨k3, l3⟩, d3, e3⟩, s3⟩ : ∃ x, W.step k l first = x := ⟨_, rfl⟩
      obtain ⟨n3, m3⟩ : ∃ m, l3.length = m := ⟨_, rfl⟩
      obtain ⟨q3, p3⟩ : ∃ m, d3.length = m := ⟨_, rfl⟩
      have b3 := W.step_len s3
      obtain ⟨⟨⟨k4, l4⟩, d4, e4⟩, s4⟩ : ∃ x, W.step k3 l3 to' = x := ⟨_, rfl⟩
      obtain ⟨n4, m4⟩ : ∃ m, l4.length = m := ⟨_, rfl⟩
      obtain ⟨q4, p4⟩ : ∃ m, d4.length = m := ⟨_, rfl⟩
      have b4 := W.step_len s4
      have hz : e2 = 0 → e3 = 0 → k4 = k2 ∧ l4 = l2 ∧ e4 = 0 ∧ d2 = d3 ++ d4 := fun h2 h3 => by
        obtain ⟨D, h4, h5⟩ := W.twice (k := k) (l := l) hf (by rw [s2]; exact h2) (by rw [s3]; exact h3)
        rw [s2] at h4 h5
        rw [s3] at h4 h5
        rw [s4] at h4
        cases h4
        exact ⟨rfl, rfl, rfl, h5⟩
      have z2 : n2 ≤ 100 ∧ q2 ≤ 100 := by omega
      have z3 : n3 ≤ 100 ∧ q3 ≤ 100 := by omega
      have z4 : n4 ≤ 100 ∧ q4 ≤ 100 := by omega
      clear b2 b3 b4 hf
      have S2 := Lib.hid s2
      have S3 := Lib.hid s3
      have S4 := Lib.hid s4
      have M2 := Lib.hid m2
      have M3 := Lib.hid m3
      have M4 := Lib.hid m4
      have P2 := Lib.hid p2
      have P3 := Lib.hid p3
      have P4 := Lib.hid p4
      have Hz := Lib.hid hz
      have Hl := Lib.hid hl
      clear s2 s3 s4 m2 m3 m4 p2 p3 p4 hz hl
      by_cases he2 : e2 = 0
      · subst he2
        by_cases he3 : e3 = 0
        · subst he3
          obtain ⟨hk4, hl4, rfl, hd⟩ := Hz.out rfl rfl
          have HK4 := Lib.hid hk4
          have HL4 := Lib.hid hl4
          have HD := Lib.hid hd
          clear hk4 hl4 hd
          go_enter Try.func5, Try.ntmps5
          go_wp2_with fail
          refine (wawake_any (wbox w k a n c)).mono ?_
          rintro e w1 ⟨rfl, hb⟩
          have HKx1 := Lib.hid (HKx0.out.on' hb)
          have HTx1 := Lib.hid (HTx0.out.below hb)
          have xf0 := HKx1.out.b0
          have xf1 := HKx1.out.b1
          have HB1 := Lib.hid (HB0.out.trans (hb.mono HB0.out.size))
          clear hb
          go_wp2_with fail
          refine (step_is k to' a n c l k2 l2 d2 n2 q2 0 w1 HTx1.out (by omega) S2.out M2.out P2.out).mono ?_
          clear xf0 xf1
          rintro e w2 ⟨a2, c2, r2, o2, rfl, htb2, htd2, hb⟩
          have HKx2 := Lib.hid (HKx1.out.on' hb)
          have HTx2 := Lib.hid (HTx1.out.below hb)
          have xf0 := HKx2.out.b0
          have xf1 := HKx2.out.b1
          have HB2 := Lib.hid (HB1.out.trans (hb.mono HB1.out.size))
          clear hb
          have HTb22 := htb2
          clear htb2
          have HTd22 := htd2
          clear htd2
          have Nxb2 := Lib.hid (Nat.ne_of_lt HKx2.out.lt)
          have hb := wbox_below w2 k2 a2 n2 c2
          have HKx3 := Lib.hid (HKx2.out.on' hb)
          have HTx3 := Lib.hid (HTx2.out.below hb)
          have xb2a0 := fun o => (HKx2.out.alloc o).b0
          have xb2a1 := fun o => (HKx2.out.alloc o).b1
          have HTb23 := Lib.hid (HTb22.out.below hb)
          have HKb23 := Lib.hid (wbox_blok w2 k2 a2 n2 c2)
          have HB3 := Lib.hid (HB2.out.trans (hb.mono HB2.out.size))
          clear hb
          have HTd23 := Lib.hid (HTd22.out.below (wbox_below w2 k2 a2 n2 c2))
          go_wp2_with fail
          refine (step_is k first a n c l k3 l3 d3 n3 q3 0 (wbox w2 k2 a2 n2 c2) HTx3.out (by omega) S3.out M3.out P3.out).mono ?_
          clear xf0 xf1 xb2a0 xb2a1
          rintro e w4 ⟨a3, c3, r3, o3, rfl, htb3, htd3, hb⟩
          have HKx4 := Lib.hid (HKx3.out.on' hb)
          have HTx4 := Lib.hid (HTx3.out.below hb)
          have HKb24 := Lib.hid (HKb23.out.on' hb)
          have HTb24 := Lib.hid (HTb23.out.below hb)
          have HTd24 := Lib.hid (HTd23.out.below hb)
          have xf0 := HKx4.out.b0
          have xf1 := HKx4.out.b1
          have b2f0 := HKb24.out.b0
          have b2f1 := HKb24.out.b1
          have HB4 := Lib.hid (HB3.out.trans (hb.mono HB3.out.size))
          clear hb
          have HTb34 := htb3
          clear htb3
          have HTd34 := htd3
          clear htd3
          have Nxb3 := Lib.hid (Nat.ne_of_lt HKx4.out.lt)
          have Nb2b3 := Lib.hid (Nat.ne_of_lt HKb24.out.lt)
          have hb := wbox_below w4 k3 a3 n3 c3
          have HKx5 := Lib.hid (HKx4.out.on' hb)
          have HTx5 := Lib.hid (HTx4.out.below hb)
          have HKb25 := Lib.hid (HKb24.out.on' hb)
          have HTb25 := Lib.hid (HTb24.out.below hb)
          have HTd25 := Lib.hid (HTd24.out.below hb)
          have xb3a0 := fun o => (HKx4.out.alloc o).b0
          have xb3a1 := fun o => (HKx4.out.alloc o).b1
          have b2b3a0 := fun o => (HKb24.out.alloc o).b0
          have b2b3a1 := fun o => (HKb24.out.alloc o).b1
          have HTb35 := Lib.hid (HTb34.out.below hb)
          have HKb35 := Lib.hid (wbox_blok w4 k3 a3 n3 c3)
          have HB5 := Lib.hid (HB4.out.trans (hb.mono HB4.out.size))
          clear hb
          have HTd35 := Lib.hid (HTd34.out.below (wbox_below w4 k3 a3 n3 c3))
          go_wp2_with fail
          refine (step_is k3 to' a3 n3 c3 l3 k4 l4 d4 n4 q4 0 (wbox w4 k3 a3 n3 c3) HTb35.out (by omega) S4.out M4.out P4.out).mono ?_
          clear xf0 xf1 b2f0 b2f1 xb3a0 xb3a1 b2b3a0 b2b3a1
          rintro e w6 ⟨a4, c4, r4, o4, rfl, htb4, htd4, hb⟩
          have HKx6 := Lib.hid (HKx5.out.on' hb)
          have HTx6 := Lib.hid (HTx5.out.below hb)
          have HKb26 := Lib.hid (HKb25.out.on' hb)
          have HTb26 := Lib.hid (HTb25.out.below hb)
          have HKb36 := Lib.hid (HKb35.out.on' hb)
          have HTb36 := Lib.hid (HTb35.out.below hb)
          have HTd26 := Lib.hid (HTd25.out.below hb)
          have HTd36 := Lib.hid (HTd35.out.below hb)
          have xf0 := HKx6.out.b0
          have xf1 := HKx6.out.b1
          have b2f0 := HKb26.out.b0
          have b2f1 := HKb26.out.b1
          have b3f0 := HKb36.out.b0
          have b3f1 := HKb36.out.b1
          have HB6 := Lib.hid (HB5.out.trans (hb.mono HB5.out.size))
          clear hb
          have HTb46 := htb4
          clear htb4
          have HTd46 := htd4
          clear htd4
          have Nxb4 := Lib.hid (Nat.ne_of_lt HKx6.out.lt)
          have Nb2b4 := Lib.hid (Nat.ne_of_lt HKb26.out.lt)
          have Nb3b4 := Lib.hid (Nat.ne_of_lt HKb36.out.lt)
          have hb := wbox_below w6 k4 a4 n4 c4
          have HKx7 := Lib.hid (HKx6.out.on' hb)
          have HTx7 := Lib.hid (HTx6.out.below hb)
          have HKb27 := Lib.hid (HKb26.out.on' hb)
          have HTb27 := Lib.hid (HTb26.out.below hb)
          have HKb37 := Lib.hid (HKb36.out.on' hb)
          have HTb37 := Lib.hid (HTb36.out.below hb)
          have HTd27 := Lib.hid (HTd26.out.below hb)
          have HTd37 := Lib.hid (HTd36.out.below hb)
          have xb4a0 := fun o => (HKx6.out.alloc o).b0
          have xb4a1 := fun o => (HKx6.out.alloc o).b1
          have b2b4a0 := fun o => (HKb26.out.alloc o).b0
          have b2b4a1 := fun o => (HKb26.out.alloc o).b1
          have b3b4a0 := fun o => (HKb36.out.alloc o).b0
          have b3b4a1 := fun o => (HKb36.out.alloc o).b1
          have HTb47 := Lib.hid (HTb46.out.below hb)
          have HKb47 := Lib.hid (wbox_blok w6 k4 a4 n4 c4)
          have HB7 := Lib.hid (HB6.out.trans (hb.mono HB6.out.size))
          clear hb
          have HTd47 := Lib.hid (HTd46.out.below (wbox_below w6 k4 a4 n4 c4))
          obtain ⟨V, hV⟩ : ∃ V, (wbox w6 k4 a4 n4 c4) = V := ⟨_, rfl⟩
          have FD3 : Hid (TIn V r3 q3 o3 d3) := Lib.hid (by rw [← hV]; exact HTd37.out)
          have FD4 : Hid (TIn V r4 q4 o4 d4) := Lib.hid (by rw [← hV]; exact HTd47.out)
          have hV' := hV
          unfold wbox at hV'
          have HV' := Lib.hid hV'
          clear hV'
          clear xf0 xf1 b2f0 b2f1 b3f0 b3f1 xb4a0 xb4a1 b2b4a0 b2b4a1 b3b4a0 b3b4a1
          have HV := Lib.hid hV
          clear hV
          go_wp2_with (at_builtin; first | (rw [HV'.out]; refine wpList_appendTs rfl (.const (.slice none 0 0)) (.tmp 61) rfl V.heap.size _ 0 [] rfl (World.ownsRow_nil _ _ _ _) r3 q3 o3 d3 rfl FD3.out (by omega) (Nat.le_refl _) ?_; intro v8 w8 hown8 hgrow8; rw [Nat.zero_add] at hown8; have HO8 := Lib.hid hown8; have HG8 := Lib.hid hgrow8; clear hown8 hgrow8) | (refine wpList_appendTs rfl (.tmp 62) (.tmp 63) rfl V.heap.size v8 q3 ([] ++ d3) rfl HO8.out r4 q4 o4 d4 rfl (FD4.out.below (none_below HG8.out)) (by omega) HG8.out.size ?_; intro v9 w9 hown9 hgrow9; have hb := below_appended0 HO8.out HG8.out.size (none_below HG8.out) hgrow9; obtain ⟨a9, c9, rfl, ht9⟩ := own_timers hown9 (by have h3 := FD3.out.1; have h4 := FD4.out.1; simp; omega); have HT9 := Lib.hid ht9; clear ht9 hown9 hgrow9; have HBV := Lib.hid hb; clear hb))
          rw [← HV.out] at HBV
          have hb := HBV.out
          clear HBV
          have HKx8 := Lib.hid (HKx7.out.on' hb)
          have HTx8 := Lib.hid (HTx7.out.below hb)
          have HKb28 := Lib.hid (HKb27.out.on' hb)
          have HTb28 := Lib.hid (HTb27.out.below hb)
          have HKb38 := Lib.hid (HKb37.out.on' hb)
          have HTb38 := Lib.hid (HTb37.out.below hb)
          have HKb48 := Lib.hid (HKb47.out.on' hb)
          have HTb48 := Lib.hid (HTb47.out.below hb)
          have HTd28 := Lib.hid (HTd27.out.below hb)
          have HTd38 := Lib.hid (HTd37.out.below hb)
          have HTd48 := Lib.hid (HTd47.out.below hb)
          have HB8 := Lib.hid (HB7.out.trans (hb.mono HB7.out.size))
          clear hb HV HV'
          skip
          refine (timers_any r2 a9 q2 (q3 + q4) o2 c9 d2 ([] ++ d3 ++ d4) w9 HTd28.out HT9.out (by omega) true (by rw [HD.out]; simp)).mono ?_
          rintro e w9 ⟨rfl, hb⟩
          have HKx9 := Lib.hid (HKx8.out.on' hb)
          have HTx9 := Lib.hid (HTx8.out.below hb)
          have HKb29 := Lib.hid (HKb28.out.on' hb)
          have HTb29 := Lib.hid (HTb28.out.below hb)
          have HKb39 := Lib.hid (HKb38.out.on' hb)
          have HTb39 := Lib.hid (HTb38.out.below hb)
          have HKb49 := Lib.hid (HKb48.out.on' hb)
          have HTb49 := Lib.hid (HTb48.out.below hb)
          have HTd29 := Lib.hid (HTd28.out.below hb)
          have HTd39 := Lib.hid (HTd38.out.below hb)
          have HTd49 := Lib.hid (HTd48.out.below hb)
          have xf0 := HKx9.out.b0
          have xf1 := HKx9.out.b1
          have b2f0 := HKb29.out.b0
          have b2f1 := HKb29.out.b1
          have b3f0 := HKb39.out.b0
          have b3f1 := HKb39.out.b1
          have b4f0 := HKb49.out.b0
          have b4f1 := HKb49.out.b1
          have HB9 := Lib.hid (HB8.out.trans (hb.mono HB8.out.size))
          clear hb
          go_wp2_with fail
          refine (same_any k2 k4 a2 a4 n2 n4 c2 c4 l2 l4 w9 HTb29.out HTb49.out (by omega) true (by rw [HK4.out, HL4.out]; simp)).mono ?_
          clear xf0 xf1 b2f0 b2f1 b3f0 b3f1 b4f0 b4f1
          rintro e w10 ⟨rfl, hb⟩
          have HKx10 := Lib.hid (HKx9.out.on' hb)
          have HTx10 := Lib.hid (HTx9.out.below hb)
          have HKb210 := Lib.hid (HKb29.out.on' hb)
          have HTb210 := Lib.hid (HTb29.out.below hb)
          have HKb310 := Lib.hid (HKb39.out.on' hb)
          have HTb310 := Lib.hid (HTb39.out.below hb)
          have HKb410 := Lib.hid (HKb49.out.on' hb)
          have HTb410 := Lib.hid (HTb49.out.below hb)
          have HTd210 := Lib.hid (HTd29.out.below hb)
          have HTd310 := Lib.hid (HTd39.out.below hb)
          have HTd410 := Lib.hid (HTd49.out.below hb)
          have xf0 := HKx10.out.b0
          have xf1 := HKx10.out.b1
          have b2f0 := HKb210.out.b0
          have b2f1 := HKb210.out.b1
          have b3f0 := HKb310.out.b0
          have b3f1 := HKb310.out.b1
          have b4f0 := HKb410.out.b0
          have b4f1 := HKb410.out.b1
          have HB10 := Lib.hid (HB9.out.trans (hb.mono HB9.out.size))
          clear hb
          go_wp2
          go_ret
          exact ⟨rfl, HB10.out⟩
        · have ue3 : (e3 == 0) = false := by simpa using he3
          have ve3 : (e3 != 0) = true := by simpa using he3
          have te3 : decide (e3 = 0) = false := by simpa using he3
          clear he3
          go_enter Try.func5, Try.ntmps5
          go_wp2_with fail
          refine (wawake_any (wbox w k a n c)).mono ?_
          rintro e w1 ⟨rfl, hb⟩
          have HKx1 := Lib.hid (HKx0.out.on' hb)
          have HTx1 := Lib.hid (HTx0.out.below hb)
          have xf0 := HKx1.out.b0
          have xf1 := HKx1.out.b1
          have HB1 := Lib.hid (HB0.out.trans (hb.mono HB0.out.size))
          clear hb
          go_wp2_with fail
          refine (step_is k to' a n c l k2 l2 d2 n2 q2 0 w1 HTx1.out (by omega) S2.out M2.out P2.out).mono ?_
          clear xf0 xf1
          rintro e w2 ⟨a2, c2, r2, o2, rfl, htb2, htd2, hb⟩
          have HKx2 := Lib.hid (HKx1.out.on' hb)
          have HTx2 := Lib.hid (HTx1.out.below hb)
          have xf0 := HKx2.out.b0
          have xf1 := HKx2.out.b1
          have HB2 := Lib.hid (HB1.out.trans (hb.mono HB1.out.size))
          clear hb
          have HTb22 := htb2
          clear htb2
          have HTd22 := htd2
          clear htd2
          have Nxb2 := Lib.hid (Nat.ne_of_lt HKx2.out.lt)
          have hb := wbox_below w2 k2 a2 n2 c2
          have HKx3 := Lib.hid (HKx2.out.on' hb)
          have HTx3 := Lib.hid (HTx2.out.below hb)
          have xb2a0 := fun o => (HKx2.out.alloc o).b0
          have xb2a1 := fun o => (HKx2.out.alloc o).b1
          have HTb23 := Lib.hid (HTb22.out.below hb)
          have HKb23 := Lib.hid (wbox_blok w2 k2 a2 n2 c2)
          have HB3 := Lib.hid (HB2.out.trans (hb.mono HB2.out.size))
          clear hb
          have HTd23 := Lib.hid (HTd22.out.below (wbox_below w2 k2 a2 n2 c2))
          go_wp2_with fail
          refine (step_is k first a n c l k3 l3 d3 n3 q3 e3 (wbox w2 k2 a2 n2 c2) HTx3.out (by omega) S3.out M3.out P3.out).mono ?_
          clear xf0 xf1 xb2a0 xb2a1
          rintro e w4 ⟨a3, c3, r3, o3, rfl, htb3, htd3, hb⟩
          have HKx4 := Lib.hid (HKx3.out.on' hb)
          have HTx4 := Lib.hid (HTx3.out.below hb)
          have HKb24 := Lib.hid (HKb23.out.on' hb)
          have HTb24 := Lib.hid (HTb23.out.below hb)
          have HTd24 := Lib.hid (HTd23.out.below hb)
          have xf0 := HKx4.out.b0
          have xf1 := HKx4.out.b1
          have b2f0 := HKb24.out.b0
          have b2f1 := HKb24.out.b1
          have HB4 := Lib.hid (HB3.out.trans (hb.mono HB3.out.size))
          clear hb
          have HTb34 := htb3
          clear htb3
          have HTd34 := htd3
          clear htd3
          have Nxb3 := Lib.hid (Nat.ne_of_lt HKx4.out.lt)
          have Nb2b3 := Lib.hid (Nat.ne_of_lt HKb24.out.lt)
          have hb := wbox_below w4 k3 a3 n3 c3
          have HKx5 := Lib.hid (HKx4.out.on' hb)
          have HTx5 := Lib.hid (HTx4.out.below hb)
          have HKb25 := Lib.hid (HKb24.out.on' hb)
          have HTb25 := Lib.hid (HTb24.out.below hb)
          have HTd25 := Lib.hid (HTd24.out.below hb)
          have xb3a0 := fun o => (HKx4.out.alloc o).b0
          have xb3a1 := fun o => (HKx4.out.alloc o).b1
          have b2b3a0 := fun o => (HKb24.out.alloc o).b0
          have b2b3a1 := fun o => (HKb24.out.alloc o).b1
          have HTb35 := Lib.hid (HTb34.out.below hb)
          have HKb35 := Lib.hid (wbox_blok w4 k3 a3 n3 c3)
          have HB5 := Lib.hid (HB4.out.trans (hb.mono HB4.out.size))
          clear hb
          have HTd35 := Lib.hid (HTd34.out.below (wbox_below w4 k3 a3 n3 c3))
          go_wp2_with fail
          refine (step_is k3 to' a3 n3 c3 l3 k4 l4 d4 n4 q4 e4 (wbox w4 k3 a3 n3 c3) HTb35.out (by omega) S4.out M4.out P4.out).mono ?_
          clear xf0 xf1 b2f0 b2f1 xb3a0 xb3a1 b2b3a0 b2b3a1
          rintro e w6 ⟨a4, c4, r4, o4, rfl, htb4, htd4, hb⟩
          have HKx6 := Lib.hid (HKx5.out.on' hb)
          have HTx6 := Lib.hid (HTx5.out.below hb)
          have HKb26 := Lib.hid (HKb25.out.on' hb)
          have HTb26 := Lib.hid (HTb25.out.below hb)
          have HKb36 := Lib.hid (HKb35.out.on' hb)
          have HTb36 := Lib.hid (HTb35.out.below hb)
          have HTd26 := Lib.hid (HTd25.out.below hb)
          have HTd36 := Lib.hid (HTd35.out.below hb)
          have xf0 := HKx6.out.b0
          have xf1 := HKx6.out.b1
          have b2f0 := HKb26.out.b0
          have b2f1 := HKb26.out.b1
          have b3f0 := HKb36.out.b0
          have b3f1 := HKb36.out.b1
          have HB6 := Lib.hid (HB5.out.trans (hb.mono HB5.out.size))
          clear hb
          have HTb46 := htb4
          clear htb4
          have HTd46 := htd4
          clear htd4
          have Nxb4 := Lib.hid (Nat.ne_of_lt HKx6.out.lt)
          have Nb2b4 := Lib.hid (Nat.ne_of_lt HKb26.out.lt)
          have Nb3b4 := Lib.hid (Nat.ne_of_lt HKb36.out.lt)
          have hb := wbox_below w6 k4 a4 n4 c4
          have HKx7 := Lib.hid (HKx6.out.on' hb)
          have HTx7 := Lib.hid (HTx6.out.below hb)
          have HKb27 := Lib.hid (HKb26.out.on' hb)
          have HTb27 := Lib.hid (HTb26.out.below hb)
          have HKb37 := Lib.hid (HKb36.out.on' hb)
          have HTb37 := Lib.hid (HTb36.out.below hb)
          have HTd27 := Lib.hid (HTd26.out.below hb)
          have HTd37 := Lib.hid (HTd36.out.below hb)
          have xb4a0 := fun o => (HKx6.out.alloc o).b0
          have xb4a1 := fun o => (HKx6.out.alloc o).b1
          have b2b4a0 := fun o => (HKb26.out.alloc o).b0
          have b2b4a1 := fun o => (HKb26.out.alloc o).b1
          have b3b4a0 := fun o => (HKb36.out.alloc o).b0
          have b3b4a1 := fun o => (HKb36.out.alloc o).b1
          have HTb47 := Lib.hid (HTb46.out.below hb)
          have HKb47 := Lib.hid (wbox_blok w6 k4 a4 n4 c4)
          have HB7 := Lib.hid (HB6.out.trans (hb.mono HB6.out.size))
          clear hb
          have HTd47 := Lib.hid (HTd46.out.below (wbox_below w6 k4 a4 n4 c4))
          go_wp2
          go_ret
          exact ⟨rfl, HB7.out⟩
      · have ue2 : (e2 == 0) = false := by simpa using he2
        have ve2 : (e2 != 0) = true := by simpa using he2
        have te2 : decide (e2 = 0) = false := by simpa using he2
        clear he2
        go_enter Try.func5, Try.ntmps5
        go_wp2_with fail
        refine (wawake_any (wbox w k a n c)).mono ?_
        rintro e w1 ⟨rfl, hb⟩
        have HKx1 := Lib.hid (HKx0.out.on' hb)
        have HTx1 := Lib.hid (HTx0.out.below hb)
        have xf0 := HKx1.out.b0
        have xf1 := HKx1.out.b1
        have HB1 := Lib.hid (HB0.out.trans (hb.mono HB0.out.size))
        clear hb
        go_wp2_with fail
        refine (step_is k to' a n c l k2 l2 d2 n2 q2 e2 w1 HTx1.out (by omega) S2.out M2.out P2.out).mono ?_
        clear xf0 xf1
        rintro e w2 ⟨a2, c2, r2, o2, rfl, htb2, htd2, hb⟩
        have HKx2 := Lib.hid (HKx1.out.on' hb)
        have HTx2 := Lib.hid (HTx1.out.below hb)
        have xf0 := HKx2.out.b0
        have xf1 := HKx2.out.b1
        have HB2 := Lib.hid (HB1.out.trans (hb.mono HB1.out.size))
        clear hb
        have HTb22 := htb2
        clear htb2
        have HTd22 := htd2
        clear htd2
        have Nxb2 := Lib.hid (Nat.ne_of_lt HKx2.out.lt)
        have hb := wbox_below w2 k2 a2 n2 c2
        have HKx3 := Lib.hid (HKx2.out.on' hb)
        have HTx3 := Lib.hid (HTx2.out.below hb)
        have xb2a0 := fun o => (HKx2.out.alloc o).b0
        have xb2a1 := fun o => (HKx2.out.alloc o).b1
        have HTb23 := Lib.hid (HTb22.out.below hb)
        have HKb23 := Lib.hid (wbox_blok w2 k2 a2 n2 c2)
        have HB3 := Lib.hid (HB2.out.trans (hb.mono HB2.out.size))
        clear hb
        have HTd23 := Lib.hid (HTd22.out.below (wbox_below w2 k2 a2 n2 c2))
        go_wp2_with fail
        refine (step_is k first a n c l k3 l3 d3 n3 q3 e3 (wbox w2 k2 a2 n2 c2) HTx3.out (by omega) S3.out M3.out P3.out).mono ?_
        clear xf0 xf1 xb2a0 xb2a1
        rintro e w4 ⟨a3, c3, r3, o3, rfl, htb3, htd3, hb⟩
        have HKx4 := Lib.hid (HKx3.out.on' hb)
        have HTx4 := Lib.hid (HTx3.out.below hb)
        have HKb24 := Lib.hid (HKb23.out.on' hb)
        have HTb24 := Lib.hid (HTb23.out.below hb)
        have HTd24 := Lib.hid (HTd23.out.below hb)
        have xf0 := HKx4.out.b0
        have xf1 := HKx4.out.b1
        have b2f0 := HKb24.out.b0
        have b2f1 := HKb24.out.b1
        have HB4 := Lib.hid (HB3.out.trans (hb.mono HB3.out.size))
        clear hb
        have HTb34 := htb3
        clear htb3
        have HTd34 := htd3
        clear htd3
        have Nxb3 := Lib.hid (Nat.ne_of_lt HKx4.out.lt)
        have Nb2b3 := Lib.hid (Nat.ne_of_lt HKb24.out.lt)
        have hb := wbox_below w4 k3 a3 n3 c3
        have HKx5 := Lib.hid (HKx4.out.on' hb)
        have HTx5 := Lib.hid (HTx4.out.below hb)
        have HKb25 := Lib.hid (HKb24.out.on' hb)
        have HTb25 := Lib.hid (HTb24.out.below hb)
        have HTd25 := Lib.hid (HTd24.out.below hb)
        have xb3a0 := fun o => (HKx4.out.alloc o).b0
        have xb3a1 := fun o => (HKx4.out.alloc o).b1
        have b2b3a0 := fun o => (HKb24.out.alloc o).b0
        have b2b3a1 := fun o => (HKb24.out.alloc o).b1
        have HTb35 := Lib.hid (HTb34.out.below hb)
        have HKb35 := Lib.hid (wbox_blok w4 k3 a3 n3 c3)
        have HB5 := Lib.hid (HB4.out.trans (hb.mono HB4.out.size))
        clear hb
        have HTd35 := Lib.hid (HTd34.out.below (wbox_below w4 k3 a3 n3 c3))
        go_wp2_with fail
        refine (step_is k3 to' a3 n3 c3 l3 k4 l4 d4 n4 q4 e4 (wbox w4 k3 a3 n3 c3) HTb35.out (by omega) S4.out M4.out P4.out).mono ?_
        clear xf0 xf1 b2f0 b2f1 xb3a0 xb3a1 b2b3a0 b2b3a1
        rintro e w6 ⟨a4, c4, r4, o4, rfl, htb4, htd4, hb⟩
        have HKx6 := Lib.hid (HKx5.out.on' hb)
        have HTx6 := Lib.hid (HTx5.out.below hb)
        have HKb26 := Lib.hid (HKb25.out.on' hb)
        have HTb26 := Lib.hid (HTb25.out.below hb)
        have HKb36 := Lib.hid (HKb35.out.on' hb)
        have HTb36 := Lib.hid (HTb35.out.below hb)
        have HTd26 := Lib.hid (HTd25.out.below hb)
        have HTd36 := Lib.hid (HTd35.out.below hb)
        have xf0 := HKx6.out.b0
        have xf1 := HKx6.out.b1
        have b2f0 := HKb26.out.b0
        have b2f1 := HKb26.out.b1
        have b3f0 := HKb36.out.b0
        have b3f1 := HKb36.out.b1
        have HB6 := Lib.hid (HB5.out.trans (hb.mono HB5.out.size))
        clear hb
        have HTb46 := htb4
        clear htb4
        have HTd46 := htd4
        clear htd4
        have Nxb4 := Lib.hid (Nat.ne_of_lt HKx6.out.lt)
        have Nb2b4 := Lib.hid (Nat.ne_of_lt HKb26.out.lt)
        have Nb3b4 := Lib.hid (Nat.ne_of_lt HKb36.out.lt)
        have hb := wbox_below w6 k4 a4 n4 c4
        have HKx7 := Lib.hid (HKx6.out.on' hb)
        have HTx7 := Lib.hid (HTx6.out.below hb)
        have HKb27 := Lib.hid (HKb26.out.on' hb)
        have HTb27 := Lib.hid (HTb26.out.below hb)
        have HKb37 := Lib.hid (HKb36.out.on' hb)
        have HTb37 := Lib.hid (HTb36.out.below hb)
        have HTd27 := Lib.hid (HTd26.out.below hb)
        have HTd37 := Lib.hid (HTd36.out.below hb)
        have xb4a0 := fun o => (HKx6.out.alloc o).b0
        have xb4a1 := fun o => (HKx6.out.alloc o).b1
        have b2b4a0 := fun o => (HKb26.out.alloc o).b0
        have b2b4a1 := fun o => (HKb26.out.alloc o).b1
        have b3b4a0 := fun o => (HKb36.out.alloc o).b0
        have b3b4a1 := fun o => (HKb36.out.alloc o).b1
        have HTb47 := Lib.hid (HTb46.out.below hb)
        have HKb47 := Lib.hid (wbox_blok w6 k4 a4 n4 c4)
        have HB7 := Lib.hid (HB6.out.trans (hb.mono HB6.out.size))
        clear hb
        have HTd47 := Lib.hid (HTd46.out.below (wbox_below w6 k4 a4 n4 c4))
        go_wp2
        go_ret
        exact ⟨rfl, HB7.out⟩
    · have g2 : decide (to' < first) = true := by simp; omega
      go_enter Try.func5, Try.ntmps5
      go_wp2_with fail
      refine (wawake_any (wbox w k a n c)).mono ?_
      rintro e w1 ⟨rfl, hb⟩
      have HKx1 := Lib.hid (HKx0.out.on' hb)
      have HTx1 := Lib.hid (HTx0.out.below hb)
      have xf0 := HKx1.out.b0
      have xf1 := HKx1.out.b1
      have HB1 := Lib.hid (HB0.out.trans (hb.mono HB0.out.size))
      clear hb
      go_wp2
      go_ret
      exact ⟨rfl, HB1.out⟩
  · have g1 : decide ((70 : Int) < (n : Int)) = true := by simp; omega
    go_enter Try.func5, Try.ntmps5
    go_wp2_with fail
    refine (wawake_any (wbox w k a n c)).mono ?_
    rintro e w1 ⟨rfl, hb⟩
    have HKx1 := Lib.hid (HKx0.out.on' hb)
    have HTx1 := Lib.hid (HTx0.out.below hb)
    have xf0 := HKx1.out.b0
    have xf1 := HKx1.out.b1
    have HB1 := Lib.hid (HB0.out.trans (hb.mono HB0.out.size))
    clear hb
    go_wp2
    go_ret
    exact ⟨rfl, HB1.out⟩
end Go.Proofs.Ytmegkfonodcoiaa
