/-
  WheelDrops, at every wheel, number and time.
-/
import Derived.Test.YtmegkfonodcoiaaWLaws
namespace Go.Proofs.Ytmegkfonodcoiaa
open Go.RowKit


set_option maxRecDepth 100000 in
set_option maxHeartbeats 2000000 in
theorem WheelDrops_in (k : Int) (a : Option Addr) (n c : Nat) (l : List W.Tm) (id tt : Int) (w : World) (h : TIn w a n c l) :
    Calls Try.prog 9 #[.agg #[.int .i64 k, .slice a n c], .int .i64 id, .int .i64 tt] w fun e w' => e = .returned (.bool true) ∧ Below w.heap.size w w' := by
  have hl := h.1
  have HB0 := Lib.hid (wbox_below w k a n c)
  have HKx0 := Lib.hid (wbox_blok w k a n c)
  have HTx0 := Lib.hid (h.below (wbox_below w k a n c))
  by_cases hn : n ≤ 70
  · have g1 : decide ((70 : Int) < (n : Int)) = false := by simp; omega
    obtain ⟨⟨l3, e3⟩, s3⟩ : ∃ x, W.drop k l id = x := ⟨_, rfl⟩
    obtain ⟨n3, m3⟩ : ∃ m, l3.length = m := ⟨_, rfl⟩
    have b3 := W.drop_len' s3
    obtain ⟨⟨⟨k4, l4⟩, d4, e4⟩, s4⟩ : ∃ x, W.step k l tt = x := ⟨_, rfl⟩
    obtain ⟨n4, m4⟩ : ∃ m, l4.length = m := ⟨_, rfl⟩
    obtain ⟨q4, p4⟩ : ∃ m, d4.length = m := ⟨_, rfl⟩
    have b4 := W.step_len s4
    obtain ⟨⟨⟨k5, l5⟩, d5, e5⟩, s5⟩ : ∃ x, W.step k l3 tt = x := ⟨_, rfl⟩
    obtain ⟨n5, m5⟩ : ∃ m, l5.length = m := ⟨_, rfl⟩
    obtain ⟨q5, p5⟩ : ∃ m, d5.length = m := ⟨_, rfl⟩
    have b5 := W.step_len s5
    have hdr := W.drops (k := k) (tt := tt) (l := l) (id := id)
    rw [s3, s4] at hdr
    simp only at hdr
    rw [s5] at hdr
    simp only at hdr
    obtain ⟨rfl, hd2, hd3⟩ := hdr
    have H2 := Lib.hid hd2
    have H3 := Lib.hid hd3
    have f1 : (e4 == e4) = true := by simp
    have z2 : n3 ≤ 100 := by omega
    have z3 : n4 ≤ 100 ∧ q4 ≤ 100 := by omega
    have z4 : n5 ≤ 100 ∧ q5 ≤ 100 := by omega
    clear b3 b4 b5 hd2 hd3
    have S3 := Lib.hid s3
    have S4 := Lib.hid s4
    have S5 := Lib.hid s5
    have M3 := Lib.hid m3
    have M4 := Lib.hid m4
    have M5 := Lib.hid m5
    have P4 := Lib.hid p4
    have P5 := Lib.hid p5
    have Hl := Lib.hid hl
    clear s3 s4 s5 m3 m4 m5 p4 p5 hl
    cases e3
    · have HL : Hid (l3 = l) := Lib.hid (H2.out.resolve_left (by decide))
      go_enter Try.func9, Try.ntmps9
      go_wp2_with fail
      refine (wawake_any (wbox w k a n c)).mono ?_
      rintro e w1 ⟨rfl, hb⟩
      have HKx1 := Lib.hid (HKx0.out.on' hb)
      have HTx1 := Lib.hid (HTx0.out.below hb)
      have xf0 := HKx1.out.b0
      have xf1 := HKx1.out.b1
      have HB1 := Lib.hid (HB0.out.trans (hb.mono HB0.out.size))
      clear hb
      go_wp2_with fail
      refine (drop_is k id a n c l l3 n3 false w1 HTx1.out (by omega) S3.out M3.out).mono ?_
      clear xf0 xf1
      rintro e w2 ⟨a3, c3, rfl, htb3, hb⟩
      have HKx2 := Lib.hid (HKx1.out.on' hb)
      have HTx2 := Lib.hid (HTx1.out.below hb)
      have xf0 := HKx2.out.b0
      have xf1 := HKx2.out.b1
      have HB2 := Lib.hid (HB1.out.trans (hb.mono HB1.out.size))
      clear hb
      have HTb32 := htb3
      clear htb3
      have Nxb3 := Lib.hid (Nat.ne_of_lt HKx2.out.lt)
      have hb := wbox_below w2 k a3 n3 c3
      have HKx3 := Lib.hid (HKx2.out.on' hb)
      have HTx3 := Lib.hid (HTx2.out.below hb)
      have xb3a0 := fun o => (HKx2.out.alloc o).b0
      have xb3a1 := fun o => (HKx2.out.alloc o).b1
      have HTb33 := Lib.hid (HTb32.out.below hb)
      have HKb33 := Lib.hid (wbox_blok w2 k a3 n3 c3)
      have HB3 := Lib.hid (HB2.out.trans (hb.mono HB2.out.size))
      clear hb
      go_wp2_with fail
      refine (step_is k tt a n c l k4 l4 d4 n4 q4 e4 (wbox w2 k a3 n3 c3) HTx3.out (by omega) S4.out M4.out P4.out).mono ?_
      clear xf0 xf1 xb3a0 xb3a1
      rintro e w4 ⟨a4, c4, r4, o4, rfl, htb4, htd4, hb⟩
      have HKx4 := Lib.hid (HKx3.out.on' hb)
      have HTx4 := Lib.hid (HTx3.out.below hb)
      have HKb34 := Lib.hid (HKb33.out.on' hb)
      have HTb34 := Lib.hid (HTb33.out.below hb)
      have xf0 := HKx4.out.b0
      have xf1 := HKx4.out.b1
      have b3f0 := HKb34.out.b0
      have b3f1 := HKb34.out.b1
      have HB4 := Lib.hid (HB3.out.trans (hb.mono HB3.out.size))
      clear hb
      have HTb44 := htb4
      clear htb4
      have HTd44 := htd4
      clear htd4
      have Nxb4 := Lib.hid (Nat.ne_of_lt HKx4.out.lt)
      have Nb3b4 := Lib.hid (Nat.ne_of_lt HKb34.out.lt)
      have hb := wbox_below w4 k4 a4 n4 c4
      have HKx5 := Lib.hid (HKx4.out.on' hb)
      have HTx5 := Lib.hid (HTx4.out.below hb)
      have HKb35 := Lib.hid (HKb34.out.on' hb)
      have HTb35 := Lib.hid (HTb34.out.below hb)
      have xb4a0 := fun o => (HKx4.out.alloc o).b0
      have xb4a1 := fun o => (HKx4.out.alloc o).b1
      have b3b4a0 := fun o => (HKb34.out.alloc o).b0
      have b3b4a1 := fun o => (HKb34.out.alloc o).b1
      have HTb45 := Lib.hid (HTb44.out.below hb)
      have HKb45 := Lib.hid (wbox_blok w4 k4 a4 n4 c4)
      have HB5 := Lib.hid (HB4.out.trans (hb.mono HB4.out.size))
      clear hb
      have HTd45 := Lib.hid (HTd44.out.below (wbox_below w4 k4 a4 n4 c4))
      go_wp2_with fail
      refine (step_is k tt a3 n3 c3 l3 k5 l5 d5 n5 q5 e4 (wbox w4 k4 a4 n4 c4) HTb35.out (by omega) S5.out M5.out P5.out).mono ?_
      clear xf0 xf1 b3f0 b3f1 xb4a0 xb4a1 b3b4a0 b3b4a1
      rintro e w6 ⟨a5, c5, r5, o5, rfl, htb5, htd5, hb⟩
      have HKx6 := Lib.hid (HKx5.out.on' hb)
      have HTx6 := Lib.hid (HTx5.out.below hb)
      have HKb36 := Lib.hid (HKb35.out.on' hb)
      have HTb36 := Lib.hid (HTb35.out.below hb)
      have HKb46 := Lib.hid (HKb45.out.on' hb)
      have HTb46 := Lib.hid (HTb45.out.below hb)
      have HTd46 := Lib.hid (HTd45.out.below hb)
      have xf0 := HKx6.out.b0
      have xf1 := HKx6.out.b1
      have b3f0 := HKb36.out.b0
      have b3f1 := HKb36.out.b1
      have b4f0 := HKb46.out.b0
      have b4f1 := HKb46.out.b1
      have HB6 := Lib.hid (HB5.out.trans (hb.mono HB5.out.size))
      clear hb
      have HTb56 := htb5
      clear htb5
      have HTd56 := htd5
      clear htd5
      have Nxb5 := Lib.hid (Nat.ne_of_lt HKx6.out.lt)
      have Nb3b5 := Lib.hid (Nat.ne_of_lt HKb36.out.lt)
      have Nb4b5 := Lib.hid (Nat.ne_of_lt HKb46.out.lt)
      have hb := wbox_below w6 k5 a5 n5 c5
      have HKx7 := Lib.hid (HKx6.out.on' hb)
      have HTx7 := Lib.hid (HTx6.out.below hb)
      have HKb37 := Lib.hid (HKb36.out.on' hb)
      have HTb37 := Lib.hid (HTb36.out.below hb)
      have HKb47 := Lib.hid (HKb46.out.on' hb)
      have HTb47 := Lib.hid (HTb46.out.below hb)
      have HTd47 := Lib.hid (HTd46.out.below hb)
      have xb5a0 := fun o => (HKx6.out.alloc o).b0
      have xb5a1 := fun o => (HKx6.out.alloc o).b1
      have b3b5a0 := fun o => (HKb36.out.alloc o).b0
      have b3b5a1 := fun o => (HKb36.out.alloc o).b1
      have b4b5a0 := fun o => (HKb46.out.alloc o).b0
      have b4b5a1 := fun o => (HKb46.out.alloc o).b1
      have HTb57 := Lib.hid (HTb56.out.below hb)
      have HKb57 := Lib.hid (wbox_blok w6 k5 a5 n5 c5)
      have HB7 := Lib.hid (HB6.out.trans (hb.mono HB6.out.size))
      clear hb
      have HTd57 := Lib.hid (HTd56.out.below (wbox_below w6 k5 a5 n5 c5))
      clear xf0 xf1 b3f0 b3f1 b4f0 b4f1 xb5a0 xb5a1 b3b5a0 b3b5a1 b4b5a0 b4b5a1
      have HB' := HB7
      have FD4 := HTd47
      have FD5 := HTd57
      have FX := HTx7
      have FY := HTb37
      have FKX := HKx7
      have FKY := HKb37
      obtain ⟨V, hV⟩ : ∃ V, (wbox w6 k5 a5 n5 c5) = V := ⟨_, rfl⟩
      rw [hV] at HB' FD4 FD5 FX FY FKX FKY
      unfold wbox at hV
      go_wp2_with fail
      try rw [hV]
      clear hV
      go_loopw [16, 17] (fun sv sj wr => ∃ (v : Value) (j q : Nat), v = sv ∧ sj = .int .i64 j ∧ j ≤ q4 ∧ q ≤ j ∧ Hid (((d4.take j).filter (fun t => decide (t.1 ≠ id))).length = q) ∧ Hid (wr.ownsRow V.heap.size 40 2 v q (W.flat ((d4.take j).filter (fun t => decide (t.1 ≠ id))))) ∧ Hid (Below V.heap.size V wr)) (fun _ sj _ => q4 - (intOf sj).toNat)
      case atStart => exact ⟨_, 0, 0, rfl, by go_num, by omega, by omega, Lib.hid (by simp), Lib.hid (World.ownsRow_nil _ _ _ _), Lib.hid (Below.refl _ _)⟩
      case round =>
        obtain ⟨v, j, q, rfl, rfl, hjq, hqj, HQ, HO, HBr⟩ := hrel
        by_cases hlt : j < q4
        · have dj : decide ((j : Int) < q4) = true := by simp; omega
          obtain ⟨b, off, x, hr, hbl, hx, y1, y2⟩ := (FD4.out.below HBr.out).at hlt
          subst hr
          have hsn := filter_snoc (fun t => decide (t.1 ≠ id)) hx
          have j0 : (0 : Int) ≤ j := by omega
          have j1 : (j : Int) < q4 := by omega
          obtain ⟨z, hz⟩ : ∃ z, (x.1 == id) = z := ⟨_, rfl⟩
          have hzn : (x.1 != id) = !z := by rw [← hz]; rfl
          have hzd : decide (x.1 ≠ id) = !z := by rw [← hz, Bool.eq_iff_iff]; simp
          simp only [hzd] at hsn
          clear hx hz hzd hbl
          cases z with
          | true =>
            have HS : Hid ((d4.take (j + 1)).filter (fun t => decide (t.1 ≠ id)) = (d4.take j).filter (fun t => decide (t.1 ≠ id))) := Lib.hid (by rw [hsn]; simp)
            clear hsn
            rw [← HS.out] at HQ HO
            go_wp2
            go_roundw
            case rel => exact ⟨_, j + 1, q, rfl, by go_num, by omega, by omega, HQ, HO, HBr⟩
            case measure => simp [intOf] <;> omega
          | false =>
            have HS : Hid ((d4.take (j + 1)).filter (fun t => decide (t.1 ≠ id)) = (d4.take j).filter (fun t => decide (t.1 ≠ id)) ++ [x]) := Lib.hid (by rw [hsn]; simp)
            clear hsn
            obtain ⟨acc, hacc⟩ : ∃ acc, (d4.take j).filter (fun t => decide (t.1 ≠ id)) = acc := ⟨_, rfl⟩
            rw [hacc] at HQ HO HS
            clear hacc
            go_wp2_with (at_builtin; refine wpList_appendT rfl (.tmp 62) (.tmp 67) 22 rfl Try.underlying22 V.heap.size v q acc x (by simp [Act.eval]) (ownsRow_below HO.out ((Below.refl _ wr).alloc (Nat.le_refl _) _)) wr.heap.size 40 (by simp [Act.eval]) (Blok.new wr _ _) (by omega) (Nat.le_trans HBr.out.size (by simp)) ?_; intro g cap w3 h1 h2 h3 h4)
            have HB3 : Hid (Below V.heap.size V w3) := Lib.hid ((HBr.out.alloc HBr.out.size _).grown h2 (Nat.le_trans HBr.out.size (by simp)) (fun i hi => (ownT_lt HO.out hi).1))
            have H1 := Lib.hid h1
            clear h1 h2 h3 h4
            go_wp2
            go_roundw
            case rel => exact ⟨_, j + 1, q + 1, rfl, by go_num, by omega, by omega, Lib.hid (by rw [HS.out]; simp [HQ.out]), by rw [HS.out]; exact H1, HB3⟩
            case measure => simp [intOf] <;> omega
        · have dj : decide ((j : Int) < q4) = false := by simp; omega
          rw [List.take_of_length_le (show d4.length ≤ j by rw [P4.out]; omega), ← H3.out] at HQ HO
          obtain rfl : q5 = q := by rw [← HQ.out, P5.out]
          obtain ⟨a9, c9, rfl, ht9⟩ := own_timers HO.out HQ.out
          have HT9 := Lib.hid ht9
          have HBV := Lib.hid (HB'.out.trans (HBr.out.mono HB'.out.size))
          have GD5 := Lib.hid (FD5.out.below HBr.out)
          have GX := Lib.hid (FX.out.below HBr.out)
          have GY := Lib.hid (FY.out.below HBr.out)
          have GKX := Lib.hid (FKX.out.on' HBr.out)
          have GKY := Lib.hid (FKY.out.on' HBr.out)
          clear ht9 HO
          go_wp2_with fail
          refine (timers_any r5 a9 q5 q5 o5 c9 d5 d5 wr GD5.out HT9.out (by omega) true (by simp)).mono ?_
          rintro e w9 ⟨rfl, hb⟩
          have KX := Lib.hid (GKX.out.on' hb)
          have KY := Lib.hid (GKY.out.on' hb)
          have TX := Lib.hid (GX.out.below hb)
          have TY := Lib.hid (GY.out.below hb)
          have HBW := Lib.hid (HBV.out.trans (hb.mono HBV.out.size))
          clear hb
          have x0 := KX.out.b0
          have x1 := KX.out.b1
          have x2 := KY.out.b0
          have x3 := KY.out.b1
          go_wp2_with fail
          refine (same_any k k a3 a n3 n c3 c l3 l w9 TY.out TX.out (by omega) true (by rw [HL.out]; simp)).mono ?_
          rintro e w10 ⟨rfl, hb⟩
          go_wp2
          go_ret
          exact ⟨rfl, HBW.out.trans (hb.mono HBW.out.size)⟩
    · skip
      go_enter Try.func9, Try.ntmps9
      go_wp2_with fail
      refine (wawake_any (wbox w k a n c)).mono ?_
      rintro e w1 ⟨rfl, hb⟩
      have HKx1 := Lib.hid (HKx0.out.on' hb)
      have HTx1 := Lib.hid (HTx0.out.below hb)
      have xf0 := HKx1.out.b0
      have xf1 := HKx1.out.b1
      have HB1 := Lib.hid (HB0.out.trans (hb.mono HB0.out.size))
      clear hb
      go_wp2_with fail
      refine (drop_is k id a n c l l3 n3 true w1 HTx1.out (by omega) S3.out M3.out).mono ?_
      clear xf0 xf1
      rintro e w2 ⟨a3, c3, rfl, htb3, hb⟩
      have HKx2 := Lib.hid (HKx1.out.on' hb)
      have HTx2 := Lib.hid (HTx1.out.below hb)
      have xf0 := HKx2.out.b0
      have xf1 := HKx2.out.b1
      have HB2 := Lib.hid (HB1.out.trans (hb.mono HB1.out.size))
      clear hb
      have HTb32 := htb3
      clear htb3
      have Nxb3 := Lib.hid (Nat.ne_of_lt HKx2.out.lt)
      have hb := wbox_below w2 k a3 n3 c3
      have HKx3 := Lib.hid (HKx2.out.on' hb)
      have HTx3 := Lib.hid (HTx2.out.below hb)
      have xb3a0 := fun o => (HKx2.out.alloc o).b0
      have xb3a1 := fun o => (HKx2.out.alloc o).b1
      have HTb33 := Lib.hid (HTb32.out.below hb)
      have HKb33 := Lib.hid (wbox_blok w2 k a3 n3 c3)
      have HB3 := Lib.hid (HB2.out.trans (hb.mono HB2.out.size))
      clear hb
      go_wp2_with fail
      refine (step_is k tt a n c l k4 l4 d4 n4 q4 e4 (wbox w2 k a3 n3 c3) HTx3.out (by omega) S4.out M4.out P4.out).mono ?_
      clear xf0 xf1 xb3a0 xb3a1
      rintro e w4 ⟨a4, c4, r4, o4, rfl, htb4, htd4, hb⟩
      have HKx4 := Lib.hid (HKx3.out.on' hb)
      have HTx4 := Lib.hid (HTx3.out.below hb)
      have HKb34 := Lib.hid (HKb33.out.on' hb)
      have HTb34 := Lib.hid (HTb33.out.below hb)
      have xf0 := HKx4.out.b0
      have xf1 := HKx4.out.b1
      have b3f0 := HKb34.out.b0
      have b3f1 := HKb34.out.b1
      have HB4 := Lib.hid (HB3.out.trans (hb.mono HB3.out.size))
      clear hb
      have HTb44 := htb4
      clear htb4
      have HTd44 := htd4
      clear htd4
      have Nxb4 := Lib.hid (Nat.ne_of_lt HKx4.out.lt)
      have Nb3b4 := Lib.hid (Nat.ne_of_lt HKb34.out.lt)
      have hb := wbox_below w4 k4 a4 n4 c4
      have HKx5 := Lib.hid (HKx4.out.on' hb)
      have HTx5 := Lib.hid (HTx4.out.below hb)
      have HKb35 := Lib.hid (HKb34.out.on' hb)
      have HTb35 := Lib.hid (HTb34.out.below hb)
      have xb4a0 := fun o => (HKx4.out.alloc o).b0
      have xb4a1 := fun o => (HKx4.out.alloc o).b1
      have b3b4a0 := fun o => (HKb34.out.alloc o).b0
      have b3b4a1 := fun o => (HKb34.out.alloc o).b1
      have HTb45 := Lib.hid (HTb44.out.below hb)
      have HKb45 := Lib.hid (wbox_blok w4 k4 a4 n4 c4)
      have HB5 := Lib.hid (HB4.out.trans (hb.mono HB4.out.size))
      clear hb
      have HTd45 := Lib.hid (HTd44.out.below (wbox_below w4 k4 a4 n4 c4))
      go_wp2_with fail
      refine (step_is k tt a3 n3 c3 l3 k5 l5 d5 n5 q5 e4 (wbox w4 k4 a4 n4 c4) HTb35.out (by omega) S5.out M5.out P5.out).mono ?_
      clear xf0 xf1 b3f0 b3f1 xb4a0 xb4a1 b3b4a0 b3b4a1
      rintro e w6 ⟨a5, c5, r5, o5, rfl, htb5, htd5, hb⟩
      have HKx6 := Lib.hid (HKx5.out.on' hb)
      have HTx6 := Lib.hid (HTx5.out.below hb)
      have HKb36 := Lib.hid (HKb35.out.on' hb)
      have HTb36 := Lib.hid (HTb35.out.below hb)
      have HKb46 := Lib.hid (HKb45.out.on' hb)
      have HTb46 := Lib.hid (HTb45.out.below hb)
      have HTd46 := Lib.hid (HTd45.out.below hb)
      have xf0 := HKx6.out.b0
      have xf1 := HKx6.out.b1
      have b3f0 := HKb36.out.b0
      have b3f1 := HKb36.out.b1
      have b4f0 := HKb46.out.b0
      have b4f1 := HKb46.out.b1
      have HB6 := Lib.hid (HB5.out.trans (hb.mono HB5.out.size))
      clear hb
      have HTb56 := htb5
      clear htb5
      have HTd56 := htd5
      clear htd5
      have Nxb5 := Lib.hid (Nat.ne_of_lt HKx6.out.lt)
      have Nb3b5 := Lib.hid (Nat.ne_of_lt HKb36.out.lt)
      have Nb4b5 := Lib.hid (Nat.ne_of_lt HKb46.out.lt)
      have hb := wbox_below w6 k5 a5 n5 c5
      have HKx7 := Lib.hid (HKx6.out.on' hb)
      have HTx7 := Lib.hid (HTx6.out.below hb)
      have HKb37 := Lib.hid (HKb36.out.on' hb)
      have HTb37 := Lib.hid (HTb36.out.below hb)
      have HKb47 := Lib.hid (HKb46.out.on' hb)
      have HTb47 := Lib.hid (HTb46.out.below hb)
      have HTd47 := Lib.hid (HTd46.out.below hb)
      have xb5a0 := fun o => (HKx6.out.alloc o).b0
      have xb5a1 := fun o => (HKx6.out.alloc o).b1
      have b3b5a0 := fun o => (HKb36.out.alloc o).b0
      have b3b5a1 := fun o => (HKb36.out.alloc o).b1
      have b4b5a0 := fun o => (HKb46.out.alloc o).b0
      have b4b5a1 := fun o => (HKb46.out.alloc o).b1
      have HTb57 := Lib.hid (HTb56.out.below hb)
      have HKb57 := Lib.hid (wbox_blok w6 k5 a5 n5 c5)
      have HB7 := Lib.hid (HB6.out.trans (hb.mono HB6.out.size))
      clear hb
      have HTd57 := Lib.hid (HTd56.out.below (wbox_below w6 k5 a5 n5 c5))
      clear xf0 xf1 b3f0 b3f1 b4f0 b4f1 xb5a0 xb5a1 b3b5a0 b3b5a1 b4b5a0 b4b5a1
      have HB' := HB7
      have FD4 := HTd47
      have FD5 := HTd57
      have FX := HTx7
      have FY := HTb37
      have FKX := HKx7
      have FKY := HKb37
      obtain ⟨V, hV⟩ : ∃ V, (wbox w6 k5 a5 n5 c5) = V := ⟨_, rfl⟩
      rw [hV] at HB' FD4 FD5 FX FY FKX FKY
      unfold wbox at hV
      go_wp2_with fail
      try rw [hV]
      clear hV
      go_loopw [16, 17] (fun sv sj wr => ∃ (v : Value) (j q : Nat), v = sv ∧ sj = .int .i64 j ∧ j ≤ q4 ∧ q ≤ j ∧ Hid (((d4.take j).filter (fun t => decide (t.1 ≠ id))).length = q) ∧ Hid (wr.ownsRow V.heap.size 40 2 v q (W.flat ((d4.take j).filter (fun t => decide (t.1 ≠ id))))) ∧ Hid (Below V.heap.size V wr)) (fun _ sj _ => q4 - (intOf sj).toNat)
      case atStart => exact ⟨_, 0, 0, rfl, by go_num, by omega, by omega, Lib.hid (by simp), Lib.hid (World.ownsRow_nil _ _ _ _), Lib.hid (Below.refl _ _)⟩
      case round =>
        obtain ⟨v, j, q, rfl, rfl, hjq, hqj, HQ, HO, HBr⟩ := hrel
        by_cases hlt : j < q4
        · have dj : decide ((j : Int) < q4) = true := by simp; omega
          obtain ⟨b, off, x, hr, hbl, hx, y1, y2⟩ := (FD4.out.below HBr.out).at hlt
          subst hr
          have hsn := filter_snoc (fun t => decide (t.1 ≠ id)) hx
          have j0 : (0 : Int) ≤ j := by omega
          have j1 : (j : Int) < q4 := by omega
          obtain ⟨z, hz⟩ : ∃ z, (x.1 == id) = z := ⟨_, rfl⟩
          have hzn : (x.1 != id) = !z := by rw [← hz]; rfl
          have hzd : decide (x.1 ≠ id) = !z := by rw [← hz, Bool.eq_iff_iff]; simp
          simp only [hzd] at hsn
          clear hx hz hzd hbl
          cases z with
          | true =>
            have HS : Hid ((d4.take (j + 1)).filter (fun t => decide (t.1 ≠ id)) = (d4.take j).filter (fun t => decide (t.1 ≠ id))) := Lib.hid (by rw [hsn]; simp)
            clear hsn
            rw [← HS.out] at HQ HO
            go_wp2
            go_roundw
            case rel => exact ⟨_, j + 1, q, rfl, by go_num, by omega, by omega, HQ, HO, HBr⟩
            case measure => simp [intOf] <;> omega
          | false =>
            have HS : Hid ((d4.take (j + 1)).filter (fun t => decide (t.1 ≠ id)) = (d4.take j).filter (fun t => decide (t.1 ≠ id)) ++ [x]) := Lib.hid (by rw [hsn]; simp)
            clear hsn
            obtain ⟨acc, hacc⟩ : ∃ acc, (d4.take j).filter (fun t => decide (t.1 ≠ id)) = acc := ⟨_, rfl⟩
            rw [hacc] at HQ HO HS
            clear hacc
            go_wp2_with (at_builtin; refine wpList_appendT rfl (.tmp 62) (.tmp 67) 22 rfl Try.underlying22 V.heap.size v q acc x (by simp [Act.eval]) (ownsRow_below HO.out ((Below.refl _ wr).alloc (Nat.le_refl _) _)) wr.heap.size 40 (by simp [Act.eval]) (Blok.new wr _ _) (by omega) (Nat.le_trans HBr.out.size (by simp)) ?_; intro g cap w3 h1 h2 h3 h4)
            have HB3 : Hid (Below V.heap.size V w3) := Lib.hid ((HBr.out.alloc HBr.out.size _).grown h2 (Nat.le_trans HBr.out.size (by simp)) (fun i hi => (ownT_lt HO.out hi).1))
            have H1 := Lib.hid h1
            clear h1 h2 h3 h4
            go_wp2
            go_roundw
            case rel => exact ⟨_, j + 1, q + 1, rfl, by go_num, by omega, by omega, Lib.hid (by rw [HS.out]; simp [HQ.out]), by rw [HS.out]; exact H1, HB3⟩
            case measure => simp [intOf] <;> omega
        · have dj : decide ((j : Int) < q4) = false := by simp; omega
          rw [List.take_of_length_le (show d4.length ≤ j by rw [P4.out]; omega), ← H3.out] at HQ HO
          obtain rfl : q5 = q := by rw [← HQ.out, P5.out]
          obtain ⟨a9, c9, rfl, ht9⟩ := own_timers HO.out HQ.out
          have HT9 := Lib.hid ht9
          have HBV := Lib.hid (HB'.out.trans (HBr.out.mono HB'.out.size))
          have GD5 := Lib.hid (FD5.out.below HBr.out)
          have GX := Lib.hid (FX.out.below HBr.out)
          have GY := Lib.hid (FY.out.below HBr.out)
          have GKX := Lib.hid (FKX.out.on' HBr.out)
          have GKY := Lib.hid (FKY.out.on' HBr.out)
          clear ht9 HO
          go_wp2_with fail
          refine (timers_any r5 a9 q5 q5 o5 c9 d5 d5 wr GD5.out HT9.out (by omega) true (by simp)).mono ?_
          rintro e w9 ⟨rfl, hb⟩
          go_wp2
          go_ret
          exact ⟨rfl, HBV.out.trans (hb.mono HBV.out.size)⟩
  · have g1 : decide ((70 : Int) < (n : Int)) = true := by simp; omega
    go_enter Try.func9, Try.ntmps9
    go_wp2_with fail
    refine (wawake_any (wbox w k a n c)).mono ?_
    rintro e w1 ⟨rfl, hb⟩
    have HKx1 := Lib.hid (HKx0.out.on' hb)
    have HTx1 := Lib.hid (HTx0.out.below hb)
    have xf0 := HKx1.out.b0
    have xf1 := HKx1.out.b1
    have HB1 := Lib.hid (HB0.out.trans (hb.mono HB0.out.size))
    clear hb
    go_wp2
    go_ret
    exact ⟨rfl, HB1.out⟩
end Go.Proofs.Ytmegkfonodcoiaa
