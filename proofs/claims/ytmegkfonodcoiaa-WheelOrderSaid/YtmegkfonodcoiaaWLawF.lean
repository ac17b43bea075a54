/-
  WheelOrder, at every wheel and two timers.
-/
import Derived.Test.YtmegkfonodcoiaaWLaws
namespace Go.Proofs.Ytmegkfonodcoiaa
open Go.RowKit


set_option maxRecDepth 100000 in
set_option maxHeartbeats 4000000 in
theorem WheelOrder_in (k : Int) (a : Option Addr) (n c : Nat) (l : List W.Tm) (ia ja ib jb : Int) (w : World) (h : TIn w a n c l) :
    Calls Try.prog 8 #[.agg #[.int .i64 k, .slice a n c], .agg #[.int .i64 ia, .int .i64 ja], .agg #[.int .i64 ib, .int .i64 jb]] w fun e w' => e = .returned (.bool true) ∧ Below w.heap.size w w' := by
  have hl := h.1
  have HB0 := Lib.hid (wbox_below w k a n c)
  have HKx0 := Lib.hid (wbox_blok w k a n c)
  have HTx0 := Lib.hid (h.below (wbox_below w k a n c))
  have hb : Below (wbox w k a n c).heap.size (wbox w k a n c) (tbox (wbox w k a n c) (ia, ja)) := tbox_below _ _
  have HKx1 := Lib.hid (HKx0.out.on' hb)
  have HTx1 := Lib.hid (HTx0.out.below hb)
  have hk := Blok.new (wbox w k a n c) 40 #[.int .i64 ia, .int .i64 ja]
  rw [show (wbox w k a n c).heap.size = w.heap.size + 1 by first | (simp [wbox]; done) | (simp [tbox, wbox]; done)] at hk
  have HKta1 : Hid (Blok (tbox (wbox w k a n c) (ia, ja)) (w.heap.size + 1) 40 #[.int .i64 ia, .int .i64 ja]) := Lib.hid hk
  clear hk
  have HB1 := Lib.hid (HB0.out.trans (hb.mono HB0.out.size))
  clear hb
  have hb : Below (tbox (wbox w k a n c) (ia, ja)).heap.size (tbox (wbox w k a n c) (ia, ja)) (tbox (tbox (wbox w k a n c) (ia, ja)) (ib, jb)) := tbox_below _ _
  have HKx2 := Lib.hid (HKx1.out.on' hb)
  have HTx2 := Lib.hid (HTx1.out.below hb)
  have HKta2 := Lib.hid (HKta1.out.on' hb)
  have hk := Blok.new (tbox (wbox w k a n c) (ia, ja)) 40 #[.int .i64 ib, .int .i64 jb]
  rw [show (tbox (wbox w k a n c) (ia, ja)).heap.size = w.heap.size + 2 by first | (simp [wbox]; done) | (simp [tbox, wbox]; done)] at hk
  have HKtb2 : Hid (Blok (tbox (tbox (wbox w k a n c) (ia, ja)) (ib, jb)) (w.heap.size + 2) 40 #[.int .i64 ib, .int .i64 jb]) := Lib.hid hk
  clear hk
  have HB2 := Lib.hid (HB1.out.trans (hb.mono HB1.out.size))
  clear hb
  by_cases hn : n ≤ 60
  · have g1 : decide ((60 : Int) < (n : Int)) = false := by simp; omega
    by_cases hi : ia = ib
    · have g2 : (ia == ib) = true := by simpa using hi
      clear hi
      go_enter Try.func8, Try.ntmps8
      go_wp2_with fail
      refine (wawake_any (tbox (tbox (wbox w k a n c) (ia, ja)) (ib, jb))).mono ?_
      rintro e w3 ⟨rfl, hb⟩
      have HKx3 := Lib.hid (HKx2.out.on' hb)
      have HTx3 := Lib.hid (HTx2.out.below hb)
      have HKta3 := Lib.hid (HKta2.out.on' hb)
      have HKtb3 := Lib.hid (HKtb2.out.on' hb)
      have xf0 := HKx3.out.b0
      have xf1 := HKx3.out.b1
      have taf0 := HKta3.out.b0
      have taf1 := HKta3.out.b1
      have tbf0 := HKtb3.out.b0
      have tbf1 := HKtb3.out.b1
      have HB3 := Lib.hid (HB2.out.trans (hb.mono HB2.out.size))
      clear hb
      go_wp2
      go_ret
      exact ⟨rfl, HB3.out⟩
    · have g2 : (ia == ib) = false := by simpa using hi
      obtain ⟨⟨l2, e2⟩, s2⟩ : ∃ x, W.add k l ia ja = x := ⟨_, rfl⟩
      obtain ⟨n2, m2⟩ : ∃ m, l2.length = m := ⟨_, rfl⟩
      have b2 := W.add_len s2
      obtain ⟨⟨l3, e3⟩, s3⟩ : ∃ x, W.add k l2 ib jb = x := ⟨_, rfl⟩
      obtain ⟨n3, m3⟩ : ∃ m, l3.length = m := ⟨_, rfl⟩
      have b3 := W.add_len s3
      obtain ⟨⟨l4, e4⟩, s4⟩ : ∃ x, W.add k l ib jb = x := ⟨_, rfl⟩
      obtain ⟨n4, m4⟩ : ∃ m, l4.length = m := ⟨_, rfl⟩
      have b4 := W.add_len s4
      obtain ⟨⟨l5, e5⟩, s5⟩ : ∃ x, W.add k l4 ia ja = x := ⟨_, rfl⟩
      obtain ⟨n5, m5⟩ : ∃ m, l5.length = m := ⟨_, rfl⟩
      have b5 := W.add_len s5
      have ho := W.order (k := k) (l := l) (a := (ia, ja)) (b := (ib, jb)) hi (by omega)
      simp only [s2, s3, s4, s5] at ho
      obtain ⟨rfl, rfl, ho⟩ := ho
      have HO := Lib.hid ho
      have z2 : n2 ≤ 100 := by omega
      have z3 : n3 ≤ 100 := by omega
      have z4 : n4 ≤ 100 := by omega
      have z5 : n5 ≤ 100 := by omega
      have f1 : (e2 == e2) = true := by simp
      have f2 : (e3 == e3) = true := by simp
      clear b2 b3 b4 b5 hi ho
      have S2 := Lib.hid s2
      have S3 := Lib.hid s3
      have S4 := Lib.hid s4
      have S5 := Lib.hid s5
      have M2 := Lib.hid m2
      have M3 := Lib.hid m3
      have M4 := Lib.hid m4
      have M5 := Lib.hid m5
      have Hl := Lib.hid hl
      clear s2 s3 s4 s5 m2 m3 m4 m5 hl
      go_enter Try.func8, Try.ntmps8
      go_wp2_with fail
      refine (wawake_any (tbox (tbox (wbox w k a n c) (ia, ja)) (ib, jb))).mono ?_
      rintro e w3 ⟨rfl, hb⟩
      have HKx3 := Lib.hid (HKx2.out.on' hb)
      have HTx3 := Lib.hid (HTx2.out.below hb)
      have HKta3 := Lib.hid (HKta2.out.on' hb)
      have HKtb3 := Lib.hid (HKtb2.out.on' hb)
      have xf0 := HKx3.out.b0
      have xf1 := HKx3.out.b1
      have taf0 := HKta3.out.b0
      have taf1 := HKta3.out.b1
      have tbf0 := HKtb3.out.b0
      have tbf1 := HKtb3.out.b1
      have HB3 := Lib.hid (HB2.out.trans (hb.mono HB2.out.size))
      clear hb
      go_wp2_with fail
      refine (add_is k ia ja a n c l l2 n2 e2 w3 HTx3.out (by omega) S2.out M2.out).mono ?_
      clear xf0 xf1 taf0 taf1 tbf0 tbf1
      rintro e w4 ⟨a2, c2, rfl, htb2, hb⟩
      have HKx4 := Lib.hid (HKx3.out.on' hb)
      have HTx4 := Lib.hid (HTx3.out.below hb)
      have HKta4 := Lib.hid (HKta3.out.on' hb)
      have HKtb4 := Lib.hid (HKtb3.out.on' hb)
      have xf0 := HKx4.out.b0
      have xf1 := HKx4.out.b1
      have taf0 := HKta4.out.b0
      have taf1 := HKta4.out.b1
      have tbf0 := HKtb4.out.b0
      have tbf1 := HKtb4.out.b1
      have HB4 := Lib.hid (HB3.out.trans (hb.mono HB3.out.size))
      clear hb
      have HTb24 := htb2
      clear htb2
      have Nxb2 := Lib.hid (Nat.ne_of_lt HKx4.out.lt)
      have Ntab2 := Lib.hid (Nat.ne_of_lt HKta4.out.lt)
      have Ntbb2 := Lib.hid (Nat.ne_of_lt HKtb4.out.lt)
      have hb := wbox_below w4 k a2 n2 c2
      have HKx5 := Lib.hid (HKx4.out.on' hb)
      have HTx5 := Lib.hid (HTx4.out.below hb)
      have HKta5 := Lib.hid (HKta4.out.on' hb)
      have HKtb5 := Lib.hid (HKtb4.out.on' hb)
      have xb2a0 := fun o => (HKx4.out.alloc o).b0
      have xb2a1 := fun o => (HKx4.out.alloc o).b1
      have tab2a0 := fun o => (HKta4.out.alloc o).b0
      have tab2a1 := fun o => (HKta4.out.alloc o).b1
      have tbb2a0 := fun o => (HKtb4.out.alloc o).b0
      have tbb2a1 := fun o => (HKtb4.out.alloc o).b1
      have HTb25 := Lib.hid (HTb24.out.below hb)
      have HKb25 := Lib.hid (wbox_blok w4 k a2 n2 c2)
      have HB5 := Lib.hid (HB4.out.trans (hb.mono HB4.out.size))
      clear hb
      go_wp2_with fail
      refine (add_is k ib jb a2 n2 c2 l2 l3 n3 e3 (wbox w4 k a2 n2 c2) HTb25.out (by omega) S3.out M3.out).mono ?_
      clear xf0 xf1 taf0 taf1 tbf0 tbf1 xb2a0 xb2a1 tab2a0 tab2a1 tbb2a0 tbb2a1
      rintro e w6 ⟨a3, c3, rfl, ht3, hb⟩
      have HKx6 := Lib.hid (HKx5.out.on' hb)
      have HTx6 := Lib.hid (HTx5.out.below hb)
      have HKb26 := Lib.hid (HKb25.out.on' hb)
      have HTb26 := Lib.hid (HTb25.out.below hb)
      have HKta6 := Lib.hid (HKta5.out.on' hb)
      have HKtb6 := Lib.hid (HKtb5.out.on' hb)
      have xf0 := HKx6.out.b0
      have xf1 := HKx6.out.b1
      have b2f0 := HKb26.out.b0
      have b2f1 := HKb26.out.b1
      have taf0 := HKta6.out.b0
      have taf1 := HKta6.out.b1
      have tbf0 := HKtb6.out.b0
      have tbf1 := HKtb6.out.b1
      have HB6 := Lib.hid (HB5.out.trans (hb.mono HB5.out.size))
      clear hb
      have b2z0 := HKb26.out.frozen 0
      have b2z1 := HKb26.out.frozen 1
      have hset := set2 HKb26.out (.int .i64 k) (.slice a3 n3 c3)
      have HKsx := Lib.hid (HKx6.out.grown hset.2 (fun e => Nxb2.out (Option.some.inj e)))
      have HTsx := Lib.hid (HTx6.out.set HKb26.out hset.2)
      have xs0 := HKsx.out.b0
      have xs1 := HKsx.out.b1
      have HKsb2 := Lib.hid hset.1
      have HTsb2 := Lib.hid (ht3.out.set HKb26.out hset.2)
      have b2s0 := HKsb2.out.b0
      have b2s1 := HKsb2.out.b1
      have HKsta := Lib.hid (HKta6.out.grown hset.2 (fun e => Ntab2.out (Option.some.inj e)))
      have tas0 := HKsta.out.b0
      have tas1 := HKsta.out.b1
      have HKstb := Lib.hid (HKtb6.out.grown hset.2 (fun e => Ntbb2.out (Option.some.inj e)))
      have tbs0 := HKstb.out.b0
      have tbs1 := HKstb.out.b1
      have HBs := Lib.hid ((HB6.out.setCell (p := ⟨w4.heap.size, 0, none⟩) (show w.heap.size ≤ w4.heap.size from HB4.out.size) (.int .i64 k)).setCell (p := ⟨w4.heap.size, 1, none⟩) (show w.heap.size ≤ w4.heap.size from HB4.out.size) (.slice a3 n3 c3))
      clear hset
      go_wp2_with fail
      clear xf0 xf1 b2f0 b2f1 taf0 taf1 tbf0 tbf1 b2z0 b2z1 xs0 xs1 b2s0 b2s1 tas0 tas1 tbs0 tbs1
      obtain ⟨w7, hw7⟩ : ∃ w7, ((w6.setCell ⟨w4.heap.size, 0, none⟩ (.int .i64 k)).setCell ⟨w4.heap.size, 1, none⟩ (.slice a3 n3 c3)) = w7 := ⟨_, rfl⟩
      have HKx7 := Lib.hid (by have h := HKsx.out; rw [hw7] at h; exact h)
      have HKb27 := Lib.hid (by have h := HKsb2.out; rw [hw7] at h; exact h)
      have HKta7 := Lib.hid (by have h := HKsta.out; rw [hw7] at h; exact h)
      have HKtb7 := Lib.hid (by have h := HKstb.out; rw [hw7] at h; exact h)
      have HTx7 := Lib.hid (by have h := HTsx.out; rw [hw7] at h; exact h)
      have HTb27 := Lib.hid (by have h := HTsb2.out; rw [hw7] at h; exact h)
      have HB7 := Lib.hid (by have h := HBs.out; rw [hw7] at h; exact h)
      rw [hw7]
      clear hw7 HBs HKsx HKsb2 HKsta HKstb HTsx HTsb2
      have xf0 := HKx7.out.b0
      have xf1 := HKx7.out.b1
      have b2f0 := HKb27.out.b0
      have b2f1 := HKb27.out.b1
      have taf0 := HKta7.out.b0
      have taf1 := HKta7.out.b1
      have tbf0 := HKtb7.out.b0
      have tbf1 := HKtb7.out.b1
      skip
      refine (add_is k ib jb a n c l l4 n4 e3 w7 HTx7.out (by omega) S4.out M4.out).mono ?_
      clear xf0 xf1 b2f0 b2f1 taf0 taf1 tbf0 tbf1
      rintro e w8 ⟨a4, c4, rfl, htb4, hb⟩
      have HKx8 := Lib.hid (HKx7.out.on' hb)
      have HTx8 := Lib.hid (HTx7.out.below hb)
      have HKb28 := Lib.hid (HKb27.out.on' hb)
      have HTb28 := Lib.hid (HTb27.out.below hb)
      have HKta8 := Lib.hid (HKta7.out.on' hb)
      have HKtb8 := Lib.hid (HKtb7.out.on' hb)
      have xf0 := HKx8.out.b0
      have xf1 := HKx8.out.b1
      have b2f0 := HKb28.out.b0
      have b2f1 := HKb28.out.b1
      have taf0 := HKta8.out.b0
      have taf1 := HKta8.out.b1
      have tbf0 := HKtb8.out.b0
      have tbf1 := HKtb8.out.b1
      have HB8 := Lib.hid (HB7.out.trans (hb.mono HB7.out.size))
      clear hb
      have HTb48 := htb4
      clear htb4
      have Nxb4 := Lib.hid (Nat.ne_of_lt HKx8.out.lt)
      have Nb2b4 := Lib.hid (Nat.ne_of_lt HKb28.out.lt)
      have Ntab4 := Lib.hid (Nat.ne_of_lt HKta8.out.lt)
      have Ntbb4 := Lib.hid (Nat.ne_of_lt HKtb8.out.lt)
      have hb := wbox_below w8 k a4 n4 c4
      have HKx9 := Lib.hid (HKx8.out.on' hb)
      have HTx9 := Lib.hid (HTx8.out.below hb)
      have HKb29 := Lib.hid (HKb28.out.on' hb)
      have HTb29 := Lib.hid (HTb28.out.below hb)
      have HKta9 := Lib.hid (HKta8.out.on' hb)
      have HKtb9 := Lib.hid (HKtb8.out.on' hb)
      have xb4a0 := fun o => (HKx8.out.alloc o).b0
      have xb4a1 := fun o => (HKx8.out.alloc o).b1
      have b2b4a0 := fun o => (HKb28.out.alloc o).b0
      have b2b4a1 := fun o => (HKb28.out.alloc o).b1
      have tab4a0 := fun o => (HKta8.out.alloc o).b0
      have tab4a1 := fun o => (HKta8.out.alloc o).b1
      have tbb4a0 := fun o => (HKtb8.out.alloc o).b0
      have tbb4a1 := fun o => (HKtb8.out.alloc o).b1
      have HTb49 := Lib.hid (HTb48.out.below hb)
      have HKb49 := Lib.hid (wbox_blok w8 k a4 n4 c4)
      have HB9 := Lib.hid (HB8.out.trans (hb.mono HB8.out.size))
      clear hb
      go_wp2_with fail
      refine (add_is k ia ja a4 n4 c4 l4 l5 n5 e2 (wbox w8 k a4 n4 c4) HTb49.out (by omega) S5.out M5.out).mono ?_
      clear xf0 xf1 b2f0 b2f1 taf0 taf1 tbf0 tbf1 xb4a0 xb4a1 b2b4a0 b2b4a1 tab4a0 tab4a1 tbb4a0 tbb4a1
      rintro e w10 ⟨a5, c5, rfl, ht5, hb⟩
      have HKx10 := Lib.hid (HKx9.out.on' hb)
      have HTx10 := Lib.hid (HTx9.out.below hb)
      have HKb210 := Lib.hid (HKb29.out.on' hb)
      have HTb210 := Lib.hid (HTb29.out.below hb)
      have HKb410 := Lib.hid (HKb49.out.on' hb)
      have HTb410 := Lib.hid (HTb49.out.below hb)
      have HKta10 := Lib.hid (HKta9.out.on' hb)
      have HKtb10 := Lib.hid (HKtb9.out.on' hb)
      have xf0 := HKx10.out.b0
      have xf1 := HKx10.out.b1
      have b2f0 := HKb210.out.b0
      have b2f1 := HKb210.out.b1
      have b4f0 := HKb410.out.b0
      have b4f1 := HKb410.out.b1
      have taf0 := HKta10.out.b0
      have taf1 := HKta10.out.b1
      have tbf0 := HKtb10.out.b0
      have tbf1 := HKtb10.out.b1
      have HB10 := Lib.hid (HB9.out.trans (hb.mono HB9.out.size))
      clear hb
      have b4z0 := HKb410.out.frozen 0
      have b4z1 := HKb410.out.frozen 1
      have hset := set2 HKb410.out (.int .i64 k) (.slice a5 n5 c5)
      have HKsx := Lib.hid (HKx10.out.grown hset.2 (fun e => Nxb4.out (Option.some.inj e)))
      have HTsx := Lib.hid (HTx10.out.set HKb410.out hset.2)
      have xs0 := HKsx.out.b0
      have xs1 := HKsx.out.b1
      have HKsb2 := Lib.hid (HKb210.out.grown hset.2 (fun e => Nb2b4.out (Option.some.inj e)))
      have HTsb2 := Lib.hid (HTb210.out.set HKb410.out hset.2)
      have b2s0 := HKsb2.out.b0
      have b2s1 := HKsb2.out.b1
      have HKsb4 := Lib.hid hset.1
      have HTsb4 := Lib.hid (ht5.out.set HKb410.out hset.2)
      have b4s0 := HKsb4.out.b0
      have b4s1 := HKsb4.out.b1
      have HKsta := Lib.hid (HKta10.out.grown hset.2 (fun e => Ntab4.out (Option.some.inj e)))
      have tas0 := HKsta.out.b0
      have tas1 := HKsta.out.b1
      have HKstb := Lib.hid (HKtb10.out.grown hset.2 (fun e => Ntbb4.out (Option.some.inj e)))
      have tbs0 := HKstb.out.b0
      have tbs1 := HKstb.out.b1
      have HBs := Lib.hid ((HB10.out.setCell (p := ⟨w8.heap.size, 0, none⟩) (show w.heap.size ≤ w8.heap.size from HB8.out.size) (.int .i64 k)).setCell (p := ⟨w8.heap.size, 1, none⟩) (show w.heap.size ≤ w8.heap.size from HB8.out.size) (.slice a5 n5 c5))
      clear hset
      go_wp2_with fail
      clear xf0 xf1 b2f0 b2f1 b4f0 b4f1 taf0 taf1 tbf0 tbf1 b4z0 b4z1 xs0 xs1 b2s0 b2s1 b4s0 b4s1 tas0 tas1 tbs0 tbs1
      obtain ⟨w11, hw11⟩ : ∃ w11, ((w10.setCell ⟨w8.heap.size, 0, none⟩ (.int .i64 k)).setCell ⟨w8.heap.size, 1, none⟩ (.slice a5 n5 c5)) = w11 := ⟨_, rfl⟩
      have HKx11 := Lib.hid (by have h := HKsx.out; rw [hw11] at h; exact h)
      have HKb211 := Lib.hid (by have h := HKsb2.out; rw [hw11] at h; exact h)
      have HKb411 := Lib.hid (by have h := HKsb4.out; rw [hw11] at h; exact h)
      have HKta11 := Lib.hid (by have h := HKsta.out; rw [hw11] at h; exact h)
      have HKtb11 := Lib.hid (by have h := HKstb.out; rw [hw11] at h; exact h)
      have HTx11 := Lib.hid (by have h := HTsx.out; rw [hw11] at h; exact h)
      have HTb211 := Lib.hid (by have h := HTsb2.out; rw [hw11] at h; exact h)
      have HTb411 := Lib.hid (by have h := HTsb4.out; rw [hw11] at h; exact h)
      have HB11 := Lib.hid (by have h := HBs.out; rw [hw11] at h; exact h)
      rw [hw11]
      clear hw11 HBs HKsx HKsb2 HKsb4 HKsta HKstb HTsx HTsb2 HTsb4
      have xf0 := HKx11.out.b0
      have xf1 := HKx11.out.b1
      have b2f0 := HKb211.out.b0
      have b2f1 := HKb211.out.b1
      have b4f0 := HKb411.out.b0
      have b4f1 := HKb411.out.b1
      have taf0 := HKta11.out.b0
      have taf1 := HKta11.out.b1
      have tbf0 := HKtb11.out.b0
      have tbf1 := HKtb11.out.b1
      skip
      refine (same_any k k a3 a5 n3 n5 c3 c5 l3 l5 w11 HTb211.out HTb411.out (by omega) true (by rw [HO.out]; simp)).mono ?_
      clear xf0 xf1 b2f0 b2f1 b4f0 b4f1 taf0 taf1 tbf0 tbf1
      rintro e w12 ⟨rfl, hb⟩
      have HKx12 := Lib.hid (HKx11.out.on' hb)
      have HTx12 := Lib.hid (HTx11.out.below hb)
      have HKb212 := Lib.hid (HKb211.out.on' hb)
      have HTb212 := Lib.hid (HTb211.out.below hb)
      have HKb412 := Lib.hid (HKb411.out.on' hb)
      have HTb412 := Lib.hid (HTb411.out.below hb)
      have HKta12 := Lib.hid (HKta11.out.on' hb)
      have HKtb12 := Lib.hid (HKtb11.out.on' hb)
      have xf0 := HKx12.out.b0
      have xf1 := HKx12.out.b1
      have b2f0 := HKb212.out.b0
      have b2f1 := HKb212.out.b1
      have b4f0 := HKb412.out.b0
      have b4f1 := HKb412.out.b1
      have taf0 := HKta12.out.b0
      have taf1 := HKta12.out.b1
      have tbf0 := HKtb12.out.b0
      have tbf1 := HKtb12.out.b1
      have HB12 := Lib.hid (HB11.out.trans (hb.mono HB11.out.size))
      clear hb
      go_wp2
      go_ret
      exact ⟨rfl, HB12.out⟩
  · have g1 : decide ((60 : Int) < (n : Int)) = true := by simp; omega
    go_enter Try.func8, Try.ntmps8
    go_wp2_with fail
    refine (wawake_any (tbox (tbox (wbox w k a n c) (ia, ja)) (ib, jb))).mono ?_
    rintro e w3 ⟨rfl, hb⟩
    have HKx3 := Lib.hid (HKx2.out.on' hb)
    have HTx3 := Lib.hid (HTx2.out.below hb)
    have HKta3 := Lib.hid (HKta2.out.on' hb)
    have HKtb3 := Lib.hid (HKtb2.out.on' hb)
    have xf0 := HKx3.out.b0
    have xf1 := HKx3.out.b1
    have taf0 := HKta3.out.b0
    have taf1 := HKta3.out.b1
    have tbf0 := HKtb3.out.b0
    have tbf1 := HKtb3.out.b1
    have HB3 := Lib.hid (HB2.out.trans (hb.mono HB2.out.size))
    clear hb
    go_wp2
    go_ret
    exact ⟨rfl, HB3.out⟩
end Go.Proofs.Ytmegkfonodcoiaa
