/-
  WheelTells, at every two wheels, number and times.
-/
import Derived.Test.YtmegkfonodcoiaaWLaws
namespace Go.Proofs.Ytmegkfonodcoiaa
open Go.RowKit


set_option maxRecDepth 100000 in
set_option maxHeartbeats 4000000 in
theorem WheelTells_in (k : Int) (a : Option Addr) (n c : Nat) (l : List W.Tm) (k' : Int) (a' : Option Addr) (n' c' : Nat) (l' : List W.Tm) (id at' org : Int) (w : World) (h : TIn w a n c l) (h' : TIn w a' n' c' l') :
    Calls Try.prog 3 #[.agg #[.int .i64 k, .slice a n c], .agg #[.int .i64 k', .slice a' n' c'], .int .i64 id, .int .i64 at', .int .i64 org] w fun e w' => e = .returned (.bool true) ∧ Below w.heap.size w w' := by
  have hl := h.1
  have hl' := h'.1
  have HB0 := Lib.hid (wbox_below w k a n c)
  have HKx0 := Lib.hid (wbox_blok w k a n c)
  have HTx0 := Lib.hid (h.below (wbox_below w k a n c))
  have hb := wbox_below (wbox w k a n c) k' a' n' c'
  have HKx1 := Lib.hid (HKx0.out.on' hb)
  have HTx1 := Lib.hid (HTx0.out.below hb)
  have hk := wbox_blok (wbox w k a n c) k' a' n' c'
  rw [wbox_size] at hk
  have HKy1 := Lib.hid hk
  clear hk
  have HTy1 := Lib.hid ((h'.below (HB0.out)).below hb)
  have HB1 := Lib.hid (HB0.out.trans (hb.mono HB0.out.size))
  clear hb
  by_cases hn : n ≤ 70 ∧ n' ≤ 70
  · obtain ⟨hn, hn'⟩ := hn
    have g1 : decide ((70 : Int) < (n : Int)) = false := by simp; omega
    have g2 : decide ((70 : Int) < (n' : Int)) = false := by simp; omega
    obtain ⟨⟨l2, e2⟩, s2⟩ : ∃ x, W.add k l id at' = x := ⟨_, rfl⟩
    obtain ⟨n2, m2⟩ : ∃ m, l2.length = m := ⟨_, rfl⟩
    have b2 := W.add_len s2
    obtain ⟨⟨l3, e3⟩, s3⟩ : ∃ x, W.drop k l id = x := ⟨_, rfl⟩
    obtain ⟨n3, m3⟩ : ∃ m, l3.length = m := ⟨_, rfl⟩
    have b3 := W.drop_len' s3
    obtain ⟨⟨⟨k4, l4⟩, d4, e4⟩, s4⟩ : ∃ x, W.step k l at' = x := ⟨_, rfl⟩
    obtain ⟨n4, m4⟩ : ∃ m, l4.length = m := ⟨_, rfl⟩
    obtain ⟨q4, p4⟩ : ∃ m, d4.length = m := ⟨_, rfl⟩
    have b4 := W.step_len s4
    obtain ⟨⟨k5, e5⟩, s5⟩ : ∃ x, W.new org = x := ⟨_, rfl⟩
    obtain ⟨pm, hpm⟩ : ∃ b, W.may k l = b := ⟨_, rfl⟩
    obtain ⟨ps, hps⟩ : ∃ b, decide (k = k' ∧ l = l') = b := ⟨_, rfl⟩
    have HM := Lib.hid hpm
    have HS := Lib.hid hps
    have f1 : (e2 == e2) = true := by simp
    have f2 : (e3 == e3) = true := by simp
    have f3 : (e4 == e4) = true := by simp
    have f4 : (e5 == e5) = true := by simp
    have f5 : (pm == pm) = true := by simp
    have f6 : (ps == ps) = true := by simp
    clear hpm hps
    have S2 := Lib.hid s2
    have S3 := Lib.hid s3
    have S4 := Lib.hid s4
    have S5 := Lib.hid s5
    have M2 := Lib.hid m2
    have M3 := Lib.hid m3
    have M4 := Lib.hid m4
    have P4 := Lib.hid p4
    have z2 : n2 ≤ 100 := by omega
    have z3 : n3 ≤ 100 := by omega
    have z4 : n4 ≤ 100 ∧ q4 ≤ 100 := by omega
    clear s2 s3 s4 s5 m2 m3 m4 p4 b2 b3 b4 hl hl'
    go_enter Try.func3, Try.ntmps3
    go_wp2_with fail
    refine (wawake_any (wbox (wbox w k a n c) k' a' n' c')).mono ?_
    rintro e w2 ⟨rfl, hb⟩
    have HKx2 := Lib.hid (HKx1.out.on' hb)
    have HTx2 := Lib.hid (HTx1.out.below hb)
    have HKy2 := Lib.hid (HKy1.out.on' hb)
    have HTy2 := Lib.hid (HTy1.out.below hb)
    have xf0 := HKx2.out.b0
    have xf1 := HKx2.out.b1
    have yf0 := HKy2.out.b0
    have yf1 := HKy2.out.b1
    have HB2 := Lib.hid (HB1.out.trans (hb.mono HB1.out.size))
    clear hb
    go_wp2_with fail
    refine (add_is k id at' a n c l l2 n2 e2 w2 HTx2.out (by omega) S2.out M2.out).mono ?_
    clear xf0 xf1 yf0 yf1
    rintro e w3 ⟨a2, c2, rfl, htb2, hb⟩
    have HKx3 := Lib.hid (HKx2.out.on' hb)
    have HTx3 := Lib.hid (HTx2.out.below hb)
    have HKy3 := Lib.hid (HKy2.out.on' hb)
    have HTy3 := Lib.hid (HTy2.out.below hb)
    have xf0 := HKx3.out.b0
    have xf1 := HKx3.out.b1
    have yf0 := HKy3.out.b0
    have yf1 := HKy3.out.b1
    have HB3 := Lib.hid (HB2.out.trans (hb.mono HB2.out.size))
    clear hb
    have HTb23 := htb2
    clear htb2
    have Nxb2 := Lib.hid (Nat.ne_of_lt HKx3.out.lt)
    have Nyb2 := Lib.hid (Nat.ne_of_lt HKy3.out.lt)
    have hb := wbox_below w3 k a2 n2 c2
    have HKx4 := Lib.hid (HKx3.out.on' hb)
    have HTx4 := Lib.hid (HTx3.out.below hb)
    have HKy4 := Lib.hid (HKy3.out.on' hb)
    have HTy4 := Lib.hid (HTy3.out.below hb)
    have xb2a0 := fun o => (HKx3.out.alloc o).b0
    have xb2a1 := fun o => (HKx3.out.alloc o).b1
    have yb2a0 := fun o => (HKy3.out.alloc o).b0
    have yb2a1 := fun o => (HKy3.out.alloc o).b1
    have HTb24 := Lib.hid (HTb23.out.below hb)
    have HKb24 := Lib.hid (wbox_blok w3 k a2 n2 c2)
    have HB4 := Lib.hid (HB3.out.trans (hb.mono HB3.out.size))
    clear hb
    go_wp2_with fail
    refine (refAdd_is k id at' a n c l l2 n2 e2 (wbox w3 k a2 n2 c2) HTx4.out (by omega) S2.out M2.out).mono ?_
    clear xf0 xf1 yf0 yf1 xb2a0 xb2a1 yb2a0 yb2a1
    rintro e w5 ⟨a3, c3, rfl, htb3, hb⟩
    have HKx5 := Lib.hid (HKx4.out.on' hb)
    have HTx5 := Lib.hid (HTx4.out.below hb)
    have HKy5 := Lib.hid (HKy4.out.on' hb)
    have HTy5 := Lib.hid (HTy4.out.below hb)
    have HKb25 := Lib.hid (HKb24.out.on' hb)
    have HTb25 := Lib.hid (HTb24.out.below hb)
    have xf0 := HKx5.out.b0
    have xf1 := HKx5.out.b1
    have yf0 := HKy5.out.b0
    have yf1 := HKy5.out.b1
    have b2f0 := HKb25.out.b0
    have b2f1 := HKb25.out.b1
    have HB5 := Lib.hid (HB4.out.trans (hb.mono HB4.out.size))
    clear hb
    have HTb35 := htb3
    clear htb3
    have Nxb3 := Lib.hid (Nat.ne_of_lt HKx5.out.lt)
    have Nyb3 := Lib.hid (Nat.ne_of_lt HKy5.out.lt)
    have Nb2b3 := Lib.hid (Nat.ne_of_lt HKb25.out.lt)
    have hb := wbox_below w5 k a3 n2 c3
    have HKx6 := Lib.hid (HKx5.out.on' hb)
    have HTx6 := Lib.hid (HTx5.out.below hb)
    have HKy6 := Lib.hid (HKy5.out.on' hb)
    have HTy6 := Lib.hid (HTy5.out.below hb)
    have HKb26 := Lib.hid (HKb25.out.on' hb)
    have HTb26 := Lib.hid (HTb25.out.below hb)
    have xb3a0 := fun o => (HKx5.out.alloc o).b0
    have xb3a1 := fun o => (HKx5.out.alloc o).b1
    have yb3a0 := fun o => (HKy5.out.alloc o).b0
    have yb3a1 := fun o => (HKy5.out.alloc o).b1
    have b2b3a0 := fun o => (HKb25.out.alloc o).b0
    have b2b3a1 := fun o => (HKb25.out.alloc o).b1
    have HTb36 := Lib.hid (HTb35.out.below hb)
    have HKb36 := Lib.hid (wbox_blok w5 k a3 n2 c3)
    have HB6 := Lib.hid (HB5.out.trans (hb.mono HB5.out.size))
    clear hb
    go_wp2_with fail
    refine (drop_is k id a n c l l3 n3 e3 (wbox w5 k a3 n2 c3) HTx6.out (by omega) S3.out M3.out).mono ?_
    clear xf0 xf1 yf0 yf1 b2f0 b2f1 xb3a0 xb3a1 yb3a0 yb3a1 b2b3a0 b2b3a1
    rintro e w7 ⟨a4, c4, rfl, htb4, hb⟩
    have HKx7 := Lib.hid (HKx6.out.on' hb)
    have HTx7 := Lib.hid (HTx6.out.below hb)
    have HKy7 := Lib.hid (HKy6.out.on' hb)
    have HTy7 := Lib.hid (HTy6.out.below hb)
    have HKb27 := Lib.hid (HKb26.out.on' hb)
    have HTb27 := Lib.hid (HTb26.out.below hb)
    have HKb37 := Lib.hid (HKb36.out.on' hb)
    have HTb37 := Lib.hid (HTb36.out.below hb)
    have xf0 := HKx7.out.b0
    have xf1 := HKx7.out.b1
    have yf0 := HKy7.out.b0
    have yf1 := HKy7.out.b1
    have b2f0 := HKb27.out.b0
    have b2f1 := HKb27.out.b1
    have b3f0 := HKb37.out.b0
    have b3f1 := HKb37.out.b1
    have HB7 := Lib.hid (HB6.out.trans (hb.mono HB6.out.size))
    clear hb
    have HTb47 := htb4
    clear htb4
    have Nxb4 := Lib.hid (Nat.ne_of_lt HKx7.out.lt)
    have Nyb4 := Lib.hid (Nat.ne_of_lt HKy7.out.lt)
    have Nb2b4 := Lib.hid (Nat.ne_of_lt HKb27.out.lt)
    have Nb3b4 := Lib.hid (Nat.ne_of_lt HKb37.out.lt)
    have hb := wbox_below w7 k a4 n3 c4
    have HKx8 := Lib.hid (HKx7.out.on' hb)
    have HTx8 := Lib.hid (HTx7.out.below hb)
    have HKy8 := Lib.hid (HKy7.out.on' hb)
    have HTy8 := Lib.hid (HTy7.out.below hb)
    have HKb28 := Lib.hid (HKb27.out.on' hb)
    have HTb28 := Lib.hid (HTb27.out.below hb)
    have HKb38 := Lib.hid (HKb37.out.on' hb)
    have HTb38 := Lib.hid (HTb37.out.below hb)
    have xb4a0 := fun o => (HKx7.out.alloc o).b0
    have xb4a1 := fun o => (HKx7.out.alloc o).b1
    have yb4a0 := fun o => (HKy7.out.alloc o).b0
    have yb4a1 := fun o => (HKy7.out.alloc o).b1
    have b2b4a0 := fun o => (HKb27.out.alloc o).b0
    have b2b4a1 := fun o => (HKb27.out.alloc o).b1
    have b3b4a0 := fun o => (HKb37.out.alloc o).b0
    have b3b4a1 := fun o => (HKb37.out.alloc o).b1
    have HTb48 := Lib.hid (HTb47.out.below hb)
    have HKb48 := Lib.hid (wbox_blok w7 k a4 n3 c4)
    have HB8 := Lib.hid (HB7.out.trans (hb.mono HB7.out.size))
    clear hb
    go_wp2_with fail
    refine (refDrop_is k id a n c l l3 n3 e3 (wbox w7 k a4 n3 c4) HTx8.out (by omega) S3.out M3.out).mono ?_
    clear xf0 xf1 yf0 yf1 b2f0 b2f1 b3f0 b3f1 xb4a0 xb4a1 yb4a0 yb4a1 b2b4a0 b2b4a1 b3b4a0 b3b4a1
    rintro e w9 ⟨a5, c5, rfl, htb5, hb⟩
    have HKx9 := Lib.hid (HKx8.out.on' hb)
    have HTx9 := Lib.hid (HTx8.out.below hb)
    have HKy9 := Lib.hid (HKy8.out.on' hb)
    have HTy9 := Lib.hid (HTy8.out.below hb)
    have HKb29 := Lib.hid (HKb28.out.on' hb)
    have HTb29 := Lib.hid (HTb28.out.below hb)
    have HKb39 := Lib.hid (HKb38.out.on' hb)
    have HTb39 := Lib.hid (HTb38.out.below hb)
    have HKb49 := Lib.hid (HKb48.out.on' hb)
    have HTb49 := Lib.hid (HTb48.out.below hb)
    have xf0 := HKx9.out.b0
    have xf1 := HKx9.out.b1
    have yf0 := HKy9.out.b0
    have yf1 := HKy9.out.b1
    have b2f0 := HKb29.out.b0
    have b2f1 := HKb29.out.b1
    have b3f0 := HKb39.out.b0
    have b3f1 := HKb39.out.b1
    have b4f0 := HKb49.out.b0
    have b4f1 := HKb49.out.b1
    have HB9 := Lib.hid (HB8.out.trans (hb.mono HB8.out.size))
    clear hb
    have HTb59 := htb5
    clear htb5
    have Nxb5 := Lib.hid (Nat.ne_of_lt HKx9.out.lt)
    have Nyb5 := Lib.hid (Nat.ne_of_lt HKy9.out.lt)
    have Nb2b5 := Lib.hid (Nat.ne_of_lt HKb29.out.lt)
    have Nb3b5 := Lib.hid (Nat.ne_of_lt HKb39.out.lt)
    have Nb4b5 := Lib.hid (Nat.ne_of_lt HKb49.out.lt)
    have hb := wbox_below w9 k a5 n3 c5
    have HKx10 := Lib.hid (HKx9.out.on' hb)
    have HTx10 := Lib.hid (HTx9.out.below hb)
    have HKy10 := Lib.hid (HKy9.out.on' hb)
    have HTy10 := Lib.hid (HTy9.out.below hb)
    have HKb210 := Lib.hid (HKb29.out.on' hb)
    have HTb210 := Lib.hid (HTb29.out.below hb)
    have HKb310 := Lib.hid (HKb39.out.on' hb)
    have HTb310 := Lib.hid (HTb39.out.below hb)
    have HKb410 := Lib.hid (HKb49.out.on' hb)
    have HTb410 := Lib.hid (HTb49.out.below hb)
    have xb5a0 := fun o => (HKx9.out.alloc o).b0
    have xb5a1 := fun o => (HKx9.out.alloc o).b1
    have yb5a0 := fun o => (HKy9.out.alloc o).b0
    have yb5a1 := fun o => (HKy9.out.alloc o).b1
    have b2b5a0 := fun o => (HKb29.out.alloc o).b0
    have b2b5a1 := fun o => (HKb29.out.alloc o).b1
    have b3b5a0 := fun o => (HKb39.out.alloc o).b0
    have b3b5a1 := fun o => (HKb39.out.alloc o).b1
    have b4b5a0 := fun o => (HKb49.out.alloc o).b0
    have b4b5a1 := fun o => (HKb49.out.alloc o).b1
    have HTb510 := Lib.hid (HTb59.out.below hb)
    have HKb510 := Lib.hid (wbox_blok w9 k a5 n3 c5)
    have HB10 := Lib.hid (HB9.out.trans (hb.mono HB9.out.size))
    clear hb
    go_wp2_with fail
    refine (step_is k at' a n c l k4 l4 d4 n4 q4 e4 (wbox w9 k a5 n3 c5) HTx10.out (by omega) S4.out M4.out P4.out).mono ?_
    clear xf0 xf1 yf0 yf1 b2f0 b2f1 b3f0 b3f1 b4f0 b4f1 xb5a0 xb5a1 yb5a0 yb5a1 b2b5a0 b2b5a1 b3b5a0 b3b5a1 b4b5a0 b4b5a1
    rintro e w11 ⟨a6, c6, a7, c7, rfl, htb6, htd6, hb⟩
    have HKx11 := Lib.hid (HKx10.out.on' hb)
    have HTx11 := Lib.hid (HTx10.out.below hb)
    have HKy11 := Lib.hid (HKy10.out.on' hb)
    have HTy11 := Lib.hid (HTy10.out.below hb)
    have HKb211 := Lib.hid (HKb210.out.on' hb)
    have HTb211 := Lib.hid (HTb210.out.below hb)
    have HKb311 := Lib.hid (HKb310.out.on' hb)
    have HTb311 := Lib.hid (HTb310.out.below hb)
    have HKb411 := Lib.hid (HKb410.out.on' hb)
    have HTb411 := Lib.hid (HTb410.out.below hb)
    have HKb511 := Lib.hid (HKb510.out.on' hb)
    have HTb511 := Lib.hid (HTb510.out.below hb)
    have xf0 := HKx11.out.b0
    have xf1 := HKx11.out.b1
    have yf0 := HKy11.out.b0
    have yf1 := HKy11.out.b1
    have b2f0 := HKb211.out.b0
    have b2f1 := HKb211.out.b1
    have b3f0 := HKb311.out.b0
    have b3f1 := HKb311.out.b1
    have b4f0 := HKb411.out.b0
    have b4f1 := HKb411.out.b1
    have b5f0 := HKb511.out.b0
    have b5f1 := HKb511.out.b1
    have HB11 := Lib.hid (HB10.out.trans (hb.mono HB10.out.size))
    clear hb
    have HTb611 := htb6
    clear htb6
    have HTd611 := htd6
    clear htd6
    have Nxb6 := Lib.hid (Nat.ne_of_lt HKx11.out.lt)
    have Nyb6 := Lib.hid (Nat.ne_of_lt HKy11.out.lt)
    have Nb2b6 := Lib.hid (Nat.ne_of_lt HKb211.out.lt)
    have Nb3b6 := Lib.hid (Nat.ne_of_lt HKb311.out.lt)
    have Nb4b6 := Lib.hid (Nat.ne_of_lt HKb411.out.lt)
    have Nb5b6 := Lib.hid (Nat.ne_of_lt HKb511.out.lt)
    have hb := wbox_below w11 k4 a6 n4 c6
    have HKx12 := Lib.hid (HKx11.out.on' hb)
    have HTx12 := Lib.hid (HTx11.out.below hb)
    have HKy12 := Lib.hid (HKy11.out.on' hb)
    have HTy12 := Lib.hid (HTy11.out.below hb)
    have HKb212 := Lib.hid (HKb211.out.on' hb)
    have HTb212 := Lib.hid (HTb211.out.below hb)
    have HKb312 := Lib.hid (HKb311.out.on' hb)
    have HTb312 := Lib.hid (HTb311.out.below hb)
    have HKb412 := Lib.hid (HKb411.out.on' hb)
    have HTb412 := Lib.hid (HTb411.out.below hb)
    have HKb512 := Lib.hid (HKb511.out.on' hb)
    have HTb512 := Lib.hid (HTb511.out.below hb)
    have xb6a0 := fun o => (HKx11.out.alloc o).b0
    have xb6a1 := fun o => (HKx11.out.alloc o).b1
    have yb6a0 := fun o => (HKy11.out.alloc o).b0
    have yb6a1 := fun o => (HKy11.out.alloc o).b1
    have b2b6a0 := fun o => (HKb211.out.alloc o).b0
    have b2b6a1 := fun o => (HKb211.out.alloc o).b1
    have b3b6a0 := fun o => (HKb311.out.alloc o).b0
    have b3b6a1 := fun o => (HKb311.out.alloc o).b1
    have b4b6a0 := fun o => (HKb411.out.alloc o).b0
    have b4b6a1 := fun o => (HKb411.out.alloc o).b1
    have b5b6a0 := fun o => (HKb511.out.alloc o).b0
    have b5b6a1 := fun o => (HKb511.out.alloc o).b1
    have HTb612 := Lib.hid (HTb611.out.below hb)
    have HKb612 := Lib.hid (wbox_blok w11 k4 a6 n4 c6)
    have HB12 := Lib.hid (HB11.out.trans (hb.mono HB11.out.size))
    clear hb
    have HTd612 := Lib.hid (HTd611.out.below (wbox_below w11 k4 a6 n4 c6))
    go_wp2_with fail
    refine (refStep_is k at' a n c l k4 l4 d4 n4 q4 e4 (wbox w11 k4 a6 n4 c6) HTx12.out (by omega) S4.out M4.out P4.out).mono ?_
    clear xf0 xf1 yf0 yf1 b2f0 b2f1 b3f0 b3f1 b4f0 b4f1 b5f0 b5f1 xb6a0 xb6a1 yb6a0 yb6a1 b2b6a0 b2b6a1 b3b6a0 b3b6a1 b4b6a0 b4b6a1 b5b6a0 b5b6a1
    rintro e w13 ⟨a8, c8, a9, c9, rfl, htb7, htd7, hb⟩
    have HKx13 := Lib.hid (HKx12.out.on' hb)
    have HTx13 := Lib.hid (HTx12.out.below hb)
    have HKy13 := Lib.hid (HKy12.out.on' hb)
    have HTy13 := Lib.hid (HTy12.out.below hb)
    have HKb213 := Lib.hid (HKb212.out.on' hb)
    have HTb213 := Lib.hid (HTb212.out.below hb)
    have HKb313 := Lib.hid (HKb312.out.on' hb)
    have HTb313 := Lib.hid (HTb312.out.below hb)
    have HKb413 := Lib.hid (HKb412.out.on' hb)
    have HTb413 := Lib.hid (HTb412.out.below hb)
    have HKb513 := Lib.hid (HKb512.out.on' hb)
    have HTb513 := Lib.hid (HTb512.out.below hb)
    have HKb613 := Lib.hid (HKb612.out.on' hb)
    have HTb613 := Lib.hid (HTb612.out.below hb)
    have HTd613 := Lib.hid (HTd612.out.below hb)
    have xf0 := HKx13.out.b0
    have xf1 := HKx13.out.b1
    have yf0 := HKy13.out.b0
    have yf1 := HKy13.out.b1
    have b2f0 := HKb213.out.b0
    have b2f1 := HKb213.out.b1
    have b3f0 := HKb313.out.b0
    have b3f1 := HKb313.out.b1
    have b4f0 := HKb413.out.b0
    have b4f1 := HKb413.out.b1
    have b5f0 := HKb513.out.b0
    have b5f1 := HKb513.out.b1
    have b6f0 := HKb613.out.b0
    have b6f1 := HKb613.out.b1
    have HB13 := Lib.hid (HB12.out.trans (hb.mono HB12.out.size))
    clear hb
    have HTb713 := htb7
    clear htb7
    have HTd713 := htd7
    clear htd7
    have Nxb7 := Lib.hid (Nat.ne_of_lt HKx13.out.lt)
    have Nyb7 := Lib.hid (Nat.ne_of_lt HKy13.out.lt)
    have Nb2b7 := Lib.hid (Nat.ne_of_lt HKb213.out.lt)
    have Nb3b7 := Lib.hid (Nat.ne_of_lt HKb313.out.lt)
    have Nb4b7 := Lib.hid (Nat.ne_of_lt HKb413.out.lt)
    have Nb5b7 := Lib.hid (Nat.ne_of_lt HKb513.out.lt)
    have Nb6b7 := Lib.hid (Nat.ne_of_lt HKb613.out.lt)
    have hb := wbox_below w13 k4 a8 n4 c8
    have HKx14 := Lib.hid (HKx13.out.on' hb)
    have HTx14 := Lib.hid (HTx13.out.below hb)
    have HKy14 := Lib.hid (HKy13.out.on' hb)
    have HTy14 := Lib.hid (HTy13.out.below hb)
    have HKb214 := Lib.hid (HKb213.out.on' hb)
    have HTb214 := Lib.hid (HTb213.out.below hb)
    have HKb314 := Lib.hid (HKb313.out.on' hb)
    have HTb314 := Lib.hid (HTb313.out.below hb)
    have HKb414 := Lib.hid (HKb413.out.on' hb)
    have HTb414 := Lib.hid (HTb413.out.below hb)
    have HKb514 := Lib.hid (HKb513.out.on' hb)
    have HTb514 := Lib.hid (HTb513.out.below hb)
    have HKb614 := Lib.hid (HKb613.out.on' hb)
    have HTb614 := Lib.hid (HTb613.out.below hb)
    have HTd614 := Lib.hid (HTd613.out.below hb)
    have xb7a0 := fun o => (HKx13.out.alloc o).b0
    have xb7a1 := fun o => (HKx13.out.alloc o).b1
    have yb7a0 := fun o => (HKy13.out.alloc o).b0
    have yb7a1 := fun o => (HKy13.out.alloc o).b1
    have b2b7a0 := fun o => (HKb213.out.alloc o).b0
    have b2b7a1 := fun o => (HKb213.out.alloc o).b1
    have b3b7a0 := fun o => (HKb313.out.alloc o).b0
    have b3b7a1 := fun o => (HKb313.out.alloc o).b1
    have b4b7a0 := fun o => (HKb413.out.alloc o).b0
    have b4b7a1 := fun o => (HKb413.out.alloc o).b1
    have b5b7a0 := fun o => (HKb513.out.alloc o).b0
    have b5b7a1 := fun o => (HKb513.out.alloc o).b1
    have b6b7a0 := fun o => (HKb613.out.alloc o).b0
    have b6b7a1 := fun o => (HKb613.out.alloc o).b1
    have HTb714 := Lib.hid (HTb713.out.below hb)
    have HKb714 := Lib.hid (wbox_blok w13 k4 a8 n4 c8)
    have HB14 := Lib.hid (HB13.out.trans (hb.mono HB13.out.size))
    clear hb
    have HTd714 := Lib.hid (HTd713.out.below (wbox_below w13 k4 a8 n4 c8))
    go_wp2_with fail
    refine (new_is org k5 e5 (wbox w13 k4 a8 n4 c8) S5.out).mono ?_
    clear xf0 xf1 yf0 yf1 b2f0 b2f1 b3f0 b3f1 b4f0 b4f1 b5f0 b5f1 b6f0 b6f1 xb7a0 xb7a1 yb7a0 yb7a1 b2b7a0 b2b7a1 b3b7a0 b3b7a1 b4b7a0 b4b7a1 b5b7a0 b5b7a1 b6b7a0 b6b7a1
    rintro e w15 ⟨rfl, hb⟩
    have HKx15 := Lib.hid (HKx14.out.on' hb)
    have HTx15 := Lib.hid (HTx14.out.below hb)
    have HKy15 := Lib.hid (HKy14.out.on' hb)
    have HTy15 := Lib.hid (HTy14.out.below hb)
    have HKb215 := Lib.hid (HKb214.out.on' hb)
    have HTb215 := Lib.hid (HTb214.out.below hb)
    have HKb315 := Lib.hid (HKb314.out.on' hb)
    have HTb315 := Lib.hid (HTb314.out.below hb)
    have HKb415 := Lib.hid (HKb414.out.on' hb)
    have HTb415 := Lib.hid (HTb414.out.below hb)
    have HKb515 := Lib.hid (HKb514.out.on' hb)
    have HTb515 := Lib.hid (HTb514.out.below hb)
    have HKb615 := Lib.hid (HKb614.out.on' hb)
    have HTb615 := Lib.hid (HTb614.out.below hb)
    have HKb715 := Lib.hid (HKb714.out.on' hb)
    have HTb715 := Lib.hid (HTb714.out.below hb)
    have HTd615 := Lib.hid (HTd614.out.below hb)
    have HTd715 := Lib.hid (HTd714.out.below hb)
    have xf0 := HKx15.out.b0
    have xf1 := HKx15.out.b1
    have yf0 := HKy15.out.b0
    have yf1 := HKy15.out.b1
    have b2f0 := HKb215.out.b0
    have b2f1 := HKb215.out.b1
    have b3f0 := HKb315.out.b0
    have b3f1 := HKb315.out.b1
    have b4f0 := HKb415.out.b0
    have b4f1 := HKb415.out.b1
    have b5f0 := HKb515.out.b0
    have b5f1 := HKb515.out.b1
    have b6f0 := HKb615.out.b0
    have b6f1 := HKb615.out.b1
    have b7f0 := HKb715.out.b0
    have b7f1 := HKb715.out.b1
    have HB15 := Lib.hid (HB14.out.trans (hb.mono HB14.out.size))
    clear hb
    have HTb815 := Lib.hid (TIn.nil w15)
    have Nxb8 := Lib.hid (Nat.ne_of_lt HKx15.out.lt)
    have Nyb8 := Lib.hid (Nat.ne_of_lt HKy15.out.lt)
    have Nb2b8 := Lib.hid (Nat.ne_of_lt HKb215.out.lt)
    have Nb3b8 := Lib.hid (Nat.ne_of_lt HKb315.out.lt)
    have Nb4b8 := Lib.hid (Nat.ne_of_lt HKb415.out.lt)
    have Nb5b8 := Lib.hid (Nat.ne_of_lt HKb515.out.lt)
    have Nb6b8 := Lib.hid (Nat.ne_of_lt HKb615.out.lt)
    have Nb7b8 := Lib.hid (Nat.ne_of_lt HKb715.out.lt)
    have hb := wbox_below w15 k5 none 0 0
    have HKx16 := Lib.hid (HKx15.out.on' hb)
    have HTx16 := Lib.hid (HTx15.out.below hb)
    have HKy16 := Lib.hid (HKy15.out.on' hb)
    have HTy16 := Lib.hid (HTy15.out.below hb)
    have HKb216 := Lib.hid (HKb215.out.on' hb)
    have HTb216 := Lib.hid (HTb215.out.below hb)
    have HKb316 := Lib.hid (HKb315.out.on' hb)
    have HTb316 := Lib.hid (HTb315.out.below hb)
    have HKb416 := Lib.hid (HKb415.out.on' hb)
    have HTb416 := Lib.hid (HTb415.out.below hb)
    have HKb516 := Lib.hid (HKb515.out.on' hb)
    have HTb516 := Lib.hid (HTb515.out.below hb)
    have HKb616 := Lib.hid (HKb615.out.on' hb)
    have HTb616 := Lib.hid (HTb615.out.below hb)
    have HKb716 := Lib.hid (HKb715.out.on' hb)
    have HTb716 := Lib.hid (HTb715.out.below hb)
    have HTd616 := Lib.hid (HTd615.out.below hb)
    have HTd716 := Lib.hid (HTd715.out.below hb)
    have xb8a0 := fun o => (HKx15.out.alloc o).b0
    have xb8a1 := fun o => (HKx15.out.alloc o).b1
    have yb8a0 := fun o => (HKy15.out.alloc o).b0
    have yb8a1 := fun o => (HKy15.out.alloc o).b1
    have b2b8a0 := fun o => (HKb215.out.alloc o).b0
    have b2b8a1 := fun o => (HKb215.out.alloc o).b1
    have b3b8a0 := fun o => (HKb315.out.alloc o).b0
    have b3b8a1 := fun o => (HKb315.out.alloc o).b1
    have b4b8a0 := fun o => (HKb415.out.alloc o).b0
    have b4b8a1 := fun o => (HKb415.out.alloc o).b1
    have b5b8a0 := fun o => (HKb515.out.alloc o).b0
    have b5b8a1 := fun o => (HKb515.out.alloc o).b1
    have b6b8a0 := fun o => (HKb615.out.alloc o).b0
    have b6b8a1 := fun o => (HKb615.out.alloc o).b1
    have b7b8a0 := fun o => (HKb715.out.alloc o).b0
    have b7b8a1 := fun o => (HKb715.out.alloc o).b1
    have HTb816 := Lib.hid (HTb815.out.below hb)
    have HKb816 := Lib.hid (wbox_blok w15 k5 none 0 0)
    have HB16 := Lib.hid (HB15.out.trans (hb.mono HB15.out.size))
    clear hb
    go_wp2_with fail
    refine (refNew_is org k5 e5 (wbox w15 k5 none 0 0) S5.out).mono ?_
    clear xf0 xf1 yf0 yf1 b2f0 b2f1 b3f0 b3f1 b4f0 b4f1 b5f0 b5f1 b6f0 b6f1 b7f0 b7f1 xb8a0 xb8a1 yb8a0 yb8a1 b2b8a0 b2b8a1 b3b8a0 b3b8a1 b4b8a0 b4b8a1 b5b8a0 b5b8a1 b6b8a0 b6b8a1 b7b8a0 b7b8a1
    rintro e w17 ⟨rfl, hb⟩
    have HKx17 := Lib.hid (HKx16.out.on' hb)
    have HTx17 := Lib.hid (HTx16.out.below hb)
    have HKy17 := Lib.hid (HKy16.out.on' hb)
    have HTy17 := Lib.hid (HTy16.out.below hb)
    have HKb217 := Lib.hid (HKb216.out.on' hb)
    have HTb217 := Lib.hid (HTb216.out.below hb)
    have HKb317 := Lib.hid (HKb316.out.on' hb)
    have HTb317 := Lib.hid (HTb316.out.below hb)
    have HKb417 := Lib.hid (HKb416.out.on' hb)
    have HTb417 := Lib.hid (HTb416.out.below hb)
    have HKb517 := Lib.hid (HKb516.out.on' hb)
    have HTb517 := Lib.hid (HTb516.out.below hb)
    have HKb617 := Lib.hid (HKb616.out.on' hb)
    have HTb617 := Lib.hid (HTb616.out.below hb)
    have HKb717 := Lib.hid (HKb716.out.on' hb)
    have HTb717 := Lib.hid (HTb716.out.below hb)
    have HKb817 := Lib.hid (HKb816.out.on' hb)
    have HTb817 := Lib.hid (HTb816.out.below hb)
    have HTd617 := Lib.hid (HTd616.out.below hb)
    have HTd717 := Lib.hid (HTd716.out.below hb)
    have xf0 := HKx17.out.b0
    have xf1 := HKx17.out.b1
    have yf0 := HKy17.out.b0
    have yf1 := HKy17.out.b1
    have b2f0 := HKb217.out.b0
    have b2f1 := HKb217.out.b1
    have b3f0 := HKb317.out.b0
    have b3f1 := HKb317.out.b1
    have b4f0 := HKb417.out.b0
    have b4f1 := HKb417.out.b1
    have b5f0 := HKb517.out.b0
    have b5f1 := HKb517.out.b1
    have b6f0 := HKb617.out.b0
    have b6f1 := HKb617.out.b1
    have b7f0 := HKb717.out.b0
    have b7f1 := HKb717.out.b1
    have b8f0 := HKb817.out.b0
    have b8f1 := HKb817.out.b1
    have HB17 := Lib.hid (HB16.out.trans (hb.mono HB16.out.size))
    clear hb
    have HTb917 := Lib.hid (TIn.nil w17)
    have Nxb9 := Lib.hid (Nat.ne_of_lt HKx17.out.lt)
    have Nyb9 := Lib.hid (Nat.ne_of_lt HKy17.out.lt)
    have Nb2b9 := Lib.hid (Nat.ne_of_lt HKb217.out.lt)
    have Nb3b9 := Lib.hid (Nat.ne_of_lt HKb317.out.lt)
    have Nb4b9 := Lib.hid (Nat.ne_of_lt HKb417.out.lt)
    have Nb5b9 := Lib.hid (Nat.ne_of_lt HKb517.out.lt)
    have Nb6b9 := Lib.hid (Nat.ne_of_lt HKb617.out.lt)
    have Nb7b9 := Lib.hid (Nat.ne_of_lt HKb717.out.lt)
    have Nb8b9 := Lib.hid (Nat.ne_of_lt HKb817.out.lt)
    have hb := wbox_below w17 k5 none 0 0
    have HKx18 := Lib.hid (HKx17.out.on' hb)
    have HTx18 := Lib.hid (HTx17.out.below hb)
    have HKy18 := Lib.hid (HKy17.out.on' hb)
    have HTy18 := Lib.hid (HTy17.out.below hb)
    have HKb218 := Lib.hid (HKb217.out.on' hb)
    have HTb218 := Lib.hid (HTb217.out.below hb)
    have HKb318 := Lib.hid (HKb317.out.on' hb)
    have HTb318 := Lib.hid (HTb317.out.below hb)
    have HKb418 := Lib.hid (HKb417.out.on' hb)
    have HTb418 := Lib.hid (HTb417.out.below hb)
    have HKb518 := Lib.hid (HKb517.out.on' hb)
    have HTb518 := Lib.hid (HTb517.out.below hb)
    have HKb618 := Lib.hid (HKb617.out.on' hb)
    have HTb618 := Lib.hid (HTb617.out.below hb)
    have HKb718 := Lib.hid (HKb717.out.on' hb)
    have HTb718 := Lib.hid (HTb717.out.below hb)
    have HKb818 := Lib.hid (HKb817.out.on' hb)
    have HTb818 := Lib.hid (HTb817.out.below hb)
    have HTd618 := Lib.hid (HTd617.out.below hb)
    have HTd718 := Lib.hid (HTd717.out.below hb)
    have xb9a0 := fun o => (HKx17.out.alloc o).b0
    have xb9a1 := fun o => (HKx17.out.alloc o).b1
    have yb9a0 := fun o => (HKy17.out.alloc o).b0
    have yb9a1 := fun o => (HKy17.out.alloc o).b1
    have b2b9a0 := fun o => (HKb217.out.alloc o).b0
    have b2b9a1 := fun o => (HKb217.out.alloc o).b1
    have b3b9a0 := fun o => (HKb317.out.alloc o).b0
    have b3b9a1 := fun o => (HKb317.out.alloc o).b1
    have b4b9a0 := fun o => (HKb417.out.alloc o).b0
    have b4b9a1 := fun o => (HKb417.out.alloc o).b1
    have b5b9a0 := fun o => (HKb517.out.alloc o).b0
    have b5b9a1 := fun o => (HKb517.out.alloc o).b1
    have b6b9a0 := fun o => (HKb617.out.alloc o).b0
    have b6b9a1 := fun o => (HKb617.out.alloc o).b1
    have b7b9a0 := fun o => (HKb717.out.alloc o).b0
    have b7b9a1 := fun o => (HKb717.out.alloc o).b1
    have b8b9a0 := fun o => (HKb817.out.alloc o).b0
    have b8b9a1 := fun o => (HKb817.out.alloc o).b1
    have HTb918 := Lib.hid (HTb917.out.below hb)
    have HKb918 := Lib.hid (wbox_blok w17 k5 none 0 0)
    have HB18 := Lib.hid (HB17.out.trans (hb.mono HB17.out.size))
    clear hb
    go_wp2_with fail
    refine (refSame_any k k a2 a3 n2 n2 c2 c3 l2 l2 (wbox w17 k5 none 0 0) HTb218.out HTb318.out (by omega) true (by simp)).mono ?_
    clear xf0 xf1 yf0 yf1 b2f0 b2f1 b3f0 b3f1 b4f0 b4f1 b5f0 b5f1 b6f0 b6f1 b7f0 b7f1 b8f0 b8f1 xb9a0 xb9a1 yb9a0 yb9a1 b2b9a0 b2b9a1 b3b9a0 b3b9a1 b4b9a0 b4b9a1 b5b9a0 b5b9a1 b6b9a0 b6b9a1 b7b9a0 b7b9a1 b8b9a0 b8b9a1
    rintro e w19 ⟨rfl, hb⟩
    have HKx19 := Lib.hid (HKx18.out.on' hb)
    have HTx19 := Lib.hid (HTx18.out.below hb)
    have HKy19 := Lib.hid (HKy18.out.on' hb)
    have HTy19 := Lib.hid (HTy18.out.below hb)
    have HKb219 := Lib.hid (HKb218.out.on' hb)
    have HTb219 := Lib.hid (HTb218.out.below hb)
    have HKb319 := Lib.hid (HKb318.out.on' hb)
    have HTb319 := Lib.hid (HTb318.out.below hb)
    have HKb419 := Lib.hid (HKb418.out.on' hb)
    have HTb419 := Lib.hid (HTb418.out.below hb)
    have HKb519 := Lib.hid (HKb518.out.on' hb)
    have HTb519 := Lib.hid (HTb518.out.below hb)
    have HKb619 := Lib.hid (HKb618.out.on' hb)
    have HTb619 := Lib.hid (HTb618.out.below hb)
    have HKb719 := Lib.hid (HKb718.out.on' hb)
    have HTb719 := Lib.hid (HTb718.out.below hb)
    have HKb819 := Lib.hid (HKb818.out.on' hb)
    have HTb819 := Lib.hid (HTb818.out.below hb)
    have HKb919 := Lib.hid (HKb918.out.on' hb)
    have HTb919 := Lib.hid (HTb918.out.below hb)
    have HTd619 := Lib.hid (HTd618.out.below hb)
    have HTd719 := Lib.hid (HTd718.out.below hb)
    have xf0 := HKx19.out.b0
    have xf1 := HKx19.out.b1
    have yf0 := HKy19.out.b0
    have yf1 := HKy19.out.b1
    have b2f0 := HKb219.out.b0
    have b2f1 := HKb219.out.b1
    have b3f0 := HKb319.out.b0
    have b3f1 := HKb319.out.b1
    have b4f0 := HKb419.out.b0
    have b4f1 := HKb419.out.b1
    have b5f0 := HKb519.out.b0
    have b5f1 := HKb519.out.b1
    have b6f0 := HKb619.out.b0
    have b6f1 := HKb619.out.b1
    have b7f0 := HKb719.out.b0
    have b7f1 := HKb719.out.b1
    have b8f0 := HKb819.out.b0
    have b8f1 := HKb819.out.b1
    have b9f0 := HKb919.out.b0
    have b9f1 := HKb919.out.b1
    have HB19 := Lib.hid (HB18.out.trans (hb.mono HB18.out.size))
    clear hb
    go_wp2_with fail
    refine (refSame_any k k a4 a5 n3 n3 c4 c5 l3 l3 w19 HTb419.out HTb519.out (by omega) true (by simp)).mono ?_
    clear xf0 xf1 yf0 yf1 b2f0 b2f1 b3f0 b3f1 b4f0 b4f1 b5f0 b5f1 b6f0 b6f1 b7f0 b7f1 b8f0 b8f1 b9f0 b9f1
    rintro e w20 ⟨rfl, hb⟩
    have HKx20 := Lib.hid (HKx19.out.on' hb)
    have HTx20 := Lib.hid (HTx19.out.below hb)
    have HKy20 := Lib.hid (HKy19.out.on' hb)
    have HTy20 := Lib.hid (HTy19.out.below hb)
    have HKb220 := Lib.hid (HKb219.out.on' hb)
    have HTb220 := Lib.hid (HTb219.out.below hb)
    have HKb320 := Lib.hid (HKb319.out.on' hb)
    have HTb320 := Lib.hid (HTb319.out.below hb)
    have HKb420 := Lib.hid (HKb419.out.on' hb)
    have HTb420 := Lib.hid (HTb419.out.below hb)
    have HKb520 := Lib.hid (HKb519.out.on' hb)
    have HTb520 := Lib.hid (HTb519.out.below hb)
    have HKb620 := Lib.hid (HKb619.out.on' hb)
    have HTb620 := Lib.hid (HTb619.out.below hb)
    have HKb720 := Lib.hid (HKb719.out.on' hb)
    have HTb720 := Lib.hid (HTb719.out.below hb)
    have HKb820 := Lib.hid (HKb819.out.on' hb)
    have HTb820 := Lib.hid (HTb819.out.below hb)
    have HKb920 := Lib.hid (HKb919.out.on' hb)
    have HTb920 := Lib.hid (HTb919.out.below hb)
    have HTd620 := Lib.hid (HTd619.out.below hb)
    have HTd720 := Lib.hid (HTd719.out.below hb)
    have xf0 := HKx20.out.b0
    have xf1 := HKx20.out.b1
    have yf0 := HKy20.out.b0
    have yf1 := HKy20.out.b1
    have b2f0 := HKb220.out.b0
    have b2f1 := HKb220.out.b1
    have b3f0 := HKb320.out.b0
    have b3f1 := HKb320.out.b1
    have b4f0 := HKb420.out.b0
    have b4f1 := HKb420.out.b1
    have b5f0 := HKb520.out.b0
    have b5f1 := HKb520.out.b1
    have b6f0 := HKb620.out.b0
    have b6f1 := HKb620.out.b1
    have b7f0 := HKb720.out.b0
    have b7f1 := HKb720.out.b1
    have b8f0 := HKb820.out.b0
    have b8f1 := HKb820.out.b1
    have b9f0 := HKb920.out.b0
    have b9f1 := HKb920.out.b1
    have HB20 := Lib.hid (HB19.out.trans (hb.mono HB19.out.size))
    clear hb
    go_wp2_with fail
    refine (refSame_any k4 k4 a6 a8 n4 n4 c6 c8 l4 l4 w20 HTb620.out HTb720.out (by omega) true (by simp)).mono ?_
    clear xf0 xf1 yf0 yf1 b2f0 b2f1 b3f0 b3f1 b4f0 b4f1 b5f0 b5f1 b6f0 b6f1 b7f0 b7f1 b8f0 b8f1 b9f0 b9f1
    rintro e w21 ⟨rfl, hb⟩
    have HKx21 := Lib.hid (HKx20.out.on' hb)
    have HTx21 := Lib.hid (HTx20.out.below hb)
    have HKy21 := Lib.hid (HKy20.out.on' hb)
    have HTy21 := Lib.hid (HTy20.out.below hb)
    have HKb221 := Lib.hid (HKb220.out.on' hb)
    have HTb221 := Lib.hid (HTb220.out.below hb)
    have HKb321 := Lib.hid (HKb320.out.on' hb)
    have HTb321 := Lib.hid (HTb320.out.below hb)
    have HKb421 := Lib.hid (HKb420.out.on' hb)
    have HTb421 := Lib.hid (HTb420.out.below hb)
    have HKb521 := Lib.hid (HKb520.out.on' hb)
    have HTb521 := Lib.hid (HTb520.out.below hb)
    have HKb621 := Lib.hid (HKb620.out.on' hb)
    have HTb621 := Lib.hid (HTb620.out.below hb)
    have HKb721 := Lib.hid (HKb720.out.on' hb)
    have HTb721 := Lib.hid (HTb720.out.below hb)
    have HKb821 := Lib.hid (HKb820.out.on' hb)
    have HTb821 := Lib.hid (HTb820.out.below hb)
    have HKb921 := Lib.hid (HKb920.out.on' hb)
    have HTb921 := Lib.hid (HTb920.out.below hb)
    have HTd621 := Lib.hid (HTd620.out.below hb)
    have HTd721 := Lib.hid (HTd720.out.below hb)
    have xf0 := HKx21.out.b0
    have xf1 := HKx21.out.b1
    have yf0 := HKy21.out.b0
    have yf1 := HKy21.out.b1
    have b2f0 := HKb221.out.b0
    have b2f1 := HKb221.out.b1
    have b3f0 := HKb321.out.b0
    have b3f1 := HKb321.out.b1
    have b4f0 := HKb421.out.b0
    have b4f1 := HKb421.out.b1
    have b5f0 := HKb521.out.b0
    have b5f1 := HKb521.out.b1
    have b6f0 := HKb621.out.b0
    have b6f1 := HKb621.out.b1
    have b7f0 := HKb721.out.b0
    have b7f1 := HKb721.out.b1
    have b8f0 := HKb821.out.b0
    have b8f1 := HKb821.out.b1
    have b9f0 := HKb921.out.b0
    have b9f1 := HKb921.out.b1
    have HB21 := Lib.hid (HB20.out.trans (hb.mono HB20.out.size))
    clear hb
    go_wp2_with fail
    refine (refSame_any k5 k5 none none 0 0 0 0 [] [] w21 HTb821.out HTb921.out (by omega) true (by simp)).mono ?_
    clear xf0 xf1 yf0 yf1 b2f0 b2f1 b3f0 b3f1 b4f0 b4f1 b5f0 b5f1 b6f0 b6f1 b7f0 b7f1 b8f0 b8f1 b9f0 b9f1
    rintro e w22 ⟨rfl, hb⟩
    have HKx22 := Lib.hid (HKx21.out.on' hb)
    have HTx22 := Lib.hid (HTx21.out.below hb)
    have HKy22 := Lib.hid (HKy21.out.on' hb)
    have HTy22 := Lib.hid (HTy21.out.below hb)
    have HKb222 := Lib.hid (HKb221.out.on' hb)
    have HTb222 := Lib.hid (HTb221.out.below hb)
    have HKb322 := Lib.hid (HKb321.out.on' hb)
    have HTb322 := Lib.hid (HTb321.out.below hb)
    have HKb422 := Lib.hid (HKb421.out.on' hb)
    have HTb422 := Lib.hid (HTb421.out.below hb)
    have HKb522 := Lib.hid (HKb521.out.on' hb)
    have HTb522 := Lib.hid (HTb521.out.below hb)
    have HKb622 := Lib.hid (HKb621.out.on' hb)
    have HTb622 := Lib.hid (HTb621.out.below hb)
    have HKb722 := Lib.hid (HKb721.out.on' hb)
    have HTb722 := Lib.hid (HTb721.out.below hb)
    have HKb822 := Lib.hid (HKb821.out.on' hb)
    have HTb822 := Lib.hid (HTb821.out.below hb)
    have HKb922 := Lib.hid (HKb921.out.on' hb)
    have HTb922 := Lib.hid (HTb921.out.below hb)
    have HTd622 := Lib.hid (HTd621.out.below hb)
    have HTd722 := Lib.hid (HTd721.out.below hb)
    have xf0 := HKx22.out.b0
    have xf1 := HKx22.out.b1
    have yf0 := HKy22.out.b0
    have yf1 := HKy22.out.b1
    have b2f0 := HKb222.out.b0
    have b2f1 := HKb222.out.b1
    have b3f0 := HKb322.out.b0
    have b3f1 := HKb322.out.b1
    have b4f0 := HKb422.out.b0
    have b4f1 := HKb422.out.b1
    have b5f0 := HKb522.out.b0
    have b5f1 := HKb522.out.b1
    have b6f0 := HKb622.out.b0
    have b6f1 := HKb622.out.b1
    have b7f0 := HKb722.out.b0
    have b7f1 := HKb722.out.b1
    have b8f0 := HKb822.out.b0
    have b8f1 := HKb822.out.b1
    have b9f0 := HKb922.out.b0
    have b9f1 := HKb922.out.b1
    have HB22 := Lib.hid (HB21.out.trans (hb.mono HB21.out.size))
    clear hb
    go_wp2_with fail
    refine (timers_any a7 a9 q4 q4 c7 c9 d4 d4 w22 HTd622.out HTd722.out (by omega) true (by simp)).mono ?_
    clear xf0 xf1 yf0 yf1 b2f0 b2f1 b3f0 b3f1 b4f0 b4f1 b5f0 b5f1 b6f0 b6f1 b7f0 b7f1 b8f0 b8f1 b9f0 b9f1
    rintro e w23 ⟨rfl, hb⟩
    have HKx23 := Lib.hid (HKx22.out.on' hb)
    have HTx23 := Lib.hid (HTx22.out.below hb)
    have HKy23 := Lib.hid (HKy22.out.on' hb)
    have HTy23 := Lib.hid (HTy22.out.below hb)
    have HKb223 := Lib.hid (HKb222.out.on' hb)
    have HTb223 := Lib.hid (HTb222.out.below hb)
    have HKb323 := Lib.hid (HKb322.out.on' hb)
    have HTb323 := Lib.hid (HTb322.out.below hb)
    have HKb423 := Lib.hid (HKb422.out.on' hb)
    have HTb423 := Lib.hid (HTb422.out.below hb)
    have HKb523 := Lib.hid (HKb522.out.on' hb)
    have HTb523 := Lib.hid (HTb522.out.below hb)
    have HKb623 := Lib.hid (HKb622.out.on' hb)
    have HTb623 := Lib.hid (HTb622.out.below hb)
    have HKb723 := Lib.hid (HKb722.out.on' hb)
    have HTb723 := Lib.hid (HTb722.out.below hb)
    have HKb823 := Lib.hid (HKb822.out.on' hb)
    have HTb823 := Lib.hid (HTb822.out.below hb)
    have HKb923 := Lib.hid (HKb922.out.on' hb)
    have HTb923 := Lib.hid (HTb922.out.below hb)
    have HTd623 := Lib.hid (HTd622.out.below hb)
    have HTd723 := Lib.hid (HTd722.out.below hb)
    have xf0 := HKx23.out.b0
    have xf1 := HKx23.out.b1
    have yf0 := HKy23.out.b0
    have yf1 := HKy23.out.b1
    have b2f0 := HKb223.out.b0
    have b2f1 := HKb223.out.b1
    have b3f0 := HKb323.out.b0
    have b3f1 := HKb323.out.b1
    have b4f0 := HKb423.out.b0
    have b4f1 := HKb423.out.b1
    have b5f0 := HKb523.out.b0
    have b5f1 := HKb523.out.b1
    have b6f0 := HKb623.out.b0
    have b6f1 := HKb623.out.b1
    have b7f0 := HKb723.out.b0
    have b7f1 := HKb723.out.b1
    have b8f0 := HKb823.out.b0
    have b8f1 := HKb823.out.b1
    have b9f0 := HKb923.out.b0
    have b9f1 := HKb923.out.b1
    have HB23 := Lib.hid (HB22.out.trans (hb.mono HB22.out.size))
    clear hb
    go_wp2_with fail
    refine (refMay_any k a n c l w23 HTx23.out (by omega) pm HM.out).mono ?_
    clear xf0 xf1 yf0 yf1 b2f0 b2f1 b3f0 b3f1 b4f0 b4f1 b5f0 b5f1 b6f0 b6f1 b7f0 b7f1 b8f0 b8f1 b9f0 b9f1
    rintro e w24 ⟨rfl, hb⟩
    have HKx24 := Lib.hid (HKx23.out.on' hb)
    have HTx24 := Lib.hid (HTx23.out.below hb)
    have HKy24 := Lib.hid (HKy23.out.on' hb)
    have HTy24 := Lib.hid (HTy23.out.below hb)
    have HKb224 := Lib.hid (HKb223.out.on' hb)
    have HTb224 := Lib.hid (HTb223.out.below hb)
    have HKb324 := Lib.hid (HKb323.out.on' hb)
    have HTb324 := Lib.hid (HTb323.out.below hb)
    have HKb424 := Lib.hid (HKb423.out.on' hb)
    have HTb424 := Lib.hid (HTb423.out.below hb)
    have HKb524 := Lib.hid (HKb523.out.on' hb)
    have HTb524 := Lib.hid (HTb523.out.below hb)
    have HKb624 := Lib.hid (HKb623.out.on' hb)
    have HTb624 := Lib.hid (HTb623.out.below hb)
    have HKb724 := Lib.hid (HKb723.out.on' hb)
    have HTb724 := Lib.hid (HTb723.out.below hb)
    have HKb824 := Lib.hid (HKb823.out.on' hb)
    have HTb824 := Lib.hid (HTb823.out.below hb)
    have HKb924 := Lib.hid (HKb923.out.on' hb)
    have HTb924 := Lib.hid (HTb923.out.below hb)
    have HTd624 := Lib.hid (HTd623.out.below hb)
    have HTd724 := Lib.hid (HTd723.out.below hb)
    have xf0 := HKx24.out.b0
    have xf1 := HKx24.out.b1
    have yf0 := HKy24.out.b0
    have yf1 := HKy24.out.b1
    have b2f0 := HKb224.out.b0
    have b2f1 := HKb224.out.b1
    have b3f0 := HKb324.out.b0
    have b3f1 := HKb324.out.b1
    have b4f0 := HKb424.out.b0
    have b4f1 := HKb424.out.b1
    have b5f0 := HKb524.out.b0
    have b5f1 := HKb524.out.b1
    have b6f0 := HKb624.out.b0
    have b6f1 := HKb624.out.b1
    have b7f0 := HKb724.out.b0
    have b7f1 := HKb724.out.b1
    have b8f0 := HKb824.out.b0
    have b8f1 := HKb824.out.b1
    have b9f0 := HKb924.out.b0
    have b9f1 := HKb924.out.b1
    have HB24 := Lib.hid (HB23.out.trans (hb.mono HB23.out.size))
    clear hb
    go_wp2_with fail
    refine (refSame_any k k' a a' n n' c c' l l' w24 HTx24.out HTy24.out (by omega) ps HS.out).mono ?_
    clear xf0 xf1 yf0 yf1 b2f0 b2f1 b3f0 b3f1 b4f0 b4f1 b5f0 b5f1 b6f0 b6f1 b7f0 b7f1 b8f0 b8f1 b9f0 b9f1
    rintro e w25 ⟨rfl, hb⟩
    have HKx25 := Lib.hid (HKx24.out.on' hb)
    have HTx25 := Lib.hid (HTx24.out.below hb)
    have HKy25 := Lib.hid (HKy24.out.on' hb)
    have HTy25 := Lib.hid (HTy24.out.below hb)
    have HKb225 := Lib.hid (HKb224.out.on' hb)
    have HTb225 := Lib.hid (HTb224.out.below hb)
    have HKb325 := Lib.hid (HKb324.out.on' hb)
    have HTb325 := Lib.hid (HTb324.out.below hb)
    have HKb425 := Lib.hid (HKb424.out.on' hb)
    have HTb425 := Lib.hid (HTb424.out.below hb)
    have HKb525 := Lib.hid (HKb524.out.on' hb)
    have HTb525 := Lib.hid (HTb524.out.below hb)
    have HKb625 := Lib.hid (HKb624.out.on' hb)
    have HTb625 := Lib.hid (HTb624.out.below hb)
    have HKb725 := Lib.hid (HKb724.out.on' hb)
    have HTb725 := Lib.hid (HTb724.out.below hb)
    have HKb825 := Lib.hid (HKb824.out.on' hb)
    have HTb825 := Lib.hid (HTb824.out.below hb)
    have HKb925 := Lib.hid (HKb924.out.on' hb)
    have HTb925 := Lib.hid (HTb924.out.below hb)
    have HTd625 := Lib.hid (HTd624.out.below hb)
    have HTd725 := Lib.hid (HTd724.out.below hb)
    have xf0 := HKx25.out.b0
    have xf1 := HKx25.out.b1
    have yf0 := HKy25.out.b0
    have yf1 := HKy25.out.b1
    have b2f0 := HKb225.out.b0
    have b2f1 := HKb225.out.b1
    have b3f0 := HKb325.out.b0
    have b3f1 := HKb325.out.b1
    have b4f0 := HKb425.out.b0
    have b4f1 := HKb425.out.b1
    have b5f0 := HKb525.out.b0
    have b5f1 := HKb525.out.b1
    have b6f0 := HKb625.out.b0
    have b6f1 := HKb625.out.b1
    have b7f0 := HKb725.out.b0
    have b7f1 := HKb725.out.b1
    have b8f0 := HKb825.out.b0
    have b8f1 := HKb825.out.b1
    have b9f0 := HKb925.out.b0
    have b9f1 := HKb925.out.b1
    have HB25 := Lib.hid (HB24.out.trans (hb.mono HB24.out.size))
    clear hb
    go_wp2_with fail
    refine (may_any k a n c l w25 HTx25.out (by omega) pm HM.out).mono ?_
    clear xf0 xf1 yf0 yf1 b2f0 b2f1 b3f0 b3f1 b4f0 b4f1 b5f0 b5f1 b6f0 b6f1 b7f0 b7f1 b8f0 b8f1 b9f0 b9f1
    rintro e w26 ⟨rfl, hb⟩
    have HKx26 := Lib.hid (HKx25.out.on' hb)
    have HTx26 := Lib.hid (HTx25.out.below hb)
    have HKy26 := Lib.hid (HKy25.out.on' hb)
    have HTy26 := Lib.hid (HTy25.out.below hb)
    have HKb226 := Lib.hid (HKb225.out.on' hb)
    have HTb226 := Lib.hid (HTb225.out.below hb)
    have HKb326 := Lib.hid (HKb325.out.on' hb)
    have HTb326 := Lib.hid (HTb325.out.below hb)
    have HKb426 := Lib.hid (HKb425.out.on' hb)
    have HTb426 := Lib.hid (HTb425.out.below hb)
    have HKb526 := Lib.hid (HKb525.out.on' hb)
    have HTb526 := Lib.hid (HTb525.out.below hb)
    have HKb626 := Lib.hid (HKb625.out.on' hb)
    have HTb626 := Lib.hid (HTb625.out.below hb)
    have HKb726 := Lib.hid (HKb725.out.on' hb)
    have HTb726 := Lib.hid (HTb725.out.below hb)
    have HKb826 := Lib.hid (HKb825.out.on' hb)
    have HTb826 := Lib.hid (HTb825.out.below hb)
    have HKb926 := Lib.hid (HKb925.out.on' hb)
    have HTb926 := Lib.hid (HTb925.out.below hb)
    have HTd626 := Lib.hid (HTd625.out.below hb)
    have HTd726 := Lib.hid (HTd725.out.below hb)
    have xf0 := HKx26.out.b0
    have xf1 := HKx26.out.b1
    have yf0 := HKy26.out.b0
    have yf1 := HKy26.out.b1
    have b2f0 := HKb226.out.b0
    have b2f1 := HKb226.out.b1
    have b3f0 := HKb326.out.b0
    have b3f1 := HKb326.out.b1
    have b4f0 := HKb426.out.b0
    have b4f1 := HKb426.out.b1
    have b5f0 := HKb526.out.b0
    have b5f1 := HKb526.out.b1
    have b6f0 := HKb626.out.b0
    have b6f1 := HKb626.out.b1
    have b7f0 := HKb726.out.b0
    have b7f1 := HKb726.out.b1
    have b8f0 := HKb826.out.b0
    have b8f1 := HKb826.out.b1
    have b9f0 := HKb926.out.b0
    have b9f1 := HKb926.out.b1
    have HB26 := Lib.hid (HB25.out.trans (hb.mono HB25.out.size))
    clear hb
    go_wp2_with fail
    refine (same_any k k' a a' n n' c c' l l' w26 HTx26.out HTy26.out (by omega) ps HS.out).mono ?_
    clear xf0 xf1 yf0 yf1 b2f0 b2f1 b3f0 b3f1 b4f0 b4f1 b5f0 b5f1 b6f0 b6f1 b7f0 b7f1 b8f0 b8f1 b9f0 b9f1
    rintro e w27 ⟨rfl, hb⟩
    have HKx27 := Lib.hid (HKx26.out.on' hb)
    have HTx27 := Lib.hid (HTx26.out.below hb)
    have HKy27 := Lib.hid (HKy26.out.on' hb)
    have HTy27 := Lib.hid (HTy26.out.below hb)
    have HKb227 := Lib.hid (HKb226.out.on' hb)
    have HTb227 := Lib.hid (HTb226.out.below hb)
    have HKb327 := Lib.hid (HKb326.out.on' hb)
    have HTb327 := Lib.hid (HTb326.out.below hb)
    have HKb427 := Lib.hid (HKb426.out.on' hb)
    have HTb427 := Lib.hid (HTb426.out.below hb)
    have HKb527 := Lib.hid (HKb526.out.on' hb)
    have HTb527 := Lib.hid (HTb526.out.below hb)
    have HKb627 := Lib.hid (HKb626.out.on' hb)
    have HTb627 := Lib.hid (HTb626.out.below hb)
    have HKb727 := Lib.hid (HKb726.out.on' hb)
    have HTb727 := Lib.hid (HTb726.out.below hb)
    have HKb827 := Lib.hid (HKb826.out.on' hb)
    have HTb827 := Lib.hid (HTb826.out.below hb)
    have HKb927 := Lib.hid (HKb926.out.on' hb)
    have HTb927 := Lib.hid (HTb926.out.below hb)
    have HTd627 := Lib.hid (HTd626.out.below hb)
    have HTd727 := Lib.hid (HTd726.out.below hb)
    have xf0 := HKx27.out.b0
    have xf1 := HKx27.out.b1
    have yf0 := HKy27.out.b0
    have yf1 := HKy27.out.b1
    have b2f0 := HKb227.out.b0
    have b2f1 := HKb227.out.b1
    have b3f0 := HKb327.out.b0
    have b3f1 := HKb327.out.b1
    have b4f0 := HKb427.out.b0
    have b4f1 := HKb427.out.b1
    have b5f0 := HKb527.out.b0
    have b5f1 := HKb527.out.b1
    have b6f0 := HKb627.out.b0
    have b6f1 := HKb627.out.b1
    have b7f0 := HKb727.out.b0
    have b7f1 := HKb727.out.b1
    have b8f0 := HKb827.out.b0
    have b8f1 := HKb827.out.b1
    have b9f0 := HKb927.out.b0
    have b9f1 := HKb927.out.b1
    have HB27 := Lib.hid (HB26.out.trans (hb.mono HB26.out.size))
    clear hb
    go_wp2
    go_ret
    exact ⟨rfl, HB27.out⟩
  · by_cases hn1 : n ≤ 70
    · have g1 : decide ((70 : Int) < (n : Int)) = false := by simp; omega
      have g2 : decide ((70 : Int) < (n' : Int)) = true := by simp; omega
      go_enter Try.func3, Try.ntmps3
      go_wp2_with fail
      refine (wawake_any (wbox (wbox w k a n c) k' a' n' c')).mono ?_
      rintro e w2 ⟨rfl, hb⟩
      have HKx2 := Lib.hid (HKx1.out.on' hb)
      have HTx2 := Lib.hid (HTx1.out.below hb)
      have HKy2 := Lib.hid (HKy1.out.on' hb)
      have HTy2 := Lib.hid (HTy1.out.below hb)
      have xf0 := HKx2.out.b0
      have xf1 := HKx2.out.b1
      have yf0 := HKy2.out.b0
      have yf1 := HKy2.out.b1
      have HB2 := Lib.hid (HB1.out.trans (hb.mono HB1.out.size))
      clear hb
      go_wp2
      go_ret
      exact ⟨rfl, HB2.out⟩
    · have g1 : decide ((70 : Int) < (n : Int)) = true := by simp; omega
      go_enter Try.func3, Try.ntmps3
      go_wp2_with fail
      refine (wawake_any (wbox (wbox w k a n c) k' a' n' c')).mono ?_
      rintro e w2 ⟨rfl, hb⟩
      have HKx2 := Lib.hid (HKx1.out.on' hb)
      have HTx2 := Lib.hid (HTx1.out.below hb)
      have HKy2 := Lib.hid (HKy1.out.on' hb)
      have HTy2 := Lib.hid (HTy1.out.below hb)
      have xf0 := HKx2.out.b0
      have xf1 := HKx2.out.b1
      have yf0 := HKy2.out.b0
      have yf1 := HKy2.out.b1
      have HB2 := Lib.hid (HB1.out.trans (hb.mono HB1.out.size))
      clear hb
      go_wp2
      go_ret
      exact ⟨rfl, HB2.out⟩
end Go.Proofs.Ytmegkfonodcoiaa
