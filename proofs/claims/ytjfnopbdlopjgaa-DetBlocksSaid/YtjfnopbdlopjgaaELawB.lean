/-
  DetBlocks, at every mapping, address, block and port.
-/
import Derived.Test.YtjfnopbdlopjgaaEAwake
namespace Go.Proofs.Ytjfnopbdlopjgaa
open Go.RowKit

set_option maxHeartbeats 2000000 in
theorem DetBlocks_in (x : E.D) (at' blk port : Int) (w : World) (hb0 : x.b ≤ 9223372036854775807) (hc0 : x.c ≤ 9223372036854775807)  :
    Calls Try.prog 5 #[.agg #[.int .i64 x.b, .int .i64 x.k, .int .i64 x.c, .int .i64 x.j, .int .i64 x.lo, .int .i64 x.hi, .int .i64 x.dy, .int .i64 x.bl], .int .i64 at', .int .i64 blk, .int .i64 port] w fun e w' => e = .returned (.bool true) ∧ Below w.heap.size w w' := by
  have HB0 := Lib.hid (ebox_below w x)
  have HKd0 := Lib.hid (ebox_blok w x)
  obtain ⟨v, hv⟩ : ∃ z, E.blkB x at' blk = z := ⟨_, rfl⟩
  have Hv := Lib.hid hv
  clear hv
  obtain ⟨a, ha⟩ : ∃ z, E.blkA x at' blk = z := ⟨_, rfl⟩
  have Ha := Lib.hid ha
  clear ha
  obtain ⟨f, hf⟩ : ∃ z, E.blkF x at' blk = z := ⟨_, rfl⟩
  have Hf := Lib.hid hf
  clear hf
  obtain ⟨t, ht⟩ : ∃ z, E.blkT x at' blk = z := ⟨_, rfl⟩
  have Ht := Lib.hid ht
  clear ht
  obtain ⟨m, hm⟩ : ∃ z, E.nb x = z := ⟨_, rfl⟩
  have Hm := Lib.hid hm
  clear hm
  obtain ⟨wi, hwi⟩ : ∃ z, E.which x at' port = z := ⟨_, rfl⟩
  have Hwi := Lib.hid hwi
  clear hwi
  have HX := Lib.hid (And.intro hb0 hc0)
  clear hb0 hc0
  have HWC := Lib.hid (E.which_cases x at' port)
  go_enter Try.func5, Try.ntmps5
  go_wp2_with fail
  refine (eawake_any (ebox w x)).mono ?_
  rintro e w1 ⟨rfl, hb⟩
  have HKd1 := Lib.hid (HKd0.out.below hb HKd0.out.lt)
  have df0 := e0 HKd1.out
  have df1 := e1 HKd1.out
  have df2 := e2 HKd1.out
  have df3 := e3 HKd1.out
  have df4 := e4 HKd1.out
  have df5 := e5 HKd1.out
  have df6 := e6 HKd1.out
  have df7 := e7 HKd1.out
  have HB1 := Lib.hid (HB0.out.trans (hb.mono HB0.out.size))
  clear hb
  go_wp2_with fail
  refine (block_any x at' blk a f t v w1 Hv.out Ha.out Hf.out Ht.out HX.out.1 HX.out.2).mono ?_
  clear df0 df1 df2 df3 df4 df5 df6 df7
  rintro e w2 ⟨rfl, hb⟩
  have HKd2 := Lib.hid (HKd1.out.below hb HKd1.out.lt)
  have df0 := e0 HKd2.out
  have df1 := e1 HKd2.out
  have df2 := e2 HKd2.out
  have df3 := e3 HKd2.out
  have df4 := e4 HKd2.out
  have df5 := e5 HKd2.out
  have df6 := e6 HKd2.out
  have df7 := e7 HKd2.out
  have HB2 := Lib.hid (HB1.out.trans (hb.mono HB1.out.size))
  clear hb
  have hb := sbox_below w2 a f t
  have HKd3 := Lib.hid (HKd2.out.below hb HKd2.out.lt)
  have dxa0 := fun o => e0 (HKd2.out.alloc o)
  have dxa1 := fun o => e1 (HKd2.out.alloc o)
  have dxa2 := fun o => e2 (HKd2.out.alloc o)
  have dxa3 := fun o => e3 (HKd2.out.alloc o)
  have dxa4 := fun o => e4 (HKd2.out.alloc o)
  have dxa5 := fun o => e5 (HKd2.out.alloc o)
  have dxa6 := fun o => e6 (HKd2.out.alloc o)
  have dxa7 := fun o => e7 (HKd2.out.alloc o)
  have HKx3 := Lib.hid (sbox_blok w2 a f t)
  have HB3 := Lib.hid (HB2.out.trans (hb.mono HB2.out.size))
  clear hb
  cases v
  · skip
    go_wp2_with fail
    refine (which_any x at' port wi (sbox w2 a f t) Hwi.out HX.out.1 HX.out.2).mono ?_
    clear df0 df1 df2 df3 df4 df5 df6 df7 dxa0 dxa1 dxa2 dxa3 dxa4 dxa5 dxa6 dxa7
    rintro e w4 ⟨rfl, hb⟩
    have HKd4 := Lib.hid (HKd3.out.below hb HKd3.out.lt)
    have HKx4 := Lib.hid (HKx3.out.below hb HKx3.out.lt)
    have df0 := e0 HKd4.out
    have df1 := e1 HKd4.out
    have df2 := e2 HKd4.out
    have df3 := e3 HKd4.out
    have df4 := e4 HKd4.out
    have df5 := e5 HKd4.out
    have df6 := e6 HKd4.out
    have df7 := e7 HKd4.out
    have xf0 := s0 HKx4.out
    have xf1 := s1 HKx4.out
    have xf2 := s2 HKx4.out
    have HB4 := Lib.hid (HB3.out.trans (hb.mono HB3.out.size))
    clear hb
    rcases HWC.out with ⟨s, ho, hs⟩ | ⟨hno, hs⟩
    · obtain ⟨hB, h2, h3⟩ := E.inb_iff.1 ho
      have hs0 := (E.blk_in hB).2.2.1
      have h1 := (E.blk_in hB).2.2.2.1
      obtain ⟨f2, hf2⟩ : ∃ z, E.blkF x at' s = z := ⟨_, rfl⟩
      obtain ⟨t2, ht2⟩ : ∃ z, E.blkT x at' s = z := ⟨_, rfl⟩
      rw [hf2] at h2
      rw [ht2] at h3
      rw [Hm.out] at hs0
      have HQ := Lib.hid (And.intro hB (And.intro h1 (And.intro hf2 ht2)))
      obtain rfl : wi = s := Hwi.out.symm.trans hs
      have c1 : decide (wi < 0) = false := decide_eq_false (by omega)
      have c2 : decide (f2 ≤ port) = true := decide_eq_true h2
      have c3 : decide (port ≤ t2) = true := decide_eq_true h3
      have c4 : decide (wi < m) = true := decide_eq_true hs0.2
      clear hB h1 h2 h3 hs0 hf2 ht2 ho hs
      go_wp2_with fail
      refine (block_any x at' wi at' f2 t2 true w4 HQ.out.1 HQ.out.2.1 HQ.out.2.2.1 HQ.out.2.2.2 HX.out.1 HX.out.2).mono ?_
      clear df0 df1 df2 df3 df4 df5 df6 df7 xf0 xf1 xf2
      rintro e w5 ⟨rfl, hb⟩
      have HKd5 := Lib.hid (HKd4.out.below hb HKd4.out.lt)
      have HKx5 := Lib.hid (HKx4.out.below hb HKx4.out.lt)
      have df0 := e0 HKd5.out
      have df1 := e1 HKd5.out
      have df2 := e2 HKd5.out
      have df3 := e3 HKd5.out
      have df4 := e4 HKd5.out
      have df5 := e5 HKd5.out
      have df6 := e6 HKd5.out
      have df7 := e7 HKd5.out
      have xf0 := s0 HKx5.out
      have xf1 := s1 HKx5.out
      have xf2 := s2 HKx5.out
      have HB5 := Lib.hid (HB4.out.trans (hb.mono HB4.out.size))
      clear hb
      have hb := sbox_below w5 at' f2 t2
      have HKd6 := Lib.hid (HKd5.out.below hb HKd5.out.lt)
      have dya0 := fun o => e0 (HKd5.out.alloc o)
      have dya1 := fun o => e1 (HKd5.out.alloc o)
      have dya2 := fun o => e2 (HKd5.out.alloc o)
      have dya3 := fun o => e3 (HKd5.out.alloc o)
      have dya4 := fun o => e4 (HKd5.out.alloc o)
      have dya5 := fun o => e5 (HKd5.out.alloc o)
      have dya6 := fun o => e6 (HKd5.out.alloc o)
      have dya7 := fun o => e7 (HKd5.out.alloc o)
      have HKx6 := Lib.hid (HKx5.out.below hb HKx5.out.lt)
      have xya0 := fun o => s0 (HKx5.out.alloc o)
      have xya1 := fun o => s1 (HKx5.out.alloc o)
      have xya2 := fun o => s2 (HKx5.out.alloc o)
      have HKy6 := Lib.hid (sbox_blok w5 at' f2 t2)
      have HB6 := Lib.hid (HB5.out.trans (hb.mono HB5.out.size))
      clear hb
      go_wp2_with fail
      refine (blocks_any x m (sbox w5 at' f2 t2) Hm.out HX.out.1 HX.out.2).mono ?_
      clear df0 df1 df2 df3 df4 df5 df6 df7 xf0 xf1 xf2 dya0 dya1 dya2 dya3 dya4 dya5 dya6 dya7 xya0 xya1 xya2
      rintro e w7 ⟨rfl, hb⟩
      have HKd7 := Lib.hid (HKd6.out.below hb HKd6.out.lt)
      have HKx7 := Lib.hid (HKx6.out.below hb HKx6.out.lt)
      have HKy7 := Lib.hid (HKy6.out.below hb HKy6.out.lt)
      have df0 := e0 HKd7.out
      have df1 := e1 HKd7.out
      have df2 := e2 HKd7.out
      have df3 := e3 HKd7.out
      have df4 := e4 HKd7.out
      have df5 := e5 HKd7.out
      have df6 := e6 HKd7.out
      have df7 := e7 HKd7.out
      have xf0 := s0 HKx7.out
      have xf1 := s1 HKx7.out
      have xf2 := s2 HKx7.out
      have yf0 := s0 HKy7.out
      have yf1 := s1 HKy7.out
      have yf2 := s2 HKy7.out
      have HB7 := Lib.hid (HB6.out.trans (hb.mono HB6.out.size))
      clear hb
      go_wp2
      go_ret
      exact ⟨rfl, HB7.out⟩
    · obtain rfl : wi = -1 := Hwi.out.symm.trans hs
      have hB : E.blkB x at' (-1) = false := by
        rw [Bool.eq_false_iff]
        intro h
        have := (E.blkB_iff.1 h).2.2
        omega
      have HQ := Lib.hid (And.intro hB (And.intro (show E.blkA x at' (-1) = 0 by unfold E.blkA; rw [hB]; rfl) (And.intro (show E.blkF x at' (-1) = 0 by unfold E.blkF; rw [hB]; rfl) (show E.blkT x at' (-1) = 0 by unfold E.blkT; rw [hB]; rfl))))
      have HNO := Lib.hid (hno blk)
      clear hB hs hno
      go_wp2_with fail
      refine (block_any x at' (-1) 0 0 0 false w4 HQ.out.1 HQ.out.2.1 HQ.out.2.2.1 HQ.out.2.2.2 HX.out.1 HX.out.2).mono ?_
      clear df0 df1 df2 df3 df4 df5 df6 df7 xf0 xf1 xf2
      rintro e w5 ⟨rfl, hb⟩
      have HKd5 := Lib.hid (HKd4.out.below hb HKd4.out.lt)
      have HKx5 := Lib.hid (HKx4.out.below hb HKx4.out.lt)
      have df0 := e0 HKd5.out
      have df1 := e1 HKd5.out
      have df2 := e2 HKd5.out
      have df3 := e3 HKd5.out
      have df4 := e4 HKd5.out
      have df5 := e5 HKd5.out
      have df6 := e6 HKd5.out
      have df7 := e7 HKd5.out
      have xf0 := s0 HKx5.out
      have xf1 := s1 HKx5.out
      have xf2 := s2 HKx5.out
      have HB5 := Lib.hid (HB4.out.trans (hb.mono HB4.out.size))
      clear hb
      have hb := sbox_below w5 0 0 0
      have HKd6 := Lib.hid (HKd5.out.below hb HKd5.out.lt)
      have dya0 := fun o => e0 (HKd5.out.alloc o)
      have dya1 := fun o => e1 (HKd5.out.alloc o)
      have dya2 := fun o => e2 (HKd5.out.alloc o)
      have dya3 := fun o => e3 (HKd5.out.alloc o)
      have dya4 := fun o => e4 (HKd5.out.alloc o)
      have dya5 := fun o => e5 (HKd5.out.alloc o)
      have dya6 := fun o => e6 (HKd5.out.alloc o)
      have dya7 := fun o => e7 (HKd5.out.alloc o)
      have HKx6 := Lib.hid (HKx5.out.below hb HKx5.out.lt)
      have xya0 := fun o => s0 (HKx5.out.alloc o)
      have xya1 := fun o => s1 (HKx5.out.alloc o)
      have xya2 := fun o => s2 (HKx5.out.alloc o)
      have HKy6 := Lib.hid (sbox_blok w5 0 0 0)
      have HB6 := Lib.hid (HB5.out.trans (hb.mono HB5.out.size))
      clear hb
      go_wp2
      go_ret
      exact ⟨rfl, HB6.out⟩
  · obtain ⟨hF, -, -, e1, e2, e3, hb4, hb5, hb6, -⟩ := E.blk_in Hv.out
    have hl := hF.lo
    have hdy := hF.dy
    have hbl := hF.bl
    have o1 : E.inb x at' blk f = true := E.inb_iff.2 ⟨Hv.out, by rw [Hf.out]; exact Int.le_refl _, by rw [← Hf.out]; exact hb5⟩
    have o2 : E.inb x at' blk t = true := E.inb_iff.2 ⟨Hv.out, by rw [← Ht.out]; exact hb5, by rw [Ht.out]; exact Int.le_refl _⟩
    have HO1 := Lib.hid (E.inb_which o1).2
    have HO2 := Lib.hid (E.inb_which o2).2
    rw [Hf.out] at e3 hb4 hb5
    rw [Ht.out] at e3 hb5 hb6
    obtain ⟨hd, hhd⟩ : ∃ z, x.hi - x.dy = z := ⟨_, rfl⟩
    obtain ⟨y, hy⟩ : ∃ z, x.bl - 1 = z := ⟨_, rfl⟩
    have d2 : decide (f ≤ hd) = false := decide_eq_false (by omega)
    have d3 : IntKind.i64.wrap (x.hi - x.dy) = hd := by rw [hhd]; exact IntWalk.i64_in _ (by omega)
    have d4 : decide (x.hi < t) = false := decide_eq_false (by omega)
    have d5 : IntKind.i64.wrap (t - f) = y := by rw [show t - f = y by omega]; exact IntWalk.i64_in _ (by omega)
    have d6 : IntKind.i64.wrap (x.bl - 1) = y := by rw [hy]; exact IntWalk.i64_in _ (by omega)
    clear hF e1 e2 e3 hb4 hb5 hb6 hl hdy hbl hhd hy o1 o2
    go_wp2_with fail
    refine (which_any x at' f blk (sbox w2 a f t) HO1.out HX.out.1 HX.out.2).mono ?_
    clear df0 df1 df2 df3 df4 df5 df6 df7 dxa0 dxa1 dxa2 dxa3 dxa4 dxa5 dxa6 dxa7
    rintro e w4 ⟨rfl, hb⟩
    have HKd4 := Lib.hid (HKd3.out.below hb HKd3.out.lt)
    have HKx4 := Lib.hid (HKx3.out.below hb HKx3.out.lt)
    have df0 := e0 HKd4.out
    have df1 := e1 HKd4.out
    have df2 := e2 HKd4.out
    have df3 := e3 HKd4.out
    have df4 := e4 HKd4.out
    have df5 := e5 HKd4.out
    have df6 := e6 HKd4.out
    have df7 := e7 HKd4.out
    have xf0 := s0 HKx4.out
    have xf1 := s1 HKx4.out
    have xf2 := s2 HKx4.out
    have HB4 := Lib.hid (HB3.out.trans (hb.mono HB3.out.size))
    clear hb
    go_wp2_with fail
    refine (which_any x at' t blk w4 HO2.out HX.out.1 HX.out.2).mono ?_
    clear df0 df1 df2 df3 df4 df5 df6 df7 xf0 xf1 xf2
    rintro e w5 ⟨rfl, hb⟩
    have HKd5 := Lib.hid (HKd4.out.below hb HKd4.out.lt)
    have HKx5 := Lib.hid (HKx4.out.below hb HKx4.out.lt)
    have df0 := e0 HKd5.out
    have df1 := e1 HKd5.out
    have df2 := e2 HKd5.out
    have df3 := e3 HKd5.out
    have df4 := e4 HKd5.out
    have df5 := e5 HKd5.out
    have df6 := e6 HKd5.out
    have df7 := e7 HKd5.out
    have xf0 := s0 HKx5.out
    have xf1 := s1 HKx5.out
    have xf2 := s2 HKx5.out
    have HB5 := Lib.hid (HB4.out.trans (hb.mono HB4.out.size))
    clear hb
    go_wp2_with fail
    refine (which_any x at' port wi w5 Hwi.out HX.out.1 HX.out.2).mono ?_
    clear df0 df1 df2 df3 df4 df5 df6 df7 xf0 xf1 xf2
    rintro e w6 ⟨rfl, hb⟩
    have HKd6 := Lib.hid (HKd5.out.below hb HKd5.out.lt)
    have HKx6 := Lib.hid (HKx5.out.below hb HKx5.out.lt)
    have df0 := e0 HKd6.out
    have df1 := e1 HKd6.out
    have df2 := e2 HKd6.out
    have df3 := e3 HKd6.out
    have df4 := e4 HKd6.out
    have df5 := e5 HKd6.out
    have df6 := e6 HKd6.out
    have df7 := e7 HKd6.out
    have xf0 := s0 HKx6.out
    have xf1 := s1 HKx6.out
    have xf2 := s2 HKx6.out
    have HB6 := Lib.hid (HB5.out.trans (hb.mono HB5.out.size))
    clear hb
    rcases HWC.out with ⟨s, ho, hs⟩ | ⟨hno, hs⟩
    · obtain ⟨hB, h2, h3⟩ := E.inb_iff.1 ho
      have hs0 := (E.blk_in hB).2.2.1
      have h1 := (E.blk_in hB).2.2.2.1
      obtain ⟨f2, hf2⟩ : ∃ z, E.blkF x at' s = z := ⟨_, rfl⟩
      obtain ⟨t2, ht2⟩ : ∃ z, E.blkT x at' s = z := ⟨_, rfl⟩
      rw [hf2] at h2
      rw [ht2] at h3
      rw [Hm.out] at hs0
      have HQ := Lib.hid (And.intro hB (And.intro h1 (And.intro hf2 ht2)))
      obtain rfl : wi = s := Hwi.out.symm.trans hs
      have c1 : decide (wi < 0) = false := decide_eq_false (by omega)
      have c2 : decide (f2 ≤ port) = true := decide_eq_true h2
      have c3 : decide (port ≤ t2) = true := decide_eq_true h3
      have c4 : decide (wi < m) = true := decide_eq_true hs0.2
      clear hB h1 h2 h3 hs0 hf2 ht2 ho hs
      go_wp2_with fail
      refine (block_any x at' wi at' f2 t2 true w6 HQ.out.1 HQ.out.2.1 HQ.out.2.2.1 HQ.out.2.2.2 HX.out.1 HX.out.2).mono ?_
      clear df0 df1 df2 df3 df4 df5 df6 df7 xf0 xf1 xf2
      rintro e w7 ⟨rfl, hb⟩
      have HKd7 := Lib.hid (HKd6.out.below hb HKd6.out.lt)
      have HKx7 := Lib.hid (HKx6.out.below hb HKx6.out.lt)
      have df0 := e0 HKd7.out
      have df1 := e1 HKd7.out
      have df2 := e2 HKd7.out
      have df3 := e3 HKd7.out
      have df4 := e4 HKd7.out
      have df5 := e5 HKd7.out
      have df6 := e6 HKd7.out
      have df7 := e7 HKd7.out
      have xf0 := s0 HKx7.out
      have xf1 := s1 HKx7.out
      have xf2 := s2 HKx7.out
      have HB7 := Lib.hid (HB6.out.trans (hb.mono HB6.out.size))
      clear hb
      have hb := sbox_below w7 at' f2 t2
      have HKd8 := Lib.hid (HKd7.out.below hb HKd7.out.lt)
      have dya0 := fun o => e0 (HKd7.out.alloc o)
      have dya1 := fun o => e1 (HKd7.out.alloc o)
      have dya2 := fun o => e2 (HKd7.out.alloc o)
      have dya3 := fun o => e3 (HKd7.out.alloc o)
      have dya4 := fun o => e4 (HKd7.out.alloc o)
      have dya5 := fun o => e5 (HKd7.out.alloc o)
      have dya6 := fun o => e6 (HKd7.out.alloc o)
      have dya7 := fun o => e7 (HKd7.out.alloc o)
      have HKx8 := Lib.hid (HKx7.out.below hb HKx7.out.lt)
      have xya0 := fun o => s0 (HKx7.out.alloc o)
      have xya1 := fun o => s1 (HKx7.out.alloc o)
      have xya2 := fun o => s2 (HKx7.out.alloc o)
      have HKy8 := Lib.hid (sbox_blok w7 at' f2 t2)
      have HB8 := Lib.hid (HB7.out.trans (hb.mono HB7.out.size))
      clear hb
      go_wp2_with fail
      refine (blocks_any x m (sbox w7 at' f2 t2) Hm.out HX.out.1 HX.out.2).mono ?_
      clear df0 df1 df2 df3 df4 df5 df6 df7 xf0 xf1 xf2 dya0 dya1 dya2 dya3 dya4 dya5 dya6 dya7 xya0 xya1 xya2
      rintro e w9 ⟨rfl, hb⟩
      have HKd9 := Lib.hid (HKd8.out.below hb HKd8.out.lt)
      have HKx9 := Lib.hid (HKx8.out.below hb HKx8.out.lt)
      have HKy9 := Lib.hid (HKy8.out.below hb HKy8.out.lt)
      have df0 := e0 HKd9.out
      have df1 := e1 HKd9.out
      have df2 := e2 HKd9.out
      have df3 := e3 HKd9.out
      have df4 := e4 HKd9.out
      have df5 := e5 HKd9.out
      have df6 := e6 HKd9.out
      have df7 := e7 HKd9.out
      have xf0 := s0 HKx9.out
      have xf1 := s1 HKx9.out
      have xf2 := s2 HKx9.out
      have yf0 := s0 HKy9.out
      have yf1 := s1 HKy9.out
      have yf2 := s2 HKy9.out
      have HB9 := Lib.hid (HB8.out.trans (hb.mono HB8.out.size))
      clear hb
      go_wp2
      go_ret
      exact ⟨rfl, HB9.out⟩
    · obtain rfl : wi = -1 := Hwi.out.symm.trans hs
      have hB : E.blkB x at' (-1) = false := by
        rw [Bool.eq_false_iff]
        intro h
        have := (E.blkB_iff.1 h).2.2
        omega
      have HQ := Lib.hid (And.intro hB (And.intro (show E.blkA x at' (-1) = 0 by unfold E.blkA; rw [hB]; rfl) (And.intro (show E.blkF x at' (-1) = 0 by unfold E.blkF; rw [hB]; rfl) (show E.blkT x at' (-1) = 0 by unfold E.blkT; rw [hB]; rfl))))
      have HNO := Lib.hid (hno blk)
      clear hB hs hno
      go_wp2_with fail
      refine (block_any x at' (-1) 0 0 0 false w6 HQ.out.1 HQ.out.2.1 HQ.out.2.2.1 HQ.out.2.2.2 HX.out.1 HX.out.2).mono ?_
      clear df0 df1 df2 df3 df4 df5 df6 df7 xf0 xf1 xf2
      rintro e w7 ⟨rfl, hb⟩
      have HKd7 := Lib.hid (HKd6.out.below hb HKd6.out.lt)
      have HKx7 := Lib.hid (HKx6.out.below hb HKx6.out.lt)
      have df0 := e0 HKd7.out
      have df1 := e1 HKd7.out
      have df2 := e2 HKd7.out
      have df3 := e3 HKd7.out
      have df4 := e4 HKd7.out
      have df5 := e5 HKd7.out
      have df6 := e6 HKd7.out
      have df7 := e7 HKd7.out
      have xf0 := s0 HKx7.out
      have xf1 := s1 HKx7.out
      have xf2 := s2 HKx7.out
      have HB7 := Lib.hid (HB6.out.trans (hb.mono HB6.out.size))
      clear hb
      have hb := sbox_below w7 0 0 0
      have HKd8 := Lib.hid (HKd7.out.below hb HKd7.out.lt)
      have dya0 := fun o => e0 (HKd7.out.alloc o)
      have dya1 := fun o => e1 (HKd7.out.alloc o)
      have dya2 := fun o => e2 (HKd7.out.alloc o)
      have dya3 := fun o => e3 (HKd7.out.alloc o)
      have dya4 := fun o => e4 (HKd7.out.alloc o)
      have dya5 := fun o => e5 (HKd7.out.alloc o)
      have dya6 := fun o => e6 (HKd7.out.alloc o)
      have dya7 := fun o => e7 (HKd7.out.alloc o)
      have HKx8 := Lib.hid (HKx7.out.below hb HKx7.out.lt)
      have xya0 := fun o => s0 (HKx7.out.alloc o)
      have xya1 := fun o => s1 (HKx7.out.alloc o)
      have xya2 := fun o => s2 (HKx7.out.alloc o)
      have HKy8 := Lib.hid (sbox_blok w7 0 0 0)
      have HB8 := Lib.hid (HB7.out.trans (hb.mono HB7.out.size))
      clear hb
      have hn : ¬ (f ≤ port ∧ port ≤ t) := fun h => by
        have := HNO.out
        rw [E.inb_iff.2 ⟨Hv.out, by rw [Hf.out, Ht.out]; exact h⟩] at this
        cases this
      by_cases g1 : f ≤ port
      · have d1 : decide (f ≤ port) = true := decide_eq_true g1
        have d2 : decide (port ≤ t) = false := decide_eq_false (fun g2 => hn ⟨g1, g2⟩)
        clear g1 hn
        go_wp2
        go_ret
        exact ⟨rfl, HB8.out⟩
      · have d1 : decide (f ≤ port) = false := decide_eq_false g1
        clear g1 hn
        go_wp2
        go_ret
        exact ⟨rfl, HB8.out⟩
end Go.Proofs.Ytjfnopbdlopjgaa
