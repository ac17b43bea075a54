/-
  DetApart, at every mapping, two subscribers, address and block.
-/
import Derived.Test.YtjfnopbdlopjgaaEAwake
namespace Go.Proofs.Ytjfnopbdlopjgaa
open Go.RowKit

set_option maxHeartbeats 2000000 in
theorem DetApart_in (x : E.D) (a b at' blk : Int) (w : World) (hb0 : x.b ≤ 9223372036854775807) (hc0 : x.c ≤ 9223372036854775807)  :
    Calls Try.prog 6 #[.agg #[.int .i64 x.b, .int .i64 x.k, .int .i64 x.c, .int .i64 x.j, .int .i64 x.lo, .int .i64 x.hi, .int .i64 x.dy, .int .i64 x.bl], .int .i64 a, .int .i64 b, .int .i64 at', .int .i64 blk] w fun e w' => e = .returned (.bool true) ∧ Below w.heap.size w w' := by
  have HB0 := Lib.hid (ebox_below w x)
  have HKd0 := Lib.hid (ebox_blok w x)
  obtain ⟨v1, hv1⟩ : ∃ z, E.baseB x a = z := ⟨_, rfl⟩
  have Hv1 := Lib.hid hv1
  clear hv1
  obtain ⟨a1, ha1⟩ : ∃ z, E.baseA x a = z := ⟨_, rfl⟩
  have Ha1 := Lib.hid ha1
  clear ha1
  obtain ⟨f1, hf1⟩ : ∃ z, E.baseF x a = z := ⟨_, rfl⟩
  have Hf1 := Lib.hid hf1
  clear hf1
  obtain ⟨t1, ht1⟩ : ∃ z, E.baseT x a = z := ⟨_, rfl⟩
  have Ht1 := Lib.hid ht1
  clear ht1
  obtain ⟨v2, hv2⟩ : ∃ z, E.baseB x b = z := ⟨_, rfl⟩
  have Hv2 := Lib.hid hv2
  clear hv2
  obtain ⟨a2, ha2⟩ : ∃ z, E.baseA x b = z := ⟨_, rfl⟩
  have Ha2 := Lib.hid ha2
  clear ha2
  obtain ⟨f2, hf2⟩ : ∃ z, E.baseF x b = z := ⟨_, rfl⟩
  have Hf2 := Lib.hid hf2
  clear hf2
  obtain ⟨t2, ht2⟩ : ∃ z, E.baseT x b = z := ⟨_, rfl⟩
  have Ht2 := Lib.hid ht2
  clear ht2
  obtain ⟨v3, hv3⟩ : ∃ z, E.blkB x at' blk = z := ⟨_, rfl⟩
  have Hv3 := Lib.hid hv3
  clear hv3
  obtain ⟨a3, ha3⟩ : ∃ z, E.blkA x at' blk = z := ⟨_, rfl⟩
  have Ha3 := Lib.hid ha3
  clear ha3
  obtain ⟨f3, hf3⟩ : ∃ z, E.blkF x at' blk = z := ⟨_, rfl⟩
  have Hf3 := Lib.hid hf3
  clear hf3
  obtain ⟨t3, ht3⟩ : ∃ z, E.blkT x at' blk = z := ⟨_, rfl⟩
  have Ht3 := Lib.hid ht3
  clear ht3
  have HX := Lib.hid (And.intro hb0 hc0)
  clear hb0 hc0
  go_enter Try.func6, Try.ntmps6
  go_wp2_with fail
  refine (eawake_any (ebox w x)).mono ?_
  rintro e w1 ⟨rfl, hb⟩
  have HKd1 := Lib.hid (HKd0.out.below hb HKd0.out.lt)
  have df0 := e0 HKd1.out
  have df1 := e1 HKd1.out
  have df2 := e2 HKd1.out
  have df3 := e3 HKd1.out
  have df4 := e4 HKd1.out
  have df5 := e5 HKd1.out
  have df6 := e6 HKd1.out
  have df7 := e7 HKd1.out
  have HB1 := Lib.hid (HB0.out.trans (hb.mono HB0.out.size))
  clear hb
  go_wp2_with fail
  refine (base_any x a a1 f1 t1 v1 w1 Hv1.out Ha1.out Hf1.out Ht1.out HX.out.1 HX.out.2).mono ?_
  clear df0 df1 df2 df3 df4 df5 df6 df7
  rintro e w2 ⟨rfl, hb⟩
  have HKd2 := Lib.hid (HKd1.out.below hb HKd1.out.lt)
  have df0 := e0 HKd2.out
  have df1 := e1 HKd2.out
  have df2 := e2 HKd2.out
  have df3 := e3 HKd2.out
  have df4 := e4 HKd2.out
  have df5 := e5 HKd2.out
  have df6 := e6 HKd2.out
  have df7 := e7 HKd2.out
  have HB2 := Lib.hid (HB1.out.trans (hb.mono HB1.out.size))
  clear hb
  have hb := sbox_below w2 a1 f1 t1
  have HKd3 := Lib.hid (HKd2.out.below hb HKd2.out.lt)
  have dxa0 := fun o => e0 (HKd2.out.alloc o)
  have dxa1 := fun o => e1 (HKd2.out.alloc o)
  have dxa2 := fun o => e2 (HKd2.out.alloc o)
  have dxa3 := fun o => e3 (HKd2.out.alloc o)
  have dxa4 := fun o => e4 (HKd2.out.alloc o)
  have dxa5 := fun o => e5 (HKd2.out.alloc o)
  have dxa6 := fun o => e6 (HKd2.out.alloc o)
  have dxa7 := fun o => e7 (HKd2.out.alloc o)
  have HKx3 := Lib.hid (sbox_blok w2 a1 f1 t1)
  have HB3 := Lib.hid (HB2.out.trans (hb.mono HB2.out.size))
  clear hb
  go_wp2_with fail
  refine (base_any x b a2 f2 t2 v2 (sbox w2 a1 f1 t1) Hv2.out Ha2.out Hf2.out Ht2.out HX.out.1 HX.out.2).mono ?_
  clear df0 df1 df2 df3 df4 df5 df6 df7 dxa0 dxa1 dxa2 dxa3 dxa4 dxa5 dxa6 dxa7
  rintro e w4 ⟨rfl, hb⟩
  have HKd4 := Lib.hid (HKd3.out.below hb HKd3.out.lt)
  have HKx4 := Lib.hid (HKx3.out.below hb HKx3.out.lt)
  have df0 := e0 HKd4.out
  have df1 := e1 HKd4.out
  have df2 := e2 HKd4.out
  have df3 := e3 HKd4.out
  have df4 := e4 HKd4.out
  have df5 := e5 HKd4.out
  have df6 := e6 HKd4.out
  have df7 := e7 HKd4.out
  have xf0 := s0 HKx4.out
  have xf1 := s1 HKx4.out
  have xf2 := s2 HKx4.out
  have HB4 := Lib.hid (HB3.out.trans (hb.mono HB3.out.size))
  clear hb
  have hb := sbox_below w4 a2 f2 t2
  have HKd5 := Lib.hid (HKd4.out.below hb HKd4.out.lt)
  have dya0 := fun o => e0 (HKd4.out.alloc o)
  have dya1 := fun o => e1 (HKd4.out.alloc o)
  have dya2 := fun o => e2 (HKd4.out.alloc o)
  have dya3 := fun o => e3 (HKd4.out.alloc o)
  have dya4 := fun o => e4 (HKd4.out.alloc o)
  have dya5 := fun o => e5 (HKd4.out.alloc o)
  have dya6 := fun o => e6 (HKd4.out.alloc o)
  have dya7 := fun o => e7 (HKd4.out.alloc o)
  have HKx5 := Lib.hid (HKx4.out.below hb HKx4.out.lt)
  have xya0 := fun o => s0 (HKx4.out.alloc o)
  have xya1 := fun o => s1 (HKx4.out.alloc o)
  have xya2 := fun o => s2 (HKx4.out.alloc o)
  have HKy5 := Lib.hid (sbox_blok w4 a2 f2 t2)
  have HB5 := Lib.hid (HB4.out.trans (hb.mono HB4.out.size))
  clear hb
  go_wp2_with fail
  refine (block_any x at' blk a3 f3 t3 v3 (sbox w4 a2 f2 t2) Hv3.out Ha3.out Hf3.out Ht3.out HX.out.1 HX.out.2).mono ?_
  clear df0 df1 df2 df3 df4 df5 df6 df7 xf0 xf1 xf2 dya0 dya1 dya2 dya3 dya4 dya5 dya6 dya7 xya0 xya1 xya2
  rintro e w6 ⟨rfl, hb⟩
  have HKd6 := Lib.hid (HKd5.out.below hb HKd5.out.lt)
  have HKx6 := Lib.hid (HKx5.out.below hb HKx5.out.lt)
  have HKy6 := Lib.hid (HKy5.out.below hb HKy5.out.lt)
  have df0 := e0 HKd6.out
  have df1 := e1 HKd6.out
  have df2 := e2 HKd6.out
  have df3 := e3 HKd6.out
  have df4 := e4 HKd6.out
  have df5 := e5 HKd6.out
  have df6 := e6 HKd6.out
  have df7 := e7 HKd6.out
  have xf0 := s0 HKx6.out
  have xf1 := s1 HKx6.out
  have xf2 := s2 HKx6.out
  have yf0 := s0 HKy6.out
  have yf1 := s1 HKy6.out
  have yf2 := s2 HKy6.out
  have HB6 := Lib.hid (HB5.out.trans (hb.mono HB5.out.size))
  clear hb
  have hb := sbox_below w6 a3 f3 t3
  have HKd7 := Lib.hid (HKd6.out.below hb HKd6.out.lt)
  have dza0 := fun o => e0 (HKd6.out.alloc o)
  have dza1 := fun o => e1 (HKd6.out.alloc o)
  have dza2 := fun o => e2 (HKd6.out.alloc o)
  have dza3 := fun o => e3 (HKd6.out.alloc o)
  have dza4 := fun o => e4 (HKd6.out.alloc o)
  have dza5 := fun o => e5 (HKd6.out.alloc o)
  have dza6 := fun o => e6 (HKd6.out.alloc o)
  have dza7 := fun o => e7 (HKd6.out.alloc o)
  have HKx7 := Lib.hid (HKx6.out.below hb HKx6.out.lt)
  have xza0 := fun o => s0 (HKx6.out.alloc o)
  have xza1 := fun o => s1 (HKx6.out.alloc o)
  have xza2 := fun o => s2 (HKx6.out.alloc o)
  have HKy7 := Lib.hid (HKy6.out.below hb HKy6.out.lt)
  have yza0 := fun o => s0 (HKy6.out.alloc o)
  have yza1 := fun o => s1 (HKy6.out.alloc o)
  have yza2 := fun o => s2 (HKy6.out.alloc o)
  have HKz7 := Lib.hid (sbox_blok w6 a3 f3 t3)
  have HB7 := Lib.hid (HB6.out.trans (hb.mono HB6.out.size))
  clear hb
  cases v1
  · skip
    go_wp2
    go_ret
    exact ⟨rfl, HB7.out⟩
  · obtain ⟨hF, hs0, e1, e2, e3, hbA, hb4, hb5, hb6, -, -, -, -, -⟩ := E.base_in Hv1.out
    rw [Hf1.out] at hb4 hb5
    rw [Ht1.out] at hb5 hb6
    have hl := hF.lo
    have hdy := hF.dy
    have hw : ∀ p, p ≤ x.hi - x.dy → E.which x a1 p = -1 := fun p hp => E.which_no fun i => by
      rw [Bool.eq_false_iff]
      intro h
      obtain ⟨hB, h2, h3⟩ := E.inb_iff.1 h
      have := (E.blk_in hB).2.2.2.2.2.2.1
      omega
    have HO1 := Lib.hid (hw f1 (by omega))
    have HO2 := Lib.hid (hw t1 (by omega))
    clear hw e1 e2 e3 hbA hs0
    cases v2
    · skip
      cases v3
      · clear hF hb4 hb5 hb6 hl hdy
        go_wp2_with fail
        refine (which_any x a1 f1 (-1) (sbox w6 a3 f3 t3) HO1.out HX.out.1 HX.out.2).mono ?_
        clear df0 df1 df2 df3 df4 df5 df6 df7 xf0 xf1 xf2 yf0 yf1 yf2 dza0 dza1 dza2 dza3 dza4 dza5 dza6 dza7 xza0 xza1 xza2 yza0 yza1 yza2
        rintro e w8 ⟨rfl, hb⟩
        have HKd8 := Lib.hid (HKd7.out.below hb HKd7.out.lt)
        have HKx8 := Lib.hid (HKx7.out.below hb HKx7.out.lt)
        have HKy8 := Lib.hid (HKy7.out.below hb HKy7.out.lt)
        have HKz8 := Lib.hid (HKz7.out.below hb HKz7.out.lt)
        have df0 := e0 HKd8.out
        have df1 := e1 HKd8.out
        have df2 := e2 HKd8.out
        have df3 := e3 HKd8.out
        have df4 := e4 HKd8.out
        have df5 := e5 HKd8.out
        have df6 := e6 HKd8.out
        have df7 := e7 HKd8.out
        have xf0 := s0 HKx8.out
        have xf1 := s1 HKx8.out
        have xf2 := s2 HKx8.out
        have yf0 := s0 HKy8.out
        have yf1 := s1 HKy8.out
        have yf2 := s2 HKy8.out
        have zf0 := s0 HKz8.out
        have zf1 := s1 HKz8.out
        have zf2 := s2 HKz8.out
        have HB8 := Lib.hid (HB7.out.trans (hb.mono HB7.out.size))
        clear hb
        go_wp2_with fail
        refine (which_any x a1 t1 (-1) w8 HO2.out HX.out.1 HX.out.2).mono ?_
        clear df0 df1 df2 df3 df4 df5 df6 df7 xf0 xf1 xf2 yf0 yf1 yf2 zf0 zf1 zf2
        rintro e w9 ⟨rfl, hb⟩
        have HKd9 := Lib.hid (HKd8.out.below hb HKd8.out.lt)
        have HKx9 := Lib.hid (HKx8.out.below hb HKx8.out.lt)
        have HKy9 := Lib.hid (HKy8.out.below hb HKy8.out.lt)
        have HKz9 := Lib.hid (HKz8.out.below hb HKz8.out.lt)
        have df0 := e0 HKd9.out
        have df1 := e1 HKd9.out
        have df2 := e2 HKd9.out
        have df3 := e3 HKd9.out
        have df4 := e4 HKd9.out
        have df5 := e5 HKd9.out
        have df6 := e6 HKd9.out
        have df7 := e7 HKd9.out
        have xf0 := s0 HKx9.out
        have xf1 := s1 HKx9.out
        have xf2 := s2 HKx9.out
        have yf0 := s0 HKy9.out
        have yf1 := s1 HKy9.out
        have yf2 := s2 HKy9.out
        have zf0 := s0 HKz9.out
        have zf1 := s1 HKz9.out
        have zf2 := s2 HKz9.out
        have HB9 := Lib.hid (HB8.out.trans (hb.mono HB8.out.size))
        clear hb
        go_wp2
        go_ret
        exact ⟨rfl, HB9.out⟩
      · obtain ⟨-, -, -, -, -, -, i4, i5, i6, -⟩ := E.blk_in Hv3.out
        rw [Hf3.out] at i4 i5
        rw [Ht3.out] at i5 i6
        have y1 : decide (f1 ≤ t3) = true := decide_eq_true (by omega)
        have y2 : decide (f3 ≤ t1) = false := decide_eq_false (by omega)
        clear hF hb4 hb5 hb6 hl hdy i4 i5 i6
        by_cases gz : a1 = a3
        · have y0 : (a1 == a3) = true := by simpa using gz
          clear gz
          go_wp2_with fail
          refine (which_any x a1 f1 (-1) (sbox w6 a3 f3 t3) HO1.out HX.out.1 HX.out.2).mono ?_
          clear df0 df1 df2 df3 df4 df5 df6 df7 xf0 xf1 xf2 yf0 yf1 yf2 dza0 dza1 dza2 dza3 dza4 dza5 dza6 dza7 xza0 xza1 xza2 yza0 yza1 yza2
          rintro e w8 ⟨rfl, hb⟩
          have HKd8 := Lib.hid (HKd7.out.below hb HKd7.out.lt)
          have HKx8 := Lib.hid (HKx7.out.below hb HKx7.out.lt)
          have HKy8 := Lib.hid (HKy7.out.below hb HKy7.out.lt)
          have HKz8 := Lib.hid (HKz7.out.below hb HKz7.out.lt)
          have df0 := e0 HKd8.out
          have df1 := e1 HKd8.out
          have df2 := e2 HKd8.out
          have df3 := e3 HKd8.out
          have df4 := e4 HKd8.out
          have df5 := e5 HKd8.out
          have df6 := e6 HKd8.out
          have df7 := e7 HKd8.out
          have xf0 := s0 HKx8.out
          have xf1 := s1 HKx8.out
          have xf2 := s2 HKx8.out
          have yf0 := s0 HKy8.out
          have yf1 := s1 HKy8.out
          have yf2 := s2 HKy8.out
          have zf0 := s0 HKz8.out
          have zf1 := s1 HKz8.out
          have zf2 := s2 HKz8.out
          have HB8 := Lib.hid (HB7.out.trans (hb.mono HB7.out.size))
          clear hb
          go_wp2_with fail
          refine (which_any x a1 t1 (-1) w8 HO2.out HX.out.1 HX.out.2).mono ?_
          clear df0 df1 df2 df3 df4 df5 df6 df7 xf0 xf1 xf2 yf0 yf1 yf2 zf0 zf1 zf2
          rintro e w9 ⟨rfl, hb⟩
          have HKd9 := Lib.hid (HKd8.out.below hb HKd8.out.lt)
          have HKx9 := Lib.hid (HKx8.out.below hb HKx8.out.lt)
          have HKy9 := Lib.hid (HKy8.out.below hb HKy8.out.lt)
          have HKz9 := Lib.hid (HKz8.out.below hb HKz8.out.lt)
          have df0 := e0 HKd9.out
          have df1 := e1 HKd9.out
          have df2 := e2 HKd9.out
          have df3 := e3 HKd9.out
          have df4 := e4 HKd9.out
          have df5 := e5 HKd9.out
          have df6 := e6 HKd9.out
          have df7 := e7 HKd9.out
          have xf0 := s0 HKx9.out
          have xf1 := s1 HKx9.out
          have xf2 := s2 HKx9.out
          have yf0 := s0 HKy9.out
          have yf1 := s1 HKy9.out
          have yf2 := s2 HKy9.out
          have zf0 := s0 HKz9.out
          have zf1 := s1 HKz9.out
          have zf2 := s2 HKz9.out
          have HB9 := Lib.hid (HB8.out.trans (hb.mono HB8.out.size))
          clear hb
          go_wp2
          go_ret
          exact ⟨rfl, HB9.out⟩
        · have y0 : (a1 == a3) = false := by simpa using gz
          clear gz
          go_wp2_with fail
          refine (which_any x a1 f1 (-1) (sbox w6 a3 f3 t3) HO1.out HX.out.1 HX.out.2).mono ?_
          clear df0 df1 df2 df3 df4 df5 df6 df7 xf0 xf1 xf2 yf0 yf1 yf2 dza0 dza1 dza2 dza3 dza4 dza5 dza6 dza7 xza0 xza1 xza2 yza0 yza1 yza2
          rintro e w8 ⟨rfl, hb⟩
          have HKd8 := Lib.hid (HKd7.out.below hb HKd7.out.lt)
          have HKx8 := Lib.hid (HKx7.out.below hb HKx7.out.lt)
          have HKy8 := Lib.hid (HKy7.out.below hb HKy7.out.lt)
          have HKz8 := Lib.hid (HKz7.out.below hb HKz7.out.lt)
          have df0 := e0 HKd8.out
          have df1 := e1 HKd8.out
          have df2 := e2 HKd8.out
          have df3 := e3 HKd8.out
          have df4 := e4 HKd8.out
          have df5 := e5 HKd8.out
          have df6 := e6 HKd8.out
          have df7 := e7 HKd8.out
          have xf0 := s0 HKx8.out
          have xf1 := s1 HKx8.out
          have xf2 := s2 HKx8.out
          have yf0 := s0 HKy8.out
          have yf1 := s1 HKy8.out
          have yf2 := s2 HKy8.out
          have zf0 := s0 HKz8.out
          have zf1 := s1 HKz8.out
          have zf2 := s2 HKz8.out
          have HB8 := Lib.hid (HB7.out.trans (hb.mono HB7.out.size))
          clear hb
          go_wp2_with fail
          refine (which_any x a1 t1 (-1) w8 HO2.out HX.out.1 HX.out.2).mono ?_
          clear df0 df1 df2 df3 df4 df5 df6 df7 xf0 xf1 xf2 yf0 yf1 yf2 zf0 zf1 zf2
          rintro e w9 ⟨rfl, hb⟩
          have HKd9 := Lib.hid (HKd8.out.below hb HKd8.out.lt)
          have HKx9 := Lib.hid (HKx8.out.below hb HKx8.out.lt)
          have HKy9 := Lib.hid (HKy8.out.below hb HKy8.out.lt)
          have HKz9 := Lib.hid (HKz8.out.below hb HKz8.out.lt)
          have df0 := e0 HKd9.out
          have df1 := e1 HKd9.out
          have df2 := e2 HKd9.out
          have df3 := e3 HKd9.out
          have df4 := e4 HKd9.out
          have df5 := e5 HKd9.out
          have df6 := e6 HKd9.out
          have df7 := e7 HKd9.out
          have xf0 := s0 HKx9.out
          have xf1 := s1 HKx9.out
          have xf2 := s2 HKx9.out
          have yf0 := s0 HKy9.out
          have yf1 := s1 HKy9.out
          have yf2 := s2 HKy9.out
          have zf0 := s0 HKz9.out
          have zf1 := s1 HKz9.out
          have zf2 := s2 HKz9.out
          have HB9 := Lib.hid (HB8.out.trans (hb.mono HB8.out.size))
          clear hb
          go_wp2
          go_ret
          exact ⟨rfl, HB9.out⟩
    · by_cases g0 : a = b
      · have d0 : (a == b) = true := by simpa using g0
        have d0' : (a != b) = false := by simp [g0]
        clear g0
        cases v3
        · clear hF hb4 hb5 hb6 hl hdy
          go_wp2_with fail
          refine (which_any x a1 f1 (-1) (sbox w6 a3 f3 t3) HO1.out HX.out.1 HX.out.2).mono ?_
          clear df0 df1 df2 df3 df4 df5 df6 df7 xf0 xf1 xf2 yf0 yf1 yf2 dza0 dza1 dza2 dza3 dza4 dza5 dza6 dza7 xza0 xza1 xza2 yza0 yza1 yza2
          rintro e w8 ⟨rfl, hb⟩
          have HKd8 := Lib.hid (HKd7.out.below hb HKd7.out.lt)
          have HKx8 := Lib.hid (HKx7.out.below hb HKx7.out.lt)
          have HKy8 := Lib.hid (HKy7.out.below hb HKy7.out.lt)
          have HKz8 := Lib.hid (HKz7.out.below hb HKz7.out.lt)
          have df0 := e0 HKd8.out
          have df1 := e1 HKd8.out
          have df2 := e2 HKd8.out
          have df3 := e3 HKd8.out
          have df4 := e4 HKd8.out
          have df5 := e5 HKd8.out
          have df6 := e6 HKd8.out
          have df7 := e7 HKd8.out
          have xf0 := s0 HKx8.out
          have xf1 := s1 HKx8.out
          have xf2 := s2 HKx8.out
          have yf0 := s0 HKy8.out
          have yf1 := s1 HKy8.out
          have yf2 := s2 HKy8.out
          have zf0 := s0 HKz8.out
          have zf1 := s1 HKz8.out
          have zf2 := s2 HKz8.out
          have HB8 := Lib.hid (HB7.out.trans (hb.mono HB7.out.size))
          clear hb
          go_wp2_with fail
          refine (which_any x a1 t1 (-1) w8 HO2.out HX.out.1 HX.out.2).mono ?_
          clear df0 df1 df2 df3 df4 df5 df6 df7 xf0 xf1 xf2 yf0 yf1 yf2 zf0 zf1 zf2
          rintro e w9 ⟨rfl, hb⟩
          have HKd9 := Lib.hid (HKd8.out.below hb HKd8.out.lt)
          have HKx9 := Lib.hid (HKx8.out.below hb HKx8.out.lt)
          have HKy9 := Lib.hid (HKy8.out.below hb HKy8.out.lt)
          have HKz9 := Lib.hid (HKz8.out.below hb HKz8.out.lt)
          have df0 := e0 HKd9.out
          have df1 := e1 HKd9.out
          have df2 := e2 HKd9.out
          have df3 := e3 HKd9.out
          have df4 := e4 HKd9.out
          have df5 := e5 HKd9.out
          have df6 := e6 HKd9.out
          have df7 := e7 HKd9.out
          have xf0 := s0 HKx9.out
          have xf1 := s1 HKx9.out
          have xf2 := s2 HKx9.out
          have yf0 := s0 HKy9.out
          have yf1 := s1 HKy9.out
          have yf2 := s2 HKy9.out
          have zf0 := s0 HKz9.out
          have zf1 := s1 HKz9.out
          have zf2 := s2 HKz9.out
          have HB9 := Lib.hid (HB8.out.trans (hb.mono HB8.out.size))
          clear hb
          go_wp2
          go_ret
          exact ⟨rfl, HB9.out⟩
        · obtain ⟨-, -, -, -, -, -, i4, i5, i6, -⟩ := E.blk_in Hv3.out
          rw [Hf3.out] at i4 i5
          rw [Ht3.out] at i5 i6
          have y1 : decide (f1 ≤ t3) = true := decide_eq_true (by omega)
          have y2 : decide (f3 ≤ t1) = false := decide_eq_false (by omega)
          clear hF hb4 hb5 hb6 hl hdy i4 i5 i6
          by_cases gz : a1 = a3
          · have y0 : (a1 == a3) = true := by simpa using gz
            clear gz
            go_wp2_with fail
            refine (which_any x a1 f1 (-1) (sbox w6 a3 f3 t3) HO1.out HX.out.1 HX.out.2).mono ?_
            clear df0 df1 df2 df3 df4 df5 df6 df7 xf0 xf1 xf2 yf0 yf1 yf2 dza0 dza1 dza2 dza3 dza4 dza5 dza6 dza7 xza0 xza1 xza2 yza0 yza1 yza2
            rintro e w8 ⟨rfl, hb⟩
            have HKd8 := Lib.hid (HKd7.out.below hb HKd7.out.lt)
            have HKx8 := Lib.hid (HKx7.out.below hb HKx7.out.lt)
            have HKy8 := Lib.hid (HKy7.out.below hb HKy7.out.lt)
            have HKz8 := Lib.hid (HKz7.out.below hb HKz7.out.lt)
            have df0 := e0 HKd8.out
            have df1 := e1 HKd8.out
            have df2 := e2 HKd8.out
            have df3 := e3 HKd8.out
            have df4 := e4 HKd8.out
            have df5 := e5 HKd8.out
            have df6 := e6 HKd8.out
            have df7 := e7 HKd8.out
            have xf0 := s0 HKx8.out
            have xf1 := s1 HKx8.out
            have xf2 := s2 HKx8.out
            have yf0 := s0 HKy8.out
            have yf1 := s1 HKy8.out
            have yf2 := s2 HKy8.out
            have zf0 := s0 HKz8.out
            have zf1 := s1 HKz8.out
            have zf2 := s2 HKz8.out
            have HB8 := Lib.hid (HB7.out.trans (hb.mono HB7.out.size))
            clear hb
            go_wp2_with fail
            refine (which_any x a1 t1 (-1) w8 HO2.out HX.out.1 HX.out.2).mono ?_
            clear df0 df1 df2 df3 df4 df5 df6 df7 xf0 xf1 xf2 yf0 yf1 yf2 zf0 zf1 zf2
            rintro e w9 ⟨rfl, hb⟩
            have HKd9 := Lib.hid (HKd8.out.below hb HKd8.out.lt)
            have HKx9 := Lib.hid (HKx8.out.below hb HKx8.out.lt)
            have HKy9 := Lib.hid (HKy8.out.below hb HKy8.out.lt)
            have HKz9 := Lib.hid (HKz8.out.below hb HKz8.out.lt)
            have df0 := e0 HKd9.out
            have df1 := e1 HKd9.out
            have df2 := e2 HKd9.out
            have df3 := e3 HKd9.out
            have df4 := e4 HKd9.out
            have df5 := e5 HKd9.out
            have df6 := e6 HKd9.out
            have df7 := e7 HKd9.out
            have xf0 := s0 HKx9.out
            have xf1 := s1 HKx9.out
            have xf2 := s2 HKx9.out
            have yf0 := s0 HKy9.out
            have yf1 := s1 HKy9.out
            have yf2 := s2 HKy9.out
            have zf0 := s0 HKz9.out
            have zf1 := s1 HKz9.out
            have zf2 := s2 HKz9.out
            have HB9 := Lib.hid (HB8.out.trans (hb.mono HB8.out.size))
            clear hb
            go_wp2
            go_ret
            exact ⟨rfl, HB9.out⟩
          · have y0 : (a1 == a3) = false := by simpa using gz
            clear gz
            go_wp2_with fail
            refine (which_any x a1 f1 (-1) (sbox w6 a3 f3 t3) HO1.out HX.out.1 HX.out.2).mono ?_
            clear df0 df1 df2 df3 df4 df5 df6 df7 xf0 xf1 xf2 yf0 yf1 yf2 dza0 dza1 dza2 dza3 dza4 dza5 dza6 dza7 xza0 xza1 xza2 yza0 yza1 yza2
            rintro e w8 ⟨rfl, hb⟩
            have HKd8 := Lib.hid (HKd7.out.below hb HKd7.out.lt)
            have HKx8 := Lib.hid (HKx7.out.below hb HKx7.out.lt)
            have HKy8 := Lib.hid (HKy7.out.below hb HKy7.out.lt)
            have HKz8 := Lib.hid (HKz7.out.below hb HKz7.out.lt)
            have df0 := e0 HKd8.out
            have df1 := e1 HKd8.out
            have df2 := e2 HKd8.out
            have df3 := e3 HKd8.out
            have df4 := e4 HKd8.out
            have df5 := e5 HKd8.out
            have df6 := e6 HKd8.out
            have df7 := e7 HKd8.out
            have xf0 := s0 HKx8.out
            have xf1 := s1 HKx8.out
            have xf2 := s2 HKx8.out
            have yf0 := s0 HKy8.out
            have yf1 := s1 HKy8.out
            have yf2 := s2 HKy8.out
            have zf0 := s0 HKz8.out
            have zf1 := s1 HKz8.out
            have zf2 := s2 HKz8.out
            have HB8 := Lib.hid (HB7.out.trans (hb.mono HB7.out.size))
            clear hb
            go_wp2_with fail
            refine (which_any x a1 t1 (-1) w8 HO2.out HX.out.1 HX.out.2).mono ?_
            clear df0 df1 df2 df3 df4 df5 df6 df7 xf0 xf1 xf2 yf0 yf1 yf2 zf0 zf1 zf2
            rintro e w9 ⟨rfl, hb⟩
            have HKd9 := Lib.hid (HKd8.out.below hb HKd8.out.lt)
            have HKx9 := Lib.hid (HKx8.out.below hb HKx8.out.lt)
            have HKy9 := Lib.hid (HKy8.out.below hb HKy8.out.lt)
            have HKz9 := Lib.hid (HKz8.out.below hb HKz8.out.lt)
            have df0 := e0 HKd9.out
            have df1 := e1 HKd9.out
            have df2 := e2 HKd9.out
            have df3 := e3 HKd9.out
            have df4 := e4 HKd9.out
            have df5 := e5 HKd9.out
            have df6 := e6 HKd9.out
            have df7 := e7 HKd9.out
            have xf0 := s0 HKx9.out
            have xf1 := s1 HKx9.out
            have xf2 := s2 HKx9.out
            have yf0 := s0 HKy9.out
            have yf1 := s1 HKy9.out
            have yf2 := s2 HKy9.out
            have zf0 := s0 HKz9.out
            have zf1 := s1 HKz9.out
            have zf2 := s2 HKz9.out
            have HB9 := Lib.hid (HB8.out.trans (hb.mono HB8.out.size))
            clear hb
            go_wp2
            go_ret
            exact ⟨rfl, HB9.out⟩
      · have d0 : (a == b) = false := by simpa using g0
        have d0' : (a != b) = true := by simpa using g0
        by_cases g1 : a1 = a2
        · have d1 : (a1 == a2) = true := by simpa using g1
          obtain ⟨-, -, -, -, -, -, j4, j5, j6, -, -, -, -, -⟩ := E.base_in Hv2.out
          rw [Hf2.out] at j4 j5
          rw [Ht2.out] at j5 j6
          by_cases g2 : f1 ≤ t2
          · have d2 : decide (f1 ≤ t2) = true := decide_eq_true g2
            have d3 : decide (f2 ≤ t1) = false := decide_eq_false (fun g3 => g0 (by
              have k1 : E.own x a a1 (max f1 f2) = true := E.own_iff.2 ⟨Hv1.out, Ha1.out, by rw [Hf1.out]; omega, by rw [Ht1.out]; omega⟩
              have k2 : E.own x b a1 (max f1 f2) = true := E.own_iff.2 ⟨Hv2.out, by rw [Ha2.out]; exact g1.symm, by rw [Hf2.out]; omega, by rw [Ht2.out]; omega⟩
              exact (E.own_who k1).2.symm.trans (E.own_who k2).2))
            clear g0 g1 g2 j4 j5 j6
            cases v3
            · clear hF hb4 hb5 hb6 hl hdy
              go_wp2_with fail
              refine (which_any x a1 f1 (-1) (sbox w6 a3 f3 t3) HO1.out HX.out.1 HX.out.2).mono ?_
              clear df0 df1 df2 df3 df4 df5 df6 df7 xf0 xf1 xf2 yf0 yf1 yf2 dza0 dza1 dza2 dza3 dza4 dza5 dza6 dza7 xza0 xza1 xza2 yza0 yza1 yza2
              rintro e w8 ⟨rfl, hb⟩
              have HKd8 := Lib.hid (HKd7.out.below hb HKd7.out.lt)
              have HKx8 := Lib.hid (HKx7.out.below hb HKx7.out.lt)
              have HKy8 := Lib.hid (HKy7.out.below hb HKy7.out.lt)
              have HKz8 := Lib.hid (HKz7.out.below hb HKz7.out.lt)
              have df0 := e0 HKd8.out
              have df1 := e1 HKd8.out
              have df2 := e2 HKd8.out
              have df3 := e3 HKd8.out
              have df4 := e4 HKd8.out
              have df5 := e5 HKd8.out
              have df6 := e6 HKd8.out
              have df7 := e7 HKd8.out
              have xf0 := s0 HKx8.out
              have xf1 := s1 HKx8.out
              have xf2 := s2 HKx8.out
              have yf0 := s0 HKy8.out
              have yf1 := s1 HKy8.out
              have yf2 := s2 HKy8.out
              have zf0 := s0 HKz8.out
              have zf1 := s1 HKz8.out
              have zf2 := s2 HKz8.out
              have HB8 := Lib.hid (HB7.out.trans (hb.mono HB7.out.size))
              clear hb
              go_wp2_with fail
              refine (which_any x a1 t1 (-1) w8 HO2.out HX.out.1 HX.out.2).mono ?_
              clear df0 df1 df2 df3 df4 df5 df6 df7 xf0 xf1 xf2 yf0 yf1 yf2 zf0 zf1 zf2
              rintro e w9 ⟨rfl, hb⟩
              have HKd9 := Lib.hid (HKd8.out.below hb HKd8.out.lt)
              have HKx9 := Lib.hid (HKx8.out.below hb HKx8.out.lt)
              have HKy9 := Lib.hid (HKy8.out.below hb HKy8.out.lt)
              have HKz9 := Lib.hid (HKz8.out.below hb HKz8.out.lt)
              have df0 := e0 HKd9.out
              have df1 := e1 HKd9.out
              have df2 := e2 HKd9.out
              have df3 := e3 HKd9.out
              have df4 := e4 HKd9.out
              have df5 := e5 HKd9.out
              have df6 := e6 HKd9.out
              have df7 := e7 HKd9.out
              have xf0 := s0 HKx9.out
              have xf1 := s1 HKx9.out
              have xf2 := s2 HKx9.out
              have yf0 := s0 HKy9.out
              have yf1 := s1 HKy9.out
              have yf2 := s2 HKy9.out
              have zf0 := s0 HKz9.out
              have zf1 := s1 HKz9.out
              have zf2 := s2 HKz9.out
              have HB9 := Lib.hid (HB8.out.trans (hb.mono HB8.out.size))
              clear hb
              go_wp2
              go_ret
              exact ⟨rfl, HB9.out⟩
            · obtain ⟨-, -, -, -, -, -, i4, i5, i6, -⟩ := E.blk_in Hv3.out
              rw [Hf3.out] at i4 i5
              rw [Ht3.out] at i5 i6
              have y1 : decide (f1 ≤ t3) = true := decide_eq_true (by omega)
              have y2 : decide (f3 ≤ t1) = false := decide_eq_false (by omega)
              clear hF hb4 hb5 hb6 hl hdy i4 i5 i6
              by_cases gz : a1 = a3
              · have y0 : (a1 == a3) = true := by simpa using gz
                clear gz
                go_wp2_with fail
                refine (which_any x a1 f1 (-1) (sbox w6 a3 f3 t3) HO1.out HX.out.1 HX.out.2).mono ?_
                clear df0 df1 df2 df3 df4 df5 df6 df7 xf0 xf1 xf2 yf0 yf1 yf2 dza0 dza1 dza2 dza3 dza4 dza5 dza6 dza7 xza0 xza1 xza2 yza0 yza1 yza2
                rintro e w8 ⟨rfl, hb⟩
                have HKd8 := Lib.hid (HKd7.out.below hb HKd7.out.lt)
                have HKx8 := Lib.hid (HKx7.out.below hb HKx7.out.lt)
                have HKy8 := Lib.hid (HKy7.out.below hb HKy7.out.lt)
                have HKz8 := Lib.hid (HKz7.out.below hb HKz7.out.lt)
                have df0 := e0 HKd8.out
                have df1 := e1 HKd8.out
                have df2 := e2 HKd8.out
                have df3 := e3 HKd8.out
                have df4 := e4 HKd8.out
                have df5 := e5 HKd8.out
                have df6 := e6 HKd8.out
                have df7 := e7 HKd8.out
                have xf0 := s0 HKx8.out
                have xf1 := s1 HKx8.out
                have xf2 := s2 HKx8.out
                have yf0 := s0 HKy8.out
                have yf1 := s1 HKy8.out
                have yf2 := s2 HKy8.out
                have zf0 := s0 HKz8.out
                have zf1 := s1 HKz8.out
                have zf2 := s2 HKz8.out
                have HB8 := Lib.hid (HB7.out.trans (hb.mono HB7.out.size))
                clear hb
                go_wp2_with fail
                refine (which_any x a1 t1 (-1) w8 HO2.out HX.out.1 HX.out.2).mono ?_
                clear df0 df1 df2 df3 df4 df5 df6 df7 xf0 xf1 xf2 yf0 yf1 yf2 zf0 zf1 zf2
                rintro e w9 ⟨rfl, hb⟩
                have HKd9 := Lib.hid (HKd8.out.below hb HKd8.out.lt)
                have HKx9 := Lib.hid (HKx8.out.below hb HKx8.out.lt)
                have HKy9 := Lib.hid (HKy8.out.below hb HKy8.out.lt)
                have HKz9 := Lib.hid (HKz8.out.below hb HKz8.out.lt)
                have df0 := e0 HKd9.out
                have df1 := e1 HKd9.out
                have df2 := e2 HKd9.out
                have df3 := e3 HKd9.out
                have df4 := e4 HKd9.out
                have df5 := e5 HKd9.out
                have df6 := e6 HKd9.out
                have df7 := e7 HKd9.out
                have xf0 := s0 HKx9.out
                have xf1 := s1 HKx9.out
                have xf2 := s2 HKx9.out
                have yf0 := s0 HKy9.out
                have yf1 := s1 HKy9.out
                have yf2 := s2 HKy9.out
                have zf0 := s0 HKz9.out
                have zf1 := s1 HKz9.out
                have zf2 := s2 HKz9.out
                have HB9 := Lib.hid (HB8.out.trans (hb.mono HB8.out.size))
                clear hb
                go_wp2
                go_ret
                exact ⟨rfl, HB9.out⟩
              · have y0 : (a1 == a3) = false := by simpa using gz
                clear gz
                go_wp2_with fail
                refine (which_any x a1 f1 (-1) (sbox w6 a3 f3 t3) HO1.out HX.out.1 HX.out.2).mono ?_
                clear df0 df1 df2 df3 df4 df5 df6 df7 xf0 xf1 xf2 yf0 yf1 yf2 dza0 dza1 dza2 dza3 dza4 dza5 dza6 dza7 xza0 xza1 xza2 yza0 yza1 yza2
                rintro e w8 ⟨rfl, hb⟩
                have HKd8 := Lib.hid (HKd7.out.below hb HKd7.out.lt)
                have HKx8 := Lib.hid (HKx7.out.below hb HKx7.out.lt)
                have HKy8 := Lib.hid (HKy7.out.below hb HKy7.out.lt)
                have HKz8 := Lib.hid (HKz7.out.below hb HKz7.out.lt)
                have df0 := e0 HKd8.out
                have df1 := e1 HKd8.out
                have df2 := e2 HKd8.out
                have df3 := e3 HKd8.out
                have df4 := e4 HKd8.out
                have df5 := e5 HKd8.out
                have df6 := e6 HKd8.out
                have df7 := e7 HKd8.out
                have xf0 := s0 HKx8.out
                have xf1 := s1 HKx8.out
                have xf2 := s2 HKx8.out
                have yf0 := s0 HKy8.out
                have yf1 := s1 HKy8.out
                have yf2 := s2 HKy8.out
                have zf0 := s0 HKz8.out
                have zf1 := s1 HKz8.out
                have zf2 := s2 HKz8.out
                have HB8 := Lib.hid (HB7.out.trans (hb.mono HB7.out.size))
                clear hb
                go_wp2_with fail
                refine (which_any x a1 t1 (-1) w8 HO2.out HX.out.1 HX.out.2).mono ?_
                clear df0 df1 df2 df3 df4 df5 df6 df7 xf0 xf1 xf2 yf0 yf1 yf2 zf0 zf1 zf2
                rintro e w9 ⟨rfl, hb⟩
                have HKd9 := Lib.hid (HKd8.out.below hb HKd8.out.lt)
                have HKx9 := Lib.hid (HKx8.out.below hb HKx8.out.lt)
                have HKy9 := Lib.hid (HKy8.out.below hb HKy8.out.lt)
                have HKz9 := Lib.hid (HKz8.out.below hb HKz8.out.lt)
                have df0 := e0 HKd9.out
                have df1 := e1 HKd9.out
                have df2 := e2 HKd9.out
                have df3 := e3 HKd9.out
                have df4 := e4 HKd9.out
                have df5 := e5 HKd9.out
                have df6 := e6 HKd9.out
                have df7 := e7 HKd9.out
                have xf0 := s0 HKx9.out
                have xf1 := s1 HKx9.out
                have xf2 := s2 HKx9.out
                have yf0 := s0 HKy9.out
                have yf1 := s1 HKy9.out
                have yf2 := s2 HKy9.out
                have zf0 := s0 HKz9.out
                have zf1 := s1 HKz9.out
                have zf2 := s2 HKz9.out
                have HB9 := Lib.hid (HB8.out.trans (hb.mono HB8.out.size))
                clear hb
                go_wp2
                go_ret
                exact ⟨rfl, HB9.out⟩
          · have d2 : decide (f1 ≤ t2) = false := decide_eq_false g2
            clear g0 g1 g2 j4 j5 j6
            cases v3
            · clear hF hb4 hb5 hb6 hl hdy
              go_wp2_with fail
              refine (which_any x a1 f1 (-1) (sbox w6 a3 f3 t3) HO1.out HX.out.1 HX.out.2).mono ?_
              clear df0 df1 df2 df3 df4 df5 df6 df7 xf0 xf1 xf2 yf0 yf1 yf2 dza0 dza1 dza2 dza3 dza4 dza5 dza6 dza7 xza0 xza1 xza2 yza0 yza1 yza2
              rintro e w8 ⟨rfl, hb⟩
              have HKd8 := Lib.hid (HKd7.out.below hb HKd7.out.lt)
              have HKx8 := Lib.hid (HKx7.out.below hb HKx7.out.lt)
              have HKy8 := Lib.hid (HKy7.out.below hb HKy7.out.lt)
              have HKz8 := Lib.hid (HKz7.out.below hb HKz7.out.lt)
              have df0 := e0 HKd8.out
              have df1 := e1 HKd8.out
              have df2 := e2 HKd8.out
              have df3 := e3 HKd8.out
              have df4 := e4 HKd8.out
              have df5 := e5 HKd8.out
              have df6 := e6 HKd8.out
              have df7 := e7 HKd8.out
              have xf0 := s0 HKx8.out
              have xf1 := s1 HKx8.out
              have xf2 := s2 HKx8.out
              have yf0 := s0 HKy8.out
              have yf1 := s1 HKy8.out
              have yf2 := s2 HKy8.out
              have zf0 := s0 HKz8.out
              have zf1 := s1 HKz8.out
              have zf2 := s2 HKz8.out
              have HB8 := Lib.hid (HB7.out.trans (hb.mono HB7.out.size))
              clear hb
              go_wp2_with fail
              refine (which_any x a1 t1 (-1) w8 HO2.out HX.out.1 HX.out.2).mono ?_
              clear df0 df1 df2 df3 df4 df5 df6 df7 xf0 xf1 xf2 yf0 yf1 yf2 zf0 zf1 zf2
              rintro e w9 ⟨rfl, hb⟩
              have HKd9 := Lib.hid (HKd8.out.below hb HKd8.out.lt)
              have HKx9 := Lib.hid (HKx8.out.below hb HKx8.out.lt)
              have HKy9 := Lib.hid (HKy8.out.below hb HKy8.out.lt)
              have HKz9 := Lib.hid (HKz8.out.below hb HKz8.out.lt)
              have df0 := e0 HKd9.out
              have df1 := e1 HKd9.out
              have df2 := e2 HKd9.out
              have df3 := e3 HKd9.out
              have df4 := e4 HKd9.out
              have df5 := e5 HKd9.out
              have df6 := e6 HKd9.out
              have df7 := e7 HKd9.out
              have xf0 := s0 HKx9.out
              have xf1 := s1 HKx9.out
              have xf2 := s2 HKx9.out
              have yf0 := s0 HKy9.out
              have yf1 := s1 HKy9.out
              have yf2 := s2 HKy9.out
              have zf0 := s0 HKz9.out
              have zf1 := s1 HKz9.out
              have zf2 := s2 HKz9.out
              have HB9 := Lib.hid (HB8.out.trans (hb.mono HB8.out.size))
              clear hb
              go_wp2
              go_ret
              exact ⟨rfl, HB9.out⟩
            · obtain ⟨-, -, -, -, -, -, i4, i5, i6, -⟩ := E.blk_in Hv3.out
              rw [Hf3.out] at i4 i5
              rw [Ht3.out] at i5 i6
              have y1 : decide (f1 ≤ t3) = true := decide_eq_true (by omega)
              have y2 : decide (f3 ≤ t1) = false := decide_eq_false (by omega)
              clear hF hb4 hb5 hb6 hl hdy i4 i5 i6
              by_cases gz : a1 = a3
              · have y0 : (a1 == a3) = true := by simpa using gz
                clear gz
                go_wp2_with fail
                refine (which_any x a1 f1 (-1) (sbox w6 a3 f3 t3) HO1.out HX.out.1 HX.out.2).mono ?_
                clear df0 df1 df2 df3 df4 df5 df6 df7 xf0 xf1 xf2 yf0 yf1 yf2 dza0 dza1 dza2 dza3 dza4 dza5 dza6 dza7 xza0 xza1 xza2 yza0 yza1 yza2
                rintro e w8 ⟨rfl, hb⟩
                have HKd8 := Lib.hid (HKd7.out.below hb HKd7.out.lt)
                have HKx8 := Lib.hid (HKx7.out.below hb HKx7.out.lt)
                have HKy8 := Lib.hid (HKy7.out.below hb HKy7.out.lt)
                have HKz8 := Lib.hid (HKz7.out.below hb HKz7.out.lt)
                have df0 := e0 HKd8.out
                have df1 := e1 HKd8.out
                have df2 := e2 HKd8.out
                have df3 := e3 HKd8.out
                have df4 := e4 HKd8.out
                have df5 := e5 HKd8.out
                have df6 := e6 HKd8.out
                have df7 := e7 HKd8.out
                have xf0 := s0 HKx8.out
                have xf1 := s1 HKx8.out
                have xf2 := s2 HKx8.out
                have yf0 := s0 HKy8.out
                have yf1 := s1 HKy8.out
                have yf2 := s2 HKy8.out
                have zf0 := s0 HKz8.out
                have zf1 := s1 HKz8.out
                have zf2 := s2 HKz8.out
                have HB8 := Lib.hid (HB7.out.trans (hb.mono HB7.out.size))
                clear hb
                go_wp2_with fail
                refine (which_any x a1 t1 (-1) w8 HO2.out HX.out.1 HX.out.2).mono ?_
                clear df0 df1 df2 df3 df4 df5 df6 df7 xf0 xf1 xf2 yf0 yf1 yf2 zf0 zf1 zf2
                rintro e w9 ⟨rfl, hb⟩
                have HKd9 := Lib.hid (HKd8.out.below hb HKd8.out.lt)
                have HKx9 := Lib.hid (HKx8.out.below hb HKx8.out.lt)
                have HKy9 := Lib.hid (HKy8.out.below hb HKy8.out.lt)
                have HKz9 := Lib.hid (HKz8.out.below hb HKz8.out.lt)
                have df0 := e0 HKd9.out
                have df1 := e1 HKd9.out
                have df2 := e2 HKd9.out
                have df3 := e3 HKd9.out
                have df4 := e4 HKd9.out
                have df5 := e5 HKd9.out
                have df6 := e6 HKd9.out
                have df7 := e7 HKd9.out
                have xf0 := s0 HKx9.out
                have xf1 := s1 HKx9.out
                have xf2 := s2 HKx9.out
                have yf0 := s0 HKy9.out
                have yf1 := s1 HKy9.out
                have yf2 := s2 HKy9.out
                have zf0 := s0 HKz9.out
                have zf1 := s1 HKz9.out
                have zf2 := s2 HKz9.out
                have HB9 := Lib.hid (HB8.out.trans (hb.mono HB8.out.size))
                clear hb
                go_wp2
                go_ret
                exact ⟨rfl, HB9.out⟩
              · have y0 : (a1 == a3) = false := by simpa using gz
                clear gz
                go_wp2_with fail
                refine (which_any x a1 f1 (-1) (sbox w6 a3 f3 t3) HO1.out HX.out.1 HX.out.2).mono ?_
                clear df0 df1 df2 df3 df4 df5 df6 df7 xf0 xf1 xf2 yf0 yf1 yf2 dza0 dza1 dza2 dza3 dza4 dza5 dza6 dza7 xza0 xza1 xza2 yza0 yza1 yza2
                rintro e w8 ⟨rfl, hb⟩
                have HKd8 := Lib.hid (HKd7.out.below hb HKd7.out.lt)
                have HKx8 := Lib.hid (HKx7.out.below hb HKx7.out.lt)
                have HKy8 := Lib.hid (HKy7.out.below hb HKy7.out.lt)
                have HKz8 := Lib.hid (HKz7.out.below hb HKz7.out.lt)
                have df0 := e0 HKd8.out
                have df1 := e1 HKd8.out
                have df2 := e2 HKd8.out
                have df3 := e3 HKd8.out
                have df4 := e4 HKd8.out
                have df5 := e5 HKd8.out
                have df6 := e6 HKd8.out
                have df7 := e7 HKd8.out
                have xf0 := s0 HKx8.out
                have xf1 := s1 HKx8.out
                have xf2 := s2 HKx8.out
                have yf0 := s0 HKy8.out
                have yf1 := s1 HKy8.out
                have yf2 := s2 HKy8.out
                have zf0 := s0 HKz8.out
                have zf1 := s1 HKz8.out
                have zf2 := s2 HKz8.out
                have HB8 := Lib.hid (HB7.out.trans (hb.mono HB7.out.size))
                clear hb
                go_wp2_with fail
                refine (which_any x a1 t1 (-1) w8 HO2.out HX.out.1 HX.out.2).mono ?_
                clear df0 df1 df2 df3 df4 df5 df6 df7 xf0 xf1 xf2 yf0 yf1 yf2 zf0 zf1 zf2
                rintro e w9 ⟨rfl, hb⟩
                have HKd9 := Lib.hid (HKd8.out.below hb HKd8.out.lt)
                have HKx9 := Lib.hid (HKx8.out.below hb HKx8.out.lt)
                have HKy9 := Lib.hid (HKy8.out.below hb HKy8.out.lt)
                have HKz9 := Lib.hid (HKz8.out.below hb HKz8.out.lt)
                have df0 := e0 HKd9.out
                have df1 := e1 HKd9.out
                have df2 := e2 HKd9.out
                have df3 := e3 HKd9.out
                have df4 := e4 HKd9.out
                have df5 := e5 HKd9.out
                have df6 := e6 HKd9.out
                have df7 := e7 HKd9.out
                have xf0 := s0 HKx9.out
                have xf1 := s1 HKx9.out
                have xf2 := s2 HKx9.out
                have yf0 := s0 HKy9.out
                have yf1 := s1 HKy9.out
                have yf2 := s2 HKy9.out
                have zf0 := s0 HKz9.out
                have zf1 := s1 HKz9.out
                have zf2 := s2 HKz9.out
                have HB9 := Lib.hid (HB8.out.trans (hb.mono HB8.out.size))
                clear hb
                go_wp2
                go_ret
                exact ⟨rfl, HB9.out⟩
        · have d1 : (a1 == a2) = false := by simpa using g1
          clear g0 g1
          cases v3
          · clear hF hb4 hb5 hb6 hl hdy
            go_wp2_with fail
            refine (which_any x a1 f1 (-1) (sbox w6 a3 f3 t3) HO1.out HX.out.1 HX.out.2).mono ?_
            clear df0 df1 df2 df3 df4 df5 df6 df7 xf0 xf1 xf2 yf0 yf1 yf2 dza0 dza1 dza2 dza3 dza4 dza5 dza6 dza7 xza0 xza1 xza2 yza0 yza1 yza2
            rintro e w8 ⟨rfl, hb⟩
            have HKd8 := Lib.hid (HKd7.out.below hb HKd7.out.lt)
            have HKx8 := Lib.hid (HKx7.out.below hb HKx7.out.lt)
            have HKy8 := Lib.hid (HKy7.out.below hb HKy7.out.lt)
            have HKz8 := Lib.hid (HKz7.out.below hb HKz7.out.lt)
            have df0 := e0 HKd8.out
            have df1 := e1 HKd8.out
            have df2 := e2 HKd8.out
            have df3 := e3 HKd8.out
            have df4 := e4 HKd8.out
            have df5 := e5 HKd8.out
            have df6 := e6 HKd8.out
            have df7 := e7 HKd8.out
            have xf0 := s0 HKx8.out
            have xf1 := s1 HKx8.out
            have xf2 := s2 HKx8.out
            have yf0 := s0 HKy8.out
            have yf1 := s1 HKy8.out
            have yf2 := s2 HKy8.out
            have zf0 := s0 HKz8.out
            have zf1 := s1 HKz8.out
            have zf2 := s2 HKz8.out
            have HB8 := Lib.hid (HB7.out.trans (hb.mono HB7.out.size))
            clear hb
            go_wp2_with fail
            refine (which_any x a1 t1 (-1) w8 HO2.out HX.out.1 HX.out.2).mono ?_
            clear df0 df1 df2 df3 df4 df5 df6 df7 xf0 xf1 xf2 yf0 yf1 yf2 zf0 zf1 zf2
            rintro e w9 ⟨rfl, hb⟩
            have HKd9 := Lib.hid (HKd8.out.below hb HKd8.out.lt)
            have HKx9 := Lib.hid (HKx8.out.below hb HKx8.out.lt)
            have HKy9 := Lib.hid (HKy8.out.below hb HKy8.out.lt)
            have HKz9 := Lib.hid (HKz8.out.below hb HKz8.out.lt)
            have df0 := e0 HKd9.out
            have df1 := e1 HKd9.out
            have df2 := e2 HKd9.out
            have df3 := e3 HKd9.out
            have df4 := e4 HKd9.out
            have df5 := e5 HKd9.out
            have df6 := e6 HKd9.out
            have df7 := e7 HKd9.out
            have xf0 := s0 HKx9.out
            have xf1 := s1 HKx9.out
            have xf2 := s2 HKx9.out
            have yf0 := s0 HKy9.out
            have yf1 := s1 HKy9.out
            have yf2 := s2 HKy9.out
            have zf0 := s0 HKz9.out
            have zf1 := s1 HKz9.out
            have zf2 := s2 HKz9.out
            have HB9 := Lib.hid (HB8.out.trans (hb.mono HB8.out.size))
            clear hb
            go_wp2
            go_ret
            exact ⟨rfl, HB9.out⟩
          · obtain ⟨-, -, -, -, -, -, i4, i5, i6, -⟩ := E.blk_in Hv3.out
            rw [Hf3.out] at i4 i5
            rw [Ht3.out] at i5 i6
            have y1 : decide (f1 ≤ t3) = true := decide_eq_true (by omega)
            have y2 : decide (f3 ≤ t1) = false := decide_eq_false (by omega)
            clear hF hb4 hb5 hb6 hl hdy i4 i5 i6
            by_cases gz : a1 = a3
            · have y0 : (a1 == a3) = true := by simpa using gz
              clear gz
              go_wp2_with fail
              refine (which_any x a1 f1 (-1) (sbox w6 a3 f3 t3) HO1.out HX.out.1 HX.out.2).mono ?_
              clear df0 df1 df2 df3 df4 df5 df6 df7 xf0 xf1 xf2 yf0 yf1 yf2 dza0 dza1 dza2 dza3 dza4 dza5 dza6 dza7 xza0 xza1 xza2 yza0 yza1 yza2
              rintro e w8 ⟨rfl, hb⟩
              have HKd8 := Lib.hid (HKd7.out.below hb HKd7.out.lt)
              have HKx8 := Lib.hid (HKx7.out.below hb HKx7.out.lt)
              have HKy8 := Lib.hid (HKy7.out.below hb HKy7.out.lt)
              have HKz8 := Lib.hid (HKz7.out.below hb HKz7.out.lt)
              have df0 := e0 HKd8.out
              have df1 := e1 HKd8.out
              have df2 := e2 HKd8.out
              have df3 := e3 HKd8.out
              have df4 := e4 HKd8.out
              have df5 := e5 HKd8.out
              have df6 := e6 HKd8.out
              have df7 := e7 HKd8.out
              have xf0 := s0 HKx8.out
              have xf1 := s1 HKx8.out
              have xf2 := s2 HKx8.out
              have yf0 := s0 HKy8.out
              have yf1 := s1 HKy8.out
              have yf2 := s2 HKy8.out
              have zf0 := s0 HKz8.out
              have zf1 := s1 HKz8.out
              have zf2 := s2 HKz8.out
              have HB8 := Lib.hid (HB7.out.trans (hb.mono HB7.out.size))
              clear hb
              go_wp2_with fail
              refine (which_any x a1 t1 (-1) w8 HO2.out HX.out.1 HX.out.2).mono ?_
              clear df0 df1 df2 df3 df4 df5 df6 df7 xf0 xf1 xf2 yf0 yf1 yf2 zf0 zf1 zf2
              rintro e w9 ⟨rfl, hb⟩
              have HKd9 := Lib.hid (HKd8.out.below hb HKd8.out.lt)
              have HKx9 := Lib.hid (HKx8.out.below hb HKx8.out.lt)
              have HKy9 := Lib.hid (HKy8.out.below hb HKy8.out.lt)
              have HKz9 := Lib.hid (HKz8.out.below hb HKz8.out.lt)
              have df0 := e0 HKd9.out
              have df1 := e1 HKd9.out
              have df2 := e2 HKd9.out
              have df3 := e3 HKd9.out
              have df4 := e4 HKd9.out
              have df5 := e5 HKd9.out
              have df6 := e6 HKd9.out
              have df7 := e7 HKd9.out
              have xf0 := s0 HKx9.out
              have xf1 := s1 HKx9.out
              have xf2 := s2 HKx9.out
              have yf0 := s0 HKy9.out
              have yf1 := s1 HKy9.out
              have yf2 := s2 HKy9.out
              have zf0 := s0 HKz9.out
              have zf1 := s1 HKz9.out
              have zf2 := s2 HKz9.out
              have HB9 := Lib.hid (HB8.out.trans (hb.mono HB8.out.size))
              clear hb
              go_wp2
              go_ret
              exact ⟨rfl, HB9.out⟩
            · have y0 : (a1 == a3) = false := by simpa using gz
              clear gz
              go_wp2_with fail
              refine (which_any x a1 f1 (-1) (sbox w6 a3 f3 t3) HO1.out HX.out.1 HX.out.2).mono ?_
              clear df0 df1 df2 df3 df4 df5 df6 df7 xf0 xf1 xf2 yf0 yf1 yf2 dza0 dza1 dza2 dza3 dza4 dza5 dza6 dza7 xza0 xza1 xza2 yza0 yza1 yza2
              rintro e w8 ⟨rfl, hb⟩
              have HKd8 := Lib.hid (HKd7.out.below hb HKd7.out.lt)
              have HKx8 := Lib.hid (HKx7.out.below hb HKx7.out.lt)
              have HKy8 := Lib.hid (HKy7.out.below hb HKy7.out.lt)
              have HKz8 := Lib.hid (HKz7.out.below hb HKz7.out.lt)
              have df0 := e0 HKd8.out
              have df1 := e1 HKd8.out
              have df2 := e2 HKd8.out
              have df3 := e3 HKd8.out
              have df4 := e4 HKd8.out
              have df5 := e5 HKd8.out
              have df6 := e6 HKd8.out
              have df7 := e7 HKd8.out
              have xf0 := s0 HKx8.out
              have xf1 := s1 HKx8.out
              have xf2 := s2 HKx8.out
              have yf0 := s0 HKy8.out
              have yf1 := s1 HKy8.out
              have yf2 := s2 HKy8.out
              have zf0 := s0 HKz8.out
              have zf1 := s1 HKz8.out
              have zf2 := s2 HKz8.out
              have HB8 := Lib.hid (HB7.out.trans (hb.mono HB7.out.size))
              clear hb
              go_wp2_with fail
              refine (which_any x a1 t1 (-1) w8 HO2.out HX.out.1 HX.out.2).mono ?_
              clear df0 df1 df2 df3 df4 df5 df6 df7 xf0 xf1 xf2 yf0 yf1 yf2 zf0 zf1 zf2
              rintro e w9 ⟨rfl, hb⟩
              have HKd9 := Lib.hid (HKd8.out.below hb HKd8.out.lt)
              have HKx9 := Lib.hid (HKx8.out.below hb HKx8.out.lt)
              have HKy9 := Lib.hid (HKy8.out.below hb HKy8.out.lt)
              have HKz9 := Lib.hid (HKz8.out.below hb HKz8.out.lt)
              have df0 := e0 HKd9.out
              have df1 := e1 HKd9.out
              have df2 := e2 HKd9.out
              have df3 := e3 HKd9.out
              have df4 := e4 HKd9.out
              have df5 := e5 HKd9.out
              have df6 := e6 HKd9.out
              have df7 := e7 HKd9.out
              have xf0 := s0 HKx9.out
              have xf1 := s1 HKx9.out
              have xf2 := s2 HKx9.out
              have yf0 := s0 HKy9.out
              have yf1 := s1 HKy9.out
              have yf2 := s2 HKy9.out
              have zf0 := s0 HKz9.out
              have zf1 := s1 HKz9.out
              have zf2 := s2 HKz9.out
              have HB9 := Lib.hid (HB8.out.trans (hb.mono HB8.out.size))
              clear hb
              go_wp2
              go_ret
              exact ⟨rfl, HB9.out⟩
end Go.Proofs.Ytjfnopbdlopjgaa
