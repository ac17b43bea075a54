/-
  DetTells, at every mapping, subscriber, address, port and block.
-/
import Derived.Test.YtjfnopbdlopjgaaEAwake
import Derived.Test.YtjfnopbdlopjgaaERefWho
namespace Go.Proofs.Ytjfnopbdlopjgaa
open Go.RowKit

set_option maxHeartbeats 2000000 in
theorem DetTells_in (x : E.D) (sub at' port blk : Int) (w : World) (hb0 : x.b ≤ 9223372036854775807) (hc0 : x.c ≤ 9223372036854775807)  :
    Calls Try.prog 3 #[.agg #[.int .i64 x.b, .int .i64 x.k, .int .i64 x.c, .int .i64 x.j, .int .i64 x.lo, .int .i64 x.hi, .int .i64 x.dy, .int .i64 x.bl], .int .i64 sub, .int .i64 at', .int .i64 port, .int .i64 blk] w fun e w' => e = .returned (.bool true) ∧ Below w.heap.size w w' := by
  have HB0 := Lib.hid (ebox_below w x)
  have HKd0 := Lib.hid (ebox_blok w x)
  obtain ⟨v, hv⟩ : ∃ z, E.baseB x sub = z := ⟨_, rfl⟩
  have Hv := Lib.hid hv
  clear hv
  obtain ⟨a, ha⟩ : ∃ z, E.baseA x sub = z := ⟨_, rfl⟩
  have Ha := Lib.hid ha
  clear ha
  obtain ⟨f, hf⟩ : ∃ z, E.baseF x sub = z := ⟨_, rfl⟩
  have Hf := Lib.hid hf
  clear hf
  obtain ⟨t, ht⟩ : ∃ z, E.baseT x sub = z := ⟨_, rfl⟩
  have Ht := Lib.hid ht
  clear ht
  obtain ⟨v', hv'⟩ : ∃ z, E.blkB x at' blk = z := ⟨_, rfl⟩
  have Hv' := Lib.hid hv'
  clear hv'
  obtain ⟨a', ha'⟩ : ∃ z, E.blkA x at' blk = z := ⟨_, rfl⟩
  have Ha' := Lib.hid ha'
  clear ha'
  obtain ⟨f', hf'⟩ : ∃ z, E.blkF x at' blk = z := ⟨_, rfl⟩
  have Hf' := Lib.hid hf'
  clear hf'
  obtain ⟨t', ht'⟩ : ∃ z, E.blkT x at' blk = z := ⟨_, rfl⟩
  have Ht' := Lib.hid ht'
  clear ht'
  obtain ⟨fit, hfit⟩ : ∃ z, E.fit x = z := ⟨_, rfl⟩
  have Hfit := Lib.hid hfit
  clear hfit
  obtain ⟨r, hr⟩ : ∃ z, E.ratio x = z := ⟨_, rfl⟩
  have Hr := Lib.hid hr
  clear hr
  obtain ⟨n, hn⟩ : ∃ z, E.each x = z := ⟨_, rfl⟩
  have Hn := Lib.hid hn
  clear hn
  obtain ⟨m, hm⟩ : ∃ z, E.nb x = z := ⟨_, rfl⟩
  have Hm := Lib.hid hm
  clear hm
  obtain ⟨wo, hwo⟩ : ∃ z, E.who x at' port = z := ⟨_, rfl⟩
  have Hwo := Lib.hid hwo
  clear hwo
  obtain ⟨wi, hwi⟩ : ∃ z, E.which x at' port = z := ⟨_, rfl⟩
  have Hwi := Lib.hid hwi
  clear hwi
  have HX := Lib.hid (And.intro hb0 hc0)
  clear hb0 hc0
  go_enter Try.func3, Try.ntmps3
  go_wp2_with fail
  refine (eawake_any (ebox w x)).mono ?_
  rintro e w1 ⟨rfl, hb⟩
  have HKd1 := Lib.hid (HKd0.out.below hb HKd0.out.lt)
  have df0 := e0 HKd1.out
  have df1 := e1 HKd1.out
  have df2 := e2 HKd1.out
  have df3 := e3 HKd1.out
  have df4 := e4 HKd1.out
  have df5 := e5 HKd1.out
  have df6 := e6 HKd1.out
  have df7 := e7 HKd1.out
  have HB1 := Lib.hid (HB0.out.trans (hb.mono HB0.out.size))
  clear hb
  go_wp2_with fail
  refine (base_any x sub a f t v w1 Hv.out Ha.out Hf.out Ht.out HX.out.1 HX.out.2).mono ?_
  clear df0 df1 df2 df3 df4 df5 df6 df7
  rintro e w2 ⟨rfl, hb⟩
  have HKd2 := Lib.hid (HKd1.out.below hb HKd1.out.lt)
  have df0 := e0 HKd2.out
  have df1 := e1 HKd2.out
  have df2 := e2 HKd2.out
  have df3 := e3 HKd2.out
  have df4 := e4 HKd2.out
  have df5 := e5 HKd2.out
  have df6 := e6 HKd2.out
  have df7 := e7 HKd2.out
  have HB2 := Lib.hid (HB1.out.trans (hb.mono HB1.out.size))
  clear hb
  have hb := sbox_below w2 a f t
  have HKd3 := Lib.hid (HKd2.out.below hb HKd2.out.lt)
  have dxa0 := fun o => e0 (HKd2.out.alloc o)
  have dxa1 := fun o => e1 (HKd2.out.alloc o)
  have dxa2 := fun o => e2 (HKd2.out.alloc o)
  have dxa3 := fun o => e3 (HKd2.out.alloc o)
  have dxa4 := fun o => e4 (HKd2.out.alloc o)
  have dxa5 := fun o => e5 (HKd2.out.alloc o)
  have dxa6 := fun o => e6 (HKd2.out.alloc o)
  have dxa7 := fun o => e7 (HKd2.out.alloc o)
  have HKx3 := Lib.hid (sbox_blok w2 a f t)
  have HB3 := Lib.hid (HB2.out.trans (hb.mono HB2.out.size))
  clear hb
  go_wp2_with fail
  refine (refBase_any x sub a f t v (sbox w2 a f t) Hv.out Ha.out Hf.out Ht.out HX.out.1 HX.out.2).mono ?_
  clear df0 df1 df2 df3 df4 df5 df6 df7 dxa0 dxa1 dxa2 dxa3 dxa4 dxa5 dxa6 dxa7
  rintro e w4 ⟨rfl, hb⟩
  have HKd4 := Lib.hid (HKd3.out.below hb HKd3.out.lt)
  have HKx4 := Lib.hid (HKx3.out.below hb HKx3.out.lt)
  have df0 := e0 HKd4.out
  have df1 := e1 HKd4.out
  have df2 := e2 HKd4.out
  have df3 := e3 HKd4.out
  have df4 := e4 HKd4.out
  have df5 := e5 HKd4.out
  have df6 := e6 HKd4.out
  have df7 := e7 HKd4.out
  have xf0 := s0 HKx4.out
  have xf1 := s1 HKx4.out
  have xf2 := s2 HKx4.out
  have HB4 := Lib.hid (HB3.out.trans (hb.mono HB3.out.size))
  clear hb
  have hb := sbox_below w4 a f t
  have HKd5 := Lib.hid (HKd4.out.below hb HKd4.out.lt)
  have dya0 := fun o => e0 (HKd4.out.alloc o)
  have dya1 := fun o => e1 (HKd4.out.alloc o)
  have dya2 := fun o => e2 (HKd4.out.alloc o)
  have dya3 := fun o => e3 (HKd4.out.alloc o)
  have dya4 := fun o => e4 (HKd4.out.alloc o)
  have dya5 := fun o => e5 (HKd4.out.alloc o)
  have dya6 := fun o => e6 (HKd4.out.alloc o)
  have dya7 := fun o => e7 (HKd4.out.alloc o)
  have HKx5 := Lib.hid (HKx4.out.below hb HKx4.out.lt)
  have xya0 := fun o => s0 (HKx4.out.alloc o)
  have xya1 := fun o => s1 (HKx4.out.alloc o)
  have xya2 := fun o => s2 (HKx4.out.alloc o)
  have HKy5 := Lib.hid (sbox_blok w4 a f t)
  have HB5 := Lib.hid (HB4.out.trans (hb.mono HB4.out.size))
  clear hb
  go_wp2_with fail
  refine (block_any x at' blk a' f' t' v' (sbox w4 a f t) Hv'.out Ha'.out Hf'.out Ht'.out HX.out.1 HX.out.2).mono ?_
  clear df0 df1 df2 df3 df4 df5 df6 df7 xf0 xf1 xf2 dya0 dya1 dya2 dya3 dya4 dya5 dya6 dya7 xya0 xya1 xya2
  rintro e w6 ⟨rfl, hb⟩
  have HKd6 := Lib.hid (HKd5.out.below hb HKd5.out.lt)
  have HKx6 := Lib.hid (HKx5.out.below hb HKx5.out.lt)
  have HKy6 := Lib.hid (HKy5.out.below hb HKy5.out.lt)
  have df0 := e0 HKd6.out
  have df1 := e1 HKd6.out
  have df2 := e2 HKd6.out
  have df3 := e3 HKd6.out
  have df4 := e4 HKd6.out
  have df5 := e5 HKd6.out
  have df6 := e6 HKd6.out
  have df7 := e7 HKd6.out
  have xf0 := s0 HKx6.out
  have xf1 := s1 HKx6.out
  have xf2 := s2 HKx6.out
  have yf0 := s0 HKy6.out
  have yf1 := s1 HKy6.out
  have yf2 := s2 HKy6.out
  have HB6 := Lib.hid (HB5.out.trans (hb.mono HB5.out.size))
  clear hb
  have hb := sbox_below w6 a' f' t'
  have HKd7 := Lib.hid (HKd6.out.below hb HKd6.out.lt)
  have dua0 := fun o => e0 (HKd6.out.alloc o)
  have dua1 := fun o => e1 (HKd6.out.alloc o)
  have dua2 := fun o => e2 (HKd6.out.alloc o)
  have dua3 := fun o => e3 (HKd6.out.alloc o)
  have dua4 := fun o => e4 (HKd6.out.alloc o)
  have dua5 := fun o => e5 (HKd6.out.alloc o)
  have dua6 := fun o => e6 (HKd6.out.alloc o)
  have dua7 := fun o => e7 (HKd6.out.alloc o)
  have HKx7 := Lib.hid (HKx6.out.below hb HKx6.out.lt)
  have xua0 := fun o => s0 (HKx6.out.alloc o)
  have xua1 := fun o => s1 (HKx6.out.alloc o)
  have xua2 := fun o => s2 (HKx6.out.alloc o)
  have HKy7 := Lib.hid (HKy6.out.below hb HKy6.out.lt)
  have yua0 := fun o => s0 (HKy6.out.alloc o)
  have yua1 := fun o => s1 (HKy6.out.alloc o)
  have yua2 := fun o => s2 (HKy6.out.alloc o)
  have HKu7 := Lib.hid (sbox_blok w6 a' f' t')
  have HB7 := Lib.hid (HB6.out.trans (hb.mono HB6.out.size))
  clear hb
  go_wp2_with fail
  refine (refBlock_any x at' blk a' f' t' v' (sbox w6 a' f' t') Hv'.out Ha'.out Hf'.out Ht'.out HX.out.1 HX.out.2).mono ?_
  clear df0 df1 df2 df3 df4 df5 df6 df7 xf0 xf1 xf2 yf0 yf1 yf2 dua0 dua1 dua2 dua3 dua4 dua5 dua6 dua7 xua0 xua1 xua2 yua0 yua1 yua2
  rintro e w8 ⟨rfl, hb⟩
  have HKd8 := Lib.hid (HKd7.out.below hb HKd7.out.lt)
  have HKx8 := Lib.hid (HKx7.out.below hb HKx7.out.lt)
  have HKy8 := Lib.hid (HKy7.out.below hb HKy7.out.lt)
  have HKu8 := Lib.hid (HKu7.out.below hb HKu7.out.lt)
  have df0 := e0 HKd8.out
  have df1 := e1 HKd8.out
  have df2 := e2 HKd8.out
  have df3 := e3 HKd8.out
  have df4 := e4 HKd8.out
  have df5 := e5 HKd8.out
  have df6 := e6 HKd8.out
  have df7 := e7 HKd8.out
  have xf0 := s0 HKx8.out
  have xf1 := s1 HKx8.out
  have xf2 := s2 HKx8.out
  have yf0 := s0 HKy8.out
  have yf1 := s1 HKy8.out
  have yf2 := s2 HKy8.out
  have uf0 := s0 HKu8.out
  have uf1 := s1 HKu8.out
  have uf2 := s2 HKu8.out
  have HB8 := Lib.hid (HB7.out.trans (hb.mono HB7.out.size))
  clear hb
  have hb := sbox_below w8 a' f' t'
  have HKd9 := Lib.hid (HKd8.out.below hb HKd8.out.lt)
  have dza0 := fun o => e0 (HKd8.out.alloc o)
  have dza1 := fun o => e1 (HKd8.out.alloc o)
  have dza2 := fun o => e2 (HKd8.out.alloc o)
  have dza3 := fun o => e3 (HKd8.out.alloc o)
  have dza4 := fun o => e4 (HKd8.out.alloc o)
  have dza5 := fun o => e5 (HKd8.out.alloc o)
  have dza6 := fun o => e6 (HKd8.out.alloc o)
  have dza7 := fun o => e7 (HKd8.out.alloc o)
  have HKx9 := Lib.hid (HKx8.out.below hb HKx8.out.lt)
  have xza0 := fun o => s0 (HKx8.out.alloc o)
  have xza1 := fun o => s1 (HKx8.out.alloc o)
  have xza2 := fun o => s2 (HKx8.out.alloc o)
  have HKy9 := Lib.hid (HKy8.out.below hb HKy8.out.lt)
  have yza0 := fun o => s0 (HKy8.out.alloc o)
  have yza1 := fun o => s1 (HKy8.out.alloc o)
  have yza2 := fun o => s2 (HKy8.out.alloc o)
  have HKu9 := Lib.hid (HKu8.out.below hb HKu8.out.lt)
  have uza0 := fun o => s0 (HKu8.out.alloc o)
  have uza1 := fun o => s1 (HKu8.out.alloc o)
  have uza2 := fun o => s2 (HKu8.out.alloc o)
  have HKz9 := Lib.hid (sbox_blok w8 a' f' t')
  have HB9 := Lib.hid (HB8.out.trans (hb.mono HB8.out.size))
  clear hb
  go_wp2_with fail
  refine (refFit_any x fit (sbox w8 a' f' t') Hfit.out HX.out.1 HX.out.2).mono ?_
  clear df0 df1 df2 df3 df4 df5 df6 df7 xf0 xf1 xf2 yf0 yf1 yf2 uf0 uf1 uf2 dza0 dza1 dza2 dza3 dza4 dza5 dza6 dza7 xza0 xza1 xza2 yza0 yza1 yza2 uza0 uza1 uza2
  rintro e w10 ⟨rfl, hb⟩
  have HKd10 := Lib.hid (HKd9.out.below hb HKd9.out.lt)
  have HKx10 := Lib.hid (HKx9.out.below hb HKx9.out.lt)
  have HKy10 := Lib.hid (HKy9.out.below hb HKy9.out.lt)
  have HKu10 := Lib.hid (HKu9.out.below hb HKu9.out.lt)
  have HKz10 := Lib.hid (HKz9.out.below hb HKz9.out.lt)
  have df0 := e0 HKd10.out
  have df1 := e1 HKd10.out
  have df2 := e2 HKd10.out
  have df3 := e3 HKd10.out
  have df4 := e4 HKd10.out
  have df5 := e5 HKd10.out
  have df6 := e6 HKd10.out
  have df7 := e7 HKd10.out
  have xf0 := s0 HKx10.out
  have xf1 := s1 HKx10.out
  have xf2 := s2 HKx10.out
  have yf0 := s0 HKy10.out
  have yf1 := s1 HKy10.out
  have yf2 := s2 HKy10.out
  have uf0 := s0 HKu10.out
  have uf1 := s1 HKu10.out
  have uf2 := s2 HKu10.out
  have zf0 := s0 HKz10.out
  have zf1 := s1 HKz10.out
  have zf2 := s2 HKz10.out
  have HB10 := Lib.hid (HB9.out.trans (hb.mono HB9.out.size))
  clear hb
  clear df0 df1 df2 df3 df4 df5 df6 df7 xf0 xf1 xf2 yf0 yf1 yf2 uf0 uf1 uf2 zf0 zf1 zf2
  have dc0 := ce0 HKd10.out
  have df0 := e0 HKd10.out
  have dc1 := ce1 HKd10.out
  have df1 := e1 HKd10.out
  have dc2 := ce2 HKd10.out
  have df2 := e2 HKd10.out
  have dc3 := ce3 HKd10.out
  have df3 := e3 HKd10.out
  have dc4 := ce4 HKd10.out
  have df4 := e4 HKd10.out
  have dc5 := ce5 HKd10.out
  have df5 := e5 HKd10.out
  have dc6 := ce6 HKd10.out
  have df6 := e6 HKd10.out
  have dc7 := ce7 HKd10.out
  have df7 := e7 HKd10.out
  have xc0 := cs0 HKx10.out
  have xf0 := s0 HKx10.out
  have xc1 := cs1 HKx10.out
  have xf1 := s1 HKx10.out
  have xc2 := cs2 HKx10.out
  have xf2 := s2 HKx10.out
  have yc0 := cs0 HKy10.out
  have yf0 := s0 HKy10.out
  have yc1 := cs1 HKy10.out
  have yf1 := s1 HKy10.out
  have yc2 := cs2 HKy10.out
  have yf2 := s2 HKy10.out
  have uc0 := cs0 HKu10.out
  have uf0 := s0 HKu10.out
  have uc1 := cs1 HKu10.out
  have uf1 := s1 HKu10.out
  have uc2 := cs2 HKu10.out
  have uf2 := s2 HKu10.out
  have zc0 := cs0 HKz10.out
  have zf0 := s0 HKz10.out
  have zc1 := cs1 HKz10.out
  have zf1 := s1 HKz10.out
  have zc2 := cs2 HKz10.out
  have zf2 := s2 HKz10.out
  go_wp2_with fail
  refine wp_region_quiet_below (by kernel_rfl) (by kernel_rfl) ?_
  repeat (go_big_quiet_step (first | exact Calls.regrown_of (fit_any x fit _ Hfit.out HX.out.1 HX.out.2) | exact Calls.regrown_of (who_any x at' port wo _ Hwo.out HX.out.1 HX.out.2) | exact Calls.regrown_of (refWho_any x at' port wo _ Hwo.out HX.out.1 HX.out.2)))
  refine wpQuiet_nil ?_
  intro _ hw'
  obtain ⟨⟨dq, osq⟩, hw''⟩ := hw'
  subst hw''
  clear dc0 df0 dc1 df1 dc2 df2 dc3 df3 dc4 df4 dc5 df5 dc6 df6 dc7 df7 xc0 xf0 xc1 xf1 xc2 xf2 yc0 yf0 yc1 yf1 yc2 yf2 uc0 uf0 uc1 uf1 uc2 uf2 zc0 zf0 zc1 zf1 zc2 zf2
  obtain ⟨w11, hw11⟩ : ∃ w11, Go.Sort.grow (redrawn w10 dq) osq = w11 := ⟨_, rfl⟩
  have hb : Below w10.heap.size w10 w11 := by rw [← hw11]; exact below_regrown _ _ _
  rw [hw11]
  clear hw11
  have HKd11 := Lib.hid (HKd10.out.below hb HKd10.out.lt)
  have HKx11 := Lib.hid (HKx10.out.below hb HKx10.out.lt)
  have HKy11 := Lib.hid (HKy10.out.below hb HKy10.out.lt)
  have HKu11 := Lib.hid (HKu10.out.below hb HKu10.out.lt)
  have HKz11 := Lib.hid (HKz10.out.below hb HKz10.out.lt)
  have df0 := e0 HKd11.out
  have df1 := e1 HKd11.out
  have df2 := e2 HKd11.out
  have df3 := e3 HKd11.out
  have df4 := e4 HKd11.out
  have df5 := e5 HKd11.out
  have df6 := e6 HKd11.out
  have df7 := e7 HKd11.out
  have xf0 := s0 HKx11.out
  have xf1 := s1 HKx11.out
  have xf2 := s2 HKx11.out
  have yf0 := s0 HKy11.out
  have yf1 := s1 HKy11.out
  have yf2 := s2 HKy11.out
  have uf0 := s0 HKu11.out
  have uf1 := s1 HKu11.out
  have uf2 := s2 HKu11.out
  have zf0 := s0 HKz11.out
  have zf1 := s1 HKz11.out
  have zf2 := s2 HKz11.out
  have HB11 := Lib.hid (HB10.out.trans (hb.mono HB10.out.size))
  clear hb
  clear df0 df1 df2 df3 df4 df5 df6 df7 xf0 xf1 xf2 yf0 yf1 yf2 uf0 uf1 uf2 zf0 zf1 zf2
  have dc0 := ce0 HKd11.out
  have df0 := e0 HKd11.out
  have dc1 := ce1 HKd11.out
  have df1 := e1 HKd11.out
  have dc2 := ce2 HKd11.out
  have df2 := e2 HKd11.out
  have dc3 := ce3 HKd11.out
  have df3 := e3 HKd11.out
  have dc4 := ce4 HKd11.out
  have df4 := e4 HKd11.out
  have dc5 := ce5 HKd11.out
  have df5 := e5 HKd11.out
  have dc6 := ce6 HKd11.out
  have df6 := e6 HKd11.out
  have dc7 := ce7 HKd11.out
  have df7 := e7 HKd11.out
  have xc0 := cs0 HKx11.out
  have xf0 := s0 HKx11.out
  have xc1 := cs1 HKx11.out
  have xf1 := s1 HKx11.out
  have xc2 := cs2 HKx11.out
  have xf2 := s2 HKx11.out
  have yc0 := cs0 HKy11.out
  have yf0 := s0 HKy11.out
  have yc1 := cs1 HKy11.out
  have yf1 := s1 HKy11.out
  have yc2 := cs2 HKy11.out
  have yf2 := s2 HKy11.out
  have uc0 := cs0 HKu11.out
  have uf0 := s0 HKu11.out
  have uc1 := cs1 HKu11.out
  have uf1 := s1 HKu11.out
  have uc2 := cs2 HKu11.out
  have uf2 := s2 HKu11.out
  have zc0 := cs0 HKz11.out
  have zf0 := s0 HKz11.out
  have zc1 := cs1 HKz11.out
  have zf1 := s1 HKz11.out
  have zc2 := cs2 HKz11.out
  have zf2 := s2 HKz11.out
  go_wp2_with fail
  refine wp_region_quiet_below (by kernel_rfl) (by kernel_rfl) ?_
  repeat (go_big_quiet_step (first | exact Calls.regrown_of (ratio_any x r _ Hr.out) | exact Calls.regrown_of (refRatio_any x r _ Hr.out) | exact Calls.regrown_of (each_any x n _ Hn.out HX.out.1 HX.out.2) | exact Calls.regrown_of (refEach_any x n _ Hn.out HX.out.1 HX.out.2) | exact Calls.regrown_of (blocks_any x m _ Hm.out HX.out.1 HX.out.2) | exact Calls.regrown_of (refBlocks_any x m _ Hm.out HX.out.1 HX.out.2) | exact Calls.regrown_of (which_any x at' port wi _ Hwi.out HX.out.1 HX.out.2) | exact Calls.regrown_of (refWhich_any x at' port wi _ Hwi.out HX.out.1 HX.out.2)))
  refine wpQuiet_nil ?_
  intro _ hw'
  obtain ⟨⟨dq, osq⟩, hw''⟩ := hw'
  subst hw''
  clear dc0 df0 dc1 df1 dc2 df2 dc3 df3 dc4 df4 dc5 df5 dc6 df6 dc7 df7 xc0 xf0 xc1 xf1 xc2 xf2 yc0 yf0 yc1 yf1 yc2 yf2 uc0 uf0 uc1 uf1 uc2 uf2 zc0 zf0 zc1 zf1 zc2 zf2
  obtain ⟨w12, hw12⟩ : ∃ w12, Go.Sort.grow (redrawn w11 dq) osq = w12 := ⟨_, rfl⟩
  have hb : Below w11.heap.size w11 w12 := by rw [← hw12]; exact below_regrown _ _ _
  rw [hw12]
  clear hw12
  have HKd12 := Lib.hid (HKd11.out.below hb HKd11.out.lt)
  have HKx12 := Lib.hid (HKx11.out.below hb HKx11.out.lt)
  have HKy12 := Lib.hid (HKy11.out.below hb HKy11.out.lt)
  have HKu12 := Lib.hid (HKu11.out.below hb HKu11.out.lt)
  have HKz12 := Lib.hid (HKz11.out.below hb HKz11.out.lt)
  have df0 := e0 HKd12.out
  have df1 := e1 HKd12.out
  have df2 := e2 HKd12.out
  have df3 := e3 HKd12.out
  have df4 := e4 HKd12.out
  have df5 := e5 HKd12.out
  have df6 := e6 HKd12.out
  have df7 := e7 HKd12.out
  have xf0 := s0 HKx12.out
  have xf1 := s1 HKx12.out
  have xf2 := s2 HKx12.out
  have yf0 := s0 HKy12.out
  have yf1 := s1 HKy12.out
  have yf2 := s2 HKy12.out
  have uf0 := s0 HKu12.out
  have uf1 := s1 HKu12.out
  have uf2 := s2 HKu12.out
  have zf0 := s0 HKz12.out
  have zf1 := s1 HKz12.out
  have zf2 := s2 HKz12.out
  have HB12 := Lib.hid (HB11.out.trans (hb.mono HB11.out.size))
  clear hb
  go_wp2
  go_ret
  exact ⟨rfl, HB12.out⟩
end Go.Proofs.Ytjfnopbdlopjgaa
