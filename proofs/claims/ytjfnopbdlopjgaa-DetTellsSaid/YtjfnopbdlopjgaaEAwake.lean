/-
  The chapter's example ('awake').
-/
import Derived.Test.YtjfnopbdlopjgaaEWho
namespace Go.Proofs.Ytjfnopbdlopjgaa
open Go.RowKit

def E.ex : E.D := ⟨167772160, 27, 184549376, 30, 1024, 2047, 512, 64⟩
theorem E.ex_fit : E.fit E.ex = true := by decide +kernel
theorem E.ex_ratio : E.ratio E.ex = 8 := by decide +kernel
theorem E.ex_each : E.each E.ex = 64 := by decide +kernel
theorem E.ex_nb : E.nb E.ex = 8 := by decide +kernel
theorem E.ex_base : E.baseB E.ex 9 = true ∧ E.baseA E.ex 9 = 1 ∧ E.baseF E.ex 9 = 1088 ∧ E.baseT E.ex 9 = 1151 := by decide +kernel
theorem E.ex_blk : E.blkB E.ex 3 7 = true ∧ E.blkA E.ex 3 7 = 3 ∧ E.blkF E.ex 3 7 = 1984 ∧ E.blkT E.ex 3 7 = 2047 := by decide +kernel
theorem E.ex_who : E.who E.ex 1 1100 = 9 := by decide +kernel
theorem E.ex_which : E.which E.ex 3 2047 = 7 := by decide +kernel
def exBox (w : World) : World := w.alloc (.cells #[.int .i64 167772160, .int .i64 27, .int .i64 184549376, .int .i64 30, .int .i64 1024, .int .i64 2047, .int .i64 512, .int .i64 64] 25)

set_option maxHeartbeats 2000000 in
theorem eawake_any (w : World) : Calls Try.prog 10 #[] w fun e w' => e = .returned (.bool true) ∧ Below w.heap.size w w' := by
  have HB0 := Lib.hid (show Below w.heap.size w (exBox w) from (Below.refl _ w).alloc (Nat.le_refl _) _)
  have HK0 := Lib.hid (show Blok (exBox w) w.heap.size 25 #[.int .i64 167772160, .int .i64 27, .int .i64 184549376, .int .i64 30, .int .i64 1024, .int .i64 2047, .int .i64 512, .int .i64 64] from Blok.new w _ _)
  have h1 : ∀ W, Calls Try.prog 11 #[.agg #[.int .i64 167772160, .int .i64 27, .int .i64 184549376, .int .i64 30, .int .i64 1024, .int .i64 2047, .int .i64 512, .int .i64 64], .int .i64 9] W fun e w' => e = .returned (.tuple #[.agg #[.int .i64 1, .int .i64 1088, .int .i64 1151], .bool true]) ∧ Below W.heap.size W w' := fun W => base_any E.ex 9 _ _ _ _ W E.ex_base.1 E.ex_base.2.1 E.ex_base.2.2.1 E.ex_base.2.2.2 (by decide) (by decide)
  have h2 : ∀ W, Calls Try.prog 13 #[.agg #[.int .i64 167772160, .int .i64 27, .int .i64 184549376, .int .i64 30, .int .i64 1024, .int .i64 2047, .int .i64 512, .int .i64 64], .int .i64 3, .int .i64 7] W fun e w' => e = .returned (.tuple #[.agg #[.int .i64 3, .int .i64 1984, .int .i64 2047], .bool true]) ∧ Below W.heap.size W w' := fun W => block_any E.ex 3 7 _ _ _ _ W E.ex_blk.1 E.ex_blk.2.1 E.ex_blk.2.2.1 E.ex_blk.2.2.2 (by decide) (by decide)
  have h3 : ∀ W, Calls Try.prog 16 #[.agg #[.int .i64 167772160, .int .i64 27, .int .i64 184549376, .int .i64 30, .int .i64 1024, .int .i64 2047, .int .i64 512, .int .i64 64]] W fun e w' => e = .returned (.bool true) ∧ Below W.heap.size W w' := fun W => fit_any E.ex _ W E.ex_fit (by decide) (by decide)
  have h4 : ∀ W, Calls Try.prog 19 #[.agg #[.int .i64 167772160, .int .i64 27, .int .i64 184549376, .int .i64 30, .int .i64 1024, .int .i64 2047, .int .i64 512, .int .i64 64]] W fun e w' => e = .returned (.int .i64 8) ∧ Below W.heap.size W w' := fun W => ratio_any E.ex _ W E.ex_ratio
  have h5 : ∀ W, Calls Try.prog 21 #[.agg #[.int .i64 167772160, .int .i64 27, .int .i64 184549376, .int .i64 30, .int .i64 1024, .int .i64 2047, .int .i64 512, .int .i64 64]] W fun e w' => e = .returned (.int .i64 64) ∧ Below W.heap.size W w' := fun W => each_any E.ex _ W E.ex_each (by decide) (by decide)
  have h6 : ∀ W, Calls Try.prog 23 #[.agg #[.int .i64 167772160, .int .i64 27, .int .i64 184549376, .int .i64 30, .int .i64 1024, .int .i64 2047, .int .i64 512, .int .i64 64]] W fun e w' => e = .returned (.int .i64 8) ∧ Below W.heap.size W w' := fun W => blocks_any E.ex _ W E.ex_nb (by decide) (by decide)
  have h7 : ∀ W, Calls Try.prog 17 #[.agg #[.int .i64 167772160, .int .i64 27, .int .i64 184549376, .int .i64 30, .int .i64 1024, .int .i64 2047, .int .i64 512, .int .i64 64], .int .i64 1, .int .i64 1100] W fun e w' => e = .returned (.int .i64 9) ∧ Below W.heap.size W w' := fun W => who_any E.ex 1 1100 _ W E.ex_who (by decide) (by decide)
  have h8 : ∀ W, Calls Try.prog 25 #[.agg #[.int .i64 167772160, .int .i64 27, .int .i64 184549376, .int .i64 30, .int .i64 1024, .int .i64 2047, .int .i64 512, .int .i64 64], .int .i64 3, .int .i64 2047] W fun e w' => e = .returned (.int .i64 7) ∧ Below W.heap.size W w' := fun W => which_any E.ex 3 2047 _ W E.ex_which (by decide) (by decide)
  go_enter Try.func10, Try.ntmps10
  go_wp2_with fail
  refine (h1 (exBox w)).mono ?_
  rintro e w1 ⟨rfl, hb⟩
  have d0 := (HK0.out.below hb HK0.out.lt).cell 0
  have a0 := fun o => ((HK0.out.below hb HK0.out.lt).alloc o).cell 0
  have d1 := (HK0.out.below hb HK0.out.lt).cell 1
  have a1 := fun o => ((HK0.out.below hb HK0.out.lt).alloc o).cell 1
  have d2 := (HK0.out.below hb HK0.out.lt).cell 2
  have a2 := fun o => ((HK0.out.below hb HK0.out.lt).alloc o).cell 2
  have d3 := (HK0.out.below hb HK0.out.lt).cell 3
  have a3 := fun o => ((HK0.out.below hb HK0.out.lt).alloc o).cell 3
  have d4 := (HK0.out.below hb HK0.out.lt).cell 4
  have a4 := fun o => ((HK0.out.below hb HK0.out.lt).alloc o).cell 4
  have d5 := (HK0.out.below hb HK0.out.lt).cell 5
  have a5 := fun o => ((HK0.out.below hb HK0.out.lt).alloc o).cell 5
  have d6 := (HK0.out.below hb HK0.out.lt).cell 6
  have a6 := fun o => ((HK0.out.below hb HK0.out.lt).alloc o).cell 6
  have d7 := (HK0.out.below hb HK0.out.lt).cell 7
  have a7 := fun o => ((HK0.out.below hb HK0.out.lt).alloc o).cell 7
  have HK1 := Lib.hid ((HK0.out.below hb HK0.out.lt).alloc (.cells #[.int .i64 1, .int .i64 1088, .int .i64 1151] 28))
  have HX1 := Lib.hid (sbox_blok w1 1 1088 1151)
  have HB1 := Lib.hid ((HB0.out.trans (hb.mono HB0.out.size)).trans ((sbox_below w1 1 1088 1151).mono (HB0.out.trans (hb.mono HB0.out.size)).size))
  clear hb h1
  go_wp2_with fail
  refine (h2 (sbox w1 1 1088 1151)).mono ?_
  clear d0 a0 d1 a1 d2 a2 d3 a3 d4 a4 d5 a5 d6 a6 d7 a7
  rintro e w2 ⟨rfl, hb⟩
  have d0 := (HK1.out.below hb HK1.out.lt).cell 0
  have a0 := fun o => ((HK1.out.below hb HK1.out.lt).alloc o).cell 0
  have d1 := (HK1.out.below hb HK1.out.lt).cell 1
  have a1 := fun o => ((HK1.out.below hb HK1.out.lt).alloc o).cell 1
  have d2 := (HK1.out.below hb HK1.out.lt).cell 2
  have a2 := fun o => ((HK1.out.below hb HK1.out.lt).alloc o).cell 2
  have d3 := (HK1.out.below hb HK1.out.lt).cell 3
  have a3 := fun o => ((HK1.out.below hb HK1.out.lt).alloc o).cell 3
  have d4 := (HK1.out.below hb HK1.out.lt).cell 4
  have a4 := fun o => ((HK1.out.below hb HK1.out.lt).alloc o).cell 4
  have d5 := (HK1.out.below hb HK1.out.lt).cell 5
  have a5 := fun o => ((HK1.out.below hb HK1.out.lt).alloc o).cell 5
  have d6 := (HK1.out.below hb HK1.out.lt).cell 6
  have a6 := fun o => ((HK1.out.below hb HK1.out.lt).alloc o).cell 6
  have d7 := (HK1.out.below hb HK1.out.lt).cell 7
  have a7 := fun o => ((HK1.out.below hb HK1.out.lt).alloc o).cell 7
  have x0 := s0 (HX1.out.below hb HX1.out.lt)
  have y0 := fun o => s0 ((HX1.out.below hb HX1.out.lt).alloc o)
  have x1 := s1 (HX1.out.below hb HX1.out.lt)
  have y1 := fun o => s1 ((HX1.out.below hb HX1.out.lt).alloc o)
  have x2 := s2 (HX1.out.below hb HX1.out.lt)
  have y2 := fun o => s2 ((HX1.out.below hb HX1.out.lt).alloc o)
  have HK2 := Lib.hid ((HK1.out.below hb HK1.out.lt).alloc (.cells #[.int .i64 3, .int .i64 1984, .int .i64 2047] 28))
  have HX2 := Lib.hid ((HX1.out.below hb HX1.out.lt).alloc (.cells #[.int .i64 3, .int .i64 1984, .int .i64 2047] 28))
  have HY2 := Lib.hid (sbox_blok w2 3 1984 2047)
  have HB2 := Lib.hid ((HB1.out.trans (hb.mono HB1.out.size)).trans ((sbox_below w2 3 1984 2047).mono (HB1.out.trans (hb.mono HB1.out.size)).size))
  clear hb h2
  go_wp2_with fail
  refine (h3 (sbox w2 3 1984 2047)).mono ?_
  clear d0 a0 d1 a1 d2 a2 d3 a3 d4 a4 d5 a5 d6 a6 d7 a7 x0 x1 x2 y0 y1 y2 h3
  rintro e w3 ⟨rfl, hb⟩
  have d0 := (HK2.out.below hb HK2.out.lt).cell 0
  have d1 := (HK2.out.below hb HK2.out.lt).cell 1
  have d2 := (HK2.out.below hb HK2.out.lt).cell 2
  have d3 := (HK2.out.below hb HK2.out.lt).cell 3
  have d4 := (HK2.out.below hb HK2.out.lt).cell 4
  have d5 := (HK2.out.below hb HK2.out.lt).cell 5
  have d6 := (HK2.out.below hb HK2.out.lt).cell 6
  have d7 := (HK2.out.below hb HK2.out.lt).cell 7
  have x0 := s0 (HX2.out.below hb HX2.out.lt)
  have x1 := s1 (HX2.out.below hb HX2.out.lt)
  have x2 := s2 (HX2.out.below hb HX2.out.lt)
  have y0 := s0 (HY2.out.below hb HY2.out.lt)
  have y1 := s1 (HY2.out.below hb HY2.out.lt)
  have y2 := s2 (HY2.out.below hb HY2.out.lt)
  have HK3 := Lib.hid (HK2.out.below hb HK2.out.lt)
  have HX3 := Lib.hid (HX2.out.below hb HX2.out.lt)
  have HY3 := Lib.hid (HY2.out.below hb HY2.out.lt)
  have HB3 := Lib.hid (HB2.out.trans (hb.mono HB2.out.size))
  clear hb
  go_wp2_with fail
  refine (h4 w3).mono ?_
  clear d0 d1 d2 d3 d4 d5 d6 d7 x0 x1 x2 y0 y1 y2
  rintro e w4 ⟨rfl, hb⟩
  have d0 := (HK3.out.below hb HK3.out.lt).cell 0
  have d1 := (HK3.out.below hb HK3.out.lt).cell 1
  have d2 := (HK3.out.below hb HK3.out.lt).cell 2
  have d3 := (HK3.out.below hb HK3.out.lt).cell 3
  have d4 := (HK3.out.below hb HK3.out.lt).cell 4
  have d5 := (HK3.out.below hb HK3.out.lt).cell 5
  have d6 := (HK3.out.below hb HK3.out.lt).cell 6
  have d7 := (HK3.out.below hb HK3.out.lt).cell 7
  have x0 := s0 (HX3.out.below hb HX3.out.lt)
  have x1 := s1 (HX3.out.below hb HX3.out.lt)
  have x2 := s2 (HX3.out.below hb HX3.out.lt)
  have y0 := s0 (HY3.out.below hb HY3.out.lt)
  have y1 := s1 (HY3.out.below hb HY3.out.lt)
  have y2 := s2 (HY3.out.below hb HY3.out.lt)
  have HK4 := Lib.hid (HK3.out.below hb HK3.out.lt)
  have HX4 := Lib.hid (HX3.out.below hb HX3.out.lt)
  have HY4 := Lib.hid (HY3.out.below hb HY3.out.lt)
  have HB4 := Lib.hid (HB3.out.trans (hb.mono HB3.out.size))
  clear hb
  go_wp2_with fail
  refine (h5 w4).mono ?_
  clear d0 d1 d2 d3 d4 d5 d6 d7 x0 x1 x2 y0 y1 y2
  rintro e w5 ⟨rfl, hb⟩
  have d0 := (HK4.out.below hb HK4.out.lt).cell 0
  have d1 := (HK4.out.below hb HK4.out.lt).cell 1
  have d2 := (HK4.out.below hb HK4.out.lt).cell 2
  have d3 := (HK4.out.below hb HK4.out.lt).cell 3
  have d4 := (HK4.out.below hb HK4.out.lt).cell 4
  have d5 := (HK4.out.below hb HK4.out.lt).cell 5
  have d6 := (HK4.out.below hb HK4.out.lt).cell 6
  have d7 := (HK4.out.below hb HK4.out.lt).cell 7
  have x0 := s0 (HX4.out.below hb HX4.out.lt)
  have x1 := s1 (HX4.out.below hb HX4.out.lt)
  have x2 := s2 (HX4.out.below hb HX4.out.lt)
  have y0 := s0 (HY4.out.below hb HY4.out.lt)
  have y1 := s1 (HY4.out.below hb HY4.out.lt)
  have y2 := s2 (HY4.out.below hb HY4.out.lt)
  have HK5 := Lib.hid (HK4.out.below hb HK4.out.lt)
  have HX5 := Lib.hid (HX4.out.below hb HX4.out.lt)
  have HY5 := Lib.hid (HY4.out.below hb HY4.out.lt)
  have HB5 := Lib.hid (HB4.out.trans (hb.mono HB4.out.size))
  clear hb
  go_wp2_with fail
  refine (h6 w5).mono ?_
  clear d0 d1 d2 d3 d4 d5 d6 d7 x0 x1 x2 y0 y1 y2
  rintro e w6 ⟨rfl, hb⟩
  have d0 := (HK5.out.below hb HK5.out.lt).cell 0
  have d1 := (HK5.out.below hb HK5.out.lt).cell 1
  have d2 := (HK5.out.below hb HK5.out.lt).cell 2
  have d3 := (HK5.out.below hb HK5.out.lt).cell 3
  have d4 := (HK5.out.below hb HK5.out.lt).cell 4
  have d5 := (HK5.out.below hb HK5.out.lt).cell 5
  have d6 := (HK5.out.below hb HK5.out.lt).cell 6
  have d7 := (HK5.out.below hb HK5.out.lt).cell 7
  have x0 := s0 (HX5.out.below hb HX5.out.lt)
  have x1 := s1 (HX5.out.below hb HX5.out.lt)
  have x2 := s2 (HX5.out.below hb HX5.out.lt)
  have y0 := s0 (HY5.out.below hb HY5.out.lt)
  have y1 := s1 (HY5.out.below hb HY5.out.lt)
  have y2 := s2 (HY5.out.below hb HY5.out.lt)
  have HK6 := Lib.hid (HK5.out.below hb HK5.out.lt)
  have HX6 := Lib.hid (HX5.out.below hb HX5.out.lt)
  have HY6 := Lib.hid (HY5.out.below hb HY5.out.lt)
  have HB6 := Lib.hid (HB5.out.trans (hb.mono HB5.out.size))
  clear hb
  go_wp2_with fail
  refine (h7 w6).mono ?_
  clear d0 d1 d2 d3 d4 d5 d6 d7 x0 x1 x2 y0 y1 y2
  rintro e w7 ⟨rfl, hb⟩
  have d0 := (HK6.out.below hb HK6.out.lt).cell 0
  have d1 := (HK6.out.below hb HK6.out.lt).cell 1
  have d2 := (HK6.out.below hb HK6.out.lt).cell 2
  have d3 := (HK6.out.below hb HK6.out.lt).cell 3
  have d4 := (HK6.out.below hb HK6.out.lt).cell 4
  have d5 := (HK6.out.below hb HK6.out.lt).cell 5
  have d6 := (HK6.out.below hb HK6.out.lt).cell 6
  have d7 := (HK6.out.below hb HK6.out.lt).cell 7
  have x0 := s0 (HX6.out.below hb HX6.out.lt)
  have x1 := s1 (HX6.out.below hb HX6.out.lt)
  have x2 := s2 (HX6.out.below hb HX6.out.lt)
  have y0 := s0 (HY6.out.below hb HY6.out.lt)
  have y1 := s1 (HY6.out.below hb HY6.out.lt)
  have y2 := s2 (HY6.out.below hb HY6.out.lt)
  have HK7 := Lib.hid (HK6.out.below hb HK6.out.lt)
  have HX7 := Lib.hid (HX6.out.below hb HX6.out.lt)
  have HY7 := Lib.hid (HY6.out.below hb HY6.out.lt)
  have HB7 := Lib.hid (HB6.out.trans (hb.mono HB6.out.size))
  clear hb
  go_wp2_with fail
  refine (h8 w7).mono ?_
  clear d0 d1 d2 d3 d4 d5 d6 d7 x0 x1 x2 y0 y1 y2
  rintro e w8 ⟨rfl, hb⟩
  have d0 := (HK7.out.below hb HK7.out.lt).cell 0
  have d1 := (HK7.out.below hb HK7.out.lt).cell 1
  have d2 := (HK7.out.below hb HK7.out.lt).cell 2
  have d3 := (HK7.out.below hb HK7.out.lt).cell 3
  have d4 := (HK7.out.below hb HK7.out.lt).cell 4
  have d5 := (HK7.out.below hb HK7.out.lt).cell 5
  have d6 := (HK7.out.below hb HK7.out.lt).cell 6
  have d7 := (HK7.out.below hb HK7.out.lt).cell 7
  have x0 := s0 (HX7.out.below hb HX7.out.lt)
  have x1 := s1 (HX7.out.below hb HX7.out.lt)
  have x2 := s2 (HX7.out.below hb HX7.out.lt)
  have y0 := s0 (HY7.out.below hb HY7.out.lt)
  have y1 := s1 (HY7.out.below hb HY7.out.lt)
  have y2 := s2 (HY7.out.below hb HY7.out.lt)
  have HK8 := Lib.hid (HK7.out.below hb HK7.out.lt)
  have HX8 := Lib.hid (HX7.out.below hb HX7.out.lt)
  have HY8 := Lib.hid (HY7.out.below hb HY7.out.lt)
  have HB8 := Lib.hid (HB7.out.trans (hb.mono HB7.out.size))
  clear hb
  go_wp2
  go_ret
  exact ⟨rfl, HB8.out⟩
end Go.Proofs.Ytjfnopbdlopjgaa
