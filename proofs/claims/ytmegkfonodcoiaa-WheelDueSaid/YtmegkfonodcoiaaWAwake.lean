/-
  The chapter's example ('awake').
-/
import Derived.Test.YtmegkfonodcoiaaWIs
namespace Go.Proofs.Ytmegkfonodcoiaa
open Go.RowKit

theorem W.ex1 : W.add 0 [] 1 5 = ([(1, 5)], 0) := by decide +kernel
theorem W.ex2 : W.add 0 [(1, 5)] 2 3 = ([(2, 3), (1, 5)], 0) := by decide +kernel
theorem W.ex3 : W.step 0 [(2, 3), (1, 5)] 4 = ((4, [(1, 5)]), [(2, 3)], 0) := by decide +kernel
set_option maxRecDepth 100000 in
set_option maxHeartbeats 1000000 in
theorem wawake_any (w : World) : Calls Try.prog 10 #[] w fun e w' => e = .returned (.bool true) ∧ Below w.heap.size w w' := by
  have HB0 := Lib.hid (Below.refl w.heap.size w)
  go_enter Try.func10, Try.ntmps10
  go_wp2_with fail
  refine (new_is 0 0 true w (by decide +kernel)).mono ?_
  rintro e w1 ⟨rfl, hb⟩
  have HB1 := Lib.hid (HB0.out.trans (hb.mono HB0.out.size))
  clear hb
  have HTu1 := Lib.hid (TIn.nil w1)
  have hb := wbox_below w1 0 none 0 0
  have HTu2 := Lib.hid (HTu1.out.below hb)
  have HKu2 := Lib.hid (wbox_blok w1 0 none 0 0)
  have HB2 := Lib.hid (HB1.out.trans (hb.mono HB1.out.size))
  clear hb
  go_wp2_with fail
  refine (add_is 0 1 5 none 0 0 [] [(1, 5)] 1 0 (wbox w1 0 none 0 0) HTu2.out (by omega) W.ex1 rfl).mono ?_
  rintro e w3 ⟨a1, c1, rfl, ht1, hb⟩
  have HKu3 := Lib.hid (HKu2.out.on' hb)
  have HTu3 := Lib.hid (HTu2.out.below hb)
  have uf0 := HKu3.out.b0
  have uf1 := HKu3.out.b1
  have HB3 := Lib.hid (HB2.out.trans (hb.mono HB2.out.size))
  clear hb
  have uz0 := HKu3.out.frozen 0
  have uz1 := HKu3.out.frozen 1
  have hset := set2 HKu3.out (.int .i64 0) (.slice a1 1 c1)
  have HKsu := Lib.hid hset.1
  have HTsu := Lib.hid (ht1.out.set HKu3.out hset.2)
  have us0 := HKsu.out.b0
  have us1 := HKsu.out.b1
  have HBs := Lib.hid ((HB3.out.setCell (p := ⟨w1.heap.size, 0, none⟩) (show w.heap.size ≤ w1.heap.size from HB1.out.size) (.int .i64 0)).setCell (p := ⟨w1.heap.size, 1, none⟩) (show w.heap.size ≤ w1.heap.size from HB1.out.size) (.slice a1 1 c1))
  clear hset
  go_wp2_with fail
  clear uf0 uf1 uz0 uz1 us0 us1
  obtain ⟨w4, hw4⟩ : ∃ w4, ((w3.setCell ⟨w1.heap.size, 0, none⟩ (.int .i64 0)).setCell ⟨w1.heap.size, 1, none⟩ (.slice a1 1 c1)) = w4 := ⟨_, rfl⟩
  have HKu4 := Lib.hid (by have h := HKsu.out; rw [hw4] at h; exact h)
  have HTu4 := Lib.hid (by have h := HTsu.out; rw [hw4] at h; exact h)
  have HB4 := Lib.hid (by have h := HBs.out; rw [hw4] at h; exact h)
  rw [hw4]
  clear hw4 HBs HKsu HTsu
  have uf0 := HKu4.out.b0
  have uf1 := HKu4.out.b1
  skip
  refine (add_is 0 2 3 a1 1 c1 [(1, 5)] [(2, 3), (1, 5)] 2 0 w4 HTu4.out (by omega) W.ex2 rfl).mono ?_
  clear uf0 uf1
  rintro e w5 ⟨a2, c2, rfl, ht2, hb⟩
  have HKu5 := Lib.hid (HKu4.out.on' hb)
  have HTu5 := Lib.hid (HTu4.out.below hb)
  have uf0 := HKu5.out.b0
  have uf1 := HKu5.out.b1
  have HB5 := Lib.hid (HB4.out.trans (hb.mono HB4.out.size))
  clear hb
  have uz0 := HKu5.out.frozen 0
  have uz1 := HKu5.out.frozen 1
  have hset := set2 HKu5.out (.int .i64 0) (.slice a2 2 c2)
  have HKsu := Lib.hid hset.1
  have HTsu := Lib.hid (ht2.out.set HKu5.out hset.2)
  have us0 := HKsu.out.b0
  have us1 := HKsu.out.b1
  have HBs := Lib.hid ((HB5.out.setCell (p := ⟨w1.heap.size, 0, none⟩) (show w.heap.size ≤ w1.heap.size from HB1.out.size) (.int .i64 0)).setCell (p := ⟨w1.heap.size, 1, none⟩) (show w.heap.size ≤ w1.heap.size from HB1.out.size) (.slice a2 2 c2))
  clear hset
  go_wp2_with fail
  clear uf0 uf1 uz0 uz1 us0 us1
  obtain ⟨w6, hw6⟩ : ∃ w6, ((w5.setCell ⟨w1.heap.size, 0, none⟩ (.int .i64 0)).setCell ⟨w1.heap.size, 1, none⟩ (.slice a2 2 c2)) = w6 := ⟨_, rfl⟩
  have HKu6 := Lib.hid (by have h := HKsu.out; rw [hw6] at h; exact h)
  have HTu6 := Lib.hid (by have h := HTsu.out; rw [hw6] at h; exact h)
  have HB6 := Lib.hid (by have h := HBs.out; rw [hw6] at h; exact h)
  rw [hw6]
  clear hw6 HBs HKsu HTsu
  have uf0 := HKu6.out.b0
  have uf1 := HKu6.out.b1
  skip
  refine (step_is 0 4 a2 2 c2 [(2, 3), (1, 5)] 4 [(1, 5)] [(2, 3)] 1 1 0 w6 HTu6.out (by omega) W.ex3 rfl rfl).mono ?_
  clear uf0 uf1
  rintro e w7 ⟨a3, c3, a4, c4, rfl, htv, htd, hb⟩
  have HKu7 := Lib.hid (HKu6.out.on' hb)
  have HTu7 := Lib.hid (HTu6.out.below hb)
  have uf0 := HKu7.out.b0
  have uf1 := HKu7.out.b1
  have HB7 := Lib.hid (HB6.out.trans (hb.mono HB6.out.size))
  clear hb
  have HTv7 := htv
  clear htv
  have HTd7 := htd
  clear htd
  have Nuv := Lib.hid (Nat.ne_of_lt HKu7.out.lt)
  have hb := wbox_below w7 4 a3 1 c3
  have HKu8 := Lib.hid (HKu7.out.on' hb)
  have HTu8 := Lib.hid (HTu7.out.below hb)
  have uva0 := fun o => (HKu7.out.alloc o).b0
  have uva1 := fun o => (HKu7.out.alloc o).b1
  have HTv8 := Lib.hid (HTv7.out.below hb)
  have HKv8 := Lib.hid (wbox_blok w7 4 a3 1 c3)
  have HB8 := Lib.hid (HB7.out.trans (hb.mono HB7.out.size))
  clear hb
  have HTd8 := Lib.hid (HTd7.out.below (wbox_below w7 4 a3 1 c3))
  obtain ⟨bd, od, xd, rfl, hd1, hd2, hd3, hd4⟩ := HTd8.out.at (show 0 < 1 by omega)
  obtain rfl : ((2 : Int), (3 : Int)) = xd := Option.some.inj hd2
  unfold wbox at hd3 hd4
  clear hd1 hd2
  rw [Nat.zero_mul, Nat.add_zero] at hd3 hd4
  go_wp2_with fail
  refine (may_any 4 a3 1 c3 [(1, 5)] (wbox w7 4 a3 1 c3) HTv8.out (by omega) true (by decide +kernel)).mono ?_
  clear uf0 uf1 uva0 uva1
  rintro e w9 ⟨rfl, hb⟩
  have HKu9 := Lib.hid (HKu8.out.on' hb)
  have HTu9 := Lib.hid (HTu8.out.below hb)
  have HKv9 := Lib.hid (HKv8.out.on' hb)
  have HTv9 := Lib.hid (HTv8.out.below hb)
  have HTd9 := Lib.hid (HTd8.out.below hb)
  have uf0 := HKu9.out.b0
  have uf1 := HKu9.out.b1
  have vf0 := HKv9.out.b0
  have vf1 := HKv9.out.b1
  have HB9 := Lib.hid (HB8.out.trans (hb.mono HB8.out.size))
  clear hb
  go_wp2_with fail
  refine (same_any 4 4 a3 a3 1 1 c3 c3 [(1, 5)] [(1, 5)] w9 HTv9.out HTv9.out (by omega) true (by decide +kernel)).mono ?_
  clear uf0 uf1 vf0 vf1
  rintro e w10 ⟨rfl, hb⟩
  have HKu10 := Lib.hid (HKu9.out.on' hb)
  have HTu10 := Lib.hid (HTu9.out.below hb)
  have HKv10 := Lib.hid (HKv9.out.on' hb)
  have HTv10 := Lib.hid (HTv9.out.below hb)
  have HTd10 := Lib.hid (HTd9.out.below hb)
  have uf0 := HKu10.out.b0
  have uf1 := HKu10.out.b1
  have vf0 := HKv10.out.b0
  have vf1 := HKv10.out.b1
  have HB10 := Lib.hid (HB9.out.trans (hb.mono HB9.out.size))
  clear hb
  go_wp2
  go_ret
  exact ⟨rfl, HB10.out⟩
end Go.Proofs.Ytmegkfonodcoiaa
