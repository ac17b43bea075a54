/-
  The chapter's example ('awake').
-/
import Derived.Test.YtagkpkgflnccpaaUTake
import Derived.Test.YtagkpkgflnccpaaUCount
import Derived.Test.YtagkpkgflnccpaaUFree
namespace Go.Proofs.Ytagkpkgflnccpaa
open Go.RowKit

theorem U.ex_free : U.free 3 1 = [1, 2] := by decide +kernel
set_option maxHeartbeats 1000000 in
theorem uawake_any (w : World) : Calls Try.prog 9 #[] w fun e w' => e = .returned (.bool true) ∧ Below w.heap.size w w' := by
  have hn := fun W => new_any 3 3 true W (by decide +kernel) (by decide +kernel)
  have ht := fun W => take_any 3 0 0 1 true W (by decide +kernel) (by decide +kernel)
  have hf := fun W => first_any 3 1 1 W (by decide +kernel)
  have hl := fun W => free_any 3 1 W
  rw [U.ex_free] at hl
  have h0 := fun W => has_any 3 1 0 true W (by decide +kernel)
  have h1 := fun W => has_any 3 1 1 false W (by decide +kernel)
  have hc := fun W => count_any 3 1 1 W (by decide +kernel)
  have hm := fun W => may_any 3 1 true W (by decide +kernel)
  have HB0 := Lib.hid (Below.refl w.heap.size w)
  go_enter Try.func9, Try.ntmps9
  go_wp2_with fail
  refine (hn w).mono ?_
  rintro e w1 ⟨rfl, hb⟩
  have HB1 := Lib.hid (HB0.out.trans (hb.mono HB0.out.size))
  clear hb
  have hb := ubox_below w1 3 0
  have HKu2 := Lib.hid (ubox_blok w1 3 0)
  have HB2 := Lib.hid (HB1.out.trans (hb.mono HB1.out.size))
  clear hb
  go_wp2_with fail
  refine (ht (ubox w1 3 0)).mono ?_
  rintro e w3 ⟨rfl, hb⟩
  have HKu3 := Lib.hid (HKu2.out.below hb HKu2.out.lt)
  have uf0 := u0 HKu3.out
  have uf1 := u1 HKu3.out
  have HB3 := Lib.hid (HB2.out.trans (hb.mono HB2.out.size))
  clear hb
  have hb := ubox_below w3 3 1
  have HKu4 := Lib.hid (HKu3.out.below hb HKu3.out.lt)
  have uva0 := fun o => u0 (HKu3.out.alloc o)
  have uva1 := fun o => u1 (HKu3.out.alloc o)
  have HKv4 := Lib.hid (ubox_blok w3 3 1)
  have HB4 := Lib.hid (HB3.out.trans (hb.mono HB3.out.size))
  clear hb
  go_wp2_with fail
  refine (hf (ubox w3 3 1)).mono ?_
  clear uf0 uf1 uva0 uva1
  rintro e w5 ⟨rfl, hb⟩
  have HKu5 := Lib.hid (HKu4.out.below hb HKu4.out.lt)
  have HKv5 := Lib.hid (HKv4.out.below hb HKv4.out.lt)
  have uf0 := u0 HKu5.out
  have uf1 := u1 HKu5.out
  have vf0 := u0 HKv5.out
  have vf1 := u1 HKv5.out
  have HB5 := Lib.hid (HB4.out.trans (hb.mono HB4.out.size))
  clear hb
  go_wp2_with fail
  refine (hl w5).mono ?_
  clear uf0 uf1 vf0 vf1
  rintro e w6 ⟨a, cap, j, rfl, hj, -, hb⟩
  have HKu6 := Lib.hid (HKu5.out.below hb HKu5.out.lt)
  have HKv6 := Lib.hid (HKv5.out.below hb HKv5.out.lt)
  have uf0 := u0 HKu6.out
  have uf1 := u1 HKu6.out
  have vf0 := u0 HKv6.out
  have vf1 := u1 HKv6.out
  have HB6 := Lib.hid (HB5.out.trans (hb.mono HB5.out.size))
  clear hb
  obtain rfl : j = 2 := hj.out.symm
  go_wp2_with fail
  refine (h0 w6).mono ?_
  clear uf0 uf1 vf0 vf1
  rintro e w7 ⟨rfl, hb⟩
  have HKu7 := Lib.hid (HKu6.out.below hb HKu6.out.lt)
  have HKv7 := Lib.hid (HKv6.out.below hb HKv6.out.lt)
  have uf0 := u0 HKu7.out
  have uf1 := u1 HKu7.out
  have vf0 := u0 HKv7.out
  have vf1 := u1 HKv7.out
  have HB7 := Lib.hid (HB6.out.trans (hb.mono HB6.out.size))
  clear hb
  go_wp2_with fail
  refine (h1 w7).mono ?_
  clear uf0 uf1 vf0 vf1
  rintro e w8 ⟨rfl, hb⟩
  have HKu8 := Lib.hid (HKu7.out.below hb HKu7.out.lt)
  have HKv8 := Lib.hid (HKv7.out.below hb HKv7.out.lt)
  have uf0 := u0 HKu8.out
  have uf1 := u1 HKu8.out
  have vf0 := u0 HKv8.out
  have vf1 := u1 HKv8.out
  have HB8 := Lib.hid (HB7.out.trans (hb.mono HB7.out.size))
  clear hb
  go_wp2_with fail
  refine (hc w8).mono ?_
  clear uf0 uf1 vf0 vf1
  rintro e w9 ⟨rfl, hb⟩
  have HKu9 := Lib.hid (HKu8.out.below hb HKu8.out.lt)
  have HKv9 := Lib.hid (HKv8.out.below hb HKv8.out.lt)
  have uf0 := u0 HKu9.out
  have uf1 := u1 HKu9.out
  have vf0 := u0 HKv9.out
  have vf1 := u1 HKv9.out
  have HB9 := Lib.hid (HB8.out.trans (hb.mono HB8.out.size))
  clear hb
  go_wp2_with fail
  refine (hm w9).mono ?_
  clear uf0 uf1 vf0 vf1
  rintro e w10 ⟨rfl, hb⟩
  have HKu10 := Lib.hid (HKu9.out.below hb HKu9.out.lt)
  have HKv10 := Lib.hid (HKv9.out.below hb HKv9.out.lt)
  have uf0 := u0 HKu10.out
  have uf1 := u1 HKu10.out
  have vf0 := u0 HKv10.out
  have vf1 := u1 HKv10.out
  have HB10 := Lib.hid (HB9.out.trans (hb.mono HB9.out.size))
  clear hb
  go_wp2
  go_ret
  exact ⟨rfl, HB10.out⟩
end Go.Proofs.Ytagkpkgflnccpaa
