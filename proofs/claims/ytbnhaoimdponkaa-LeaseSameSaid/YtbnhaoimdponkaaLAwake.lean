/-
  The chapter's example ('awake').
-/
import Derived.Test.YtbnhaoimdponkaaLPut
import Derived.Test.YtbnhaoimdponkaaLHold
import Derived.Test.YtbnhaoimdponkaaLOf
import Derived.Test.YtbnhaoimdponkaaLBusy
import Derived.Test.YtbnhaoimdponkaaLSame
namespace Go.Proofs.Ytbnhaoimdponkaa
open Go.RowKit

theorem L.ex1 : L.put [] ⟨0, 1, 1, 0, 0⟩ = ([⟨0, 1, 1, 0, 0⟩], true) := by decide +kernel
theorem L.ex2 : L.put [⟨0, 1, 1, 0, 0⟩] ⟨5, 0, 2, 0, 0⟩ = ([⟨5, 0, 2, 0, 0⟩, ⟨0, 1, 1, 0, 0⟩], true) := by decide +kernel
theorem L.ex3 : L.hold [] ⟨0, 3, 9⟩ = [⟨0, 3, 9⟩] := by decide +kernel
theorem L.ex4 : L.find [⟨5, 0, 2, 0, 0⟩, ⟨0, 1, 1, 0, 0⟩] 1 1 = 1 := by decide +kernel
theorem L.ex5 : L.of [⟨5, 0, 2, 0, 0⟩, ⟨0, 1, 1, 0, 0⟩] 5 = [0] := by decide +kernel
theorem L.ex6 : L.clean [⟨0, 3, 9⟩] 9 = [] := by decide +kernel
theorem L.ex7 : L.busy [⟨5, 0, 2, 0, 0⟩, ⟨0, 1, 1, 0, 0⟩] = [0, 1] := by
  unfold L.busy
  rw [show L.sorted' [⟨5, 0, 2, 0, 0⟩, ⟨0, 1, 1, 0, 0⟩] = [0, 1] from List.mergeSort_of_pairwise (by decide)]
  decide +kernel
set_option maxRecDepth 100000 in
set_option maxHeartbeats 1000000 in
theorem lawake_any  (w : World) :
    Calls Try.prog 8 #[] w fun e w' => e = .returned (.bool true) ∧ Below w.heap.size w w' := by
  have HB0 := Lib.hid (Below.refl w.heap.size w)
  go_enter Try.func8, Try.ntmps8
  go_wp2_with fail
  refine (put_any none 0 0 [] [⟨0, 1, 1, 0, 0⟩] ⟨0, 1, 1, 0, 0⟩ true 1 L.ex1 rfl w (RIn.nil w) (by omega)).mono ?_
  rintro e w1 ⟨a1, c1, rfl, ht1, hb⟩
  have HB1 := Lib.hid (HB0.out.trans (hb.mono HB0.out.size))
  clear hb HB0
  have HT11 := ht1
  clear ht1
  go_wp2_with fail
  refine (put_any a1 1 c1 [⟨0, 1, 1, 0, 0⟩] [⟨5, 0, 2, 0, 0⟩, ⟨0, 1, 1, 0, 0⟩] ⟨5, 0, 2, 0, 0⟩ true 2 L.ex2 rfl w1 HT11.out (by omega)).mono ?_
  rintro e w2 ⟨a2, c2, rfl, ht2, hb⟩
  have HT12 := Lib.hid (HT11.out.below hb)
  have HB2 := Lib.hid (HB1.out.trans (hb.mono HB1.out.size))
  clear hb HT11 HB1
  have HT22 := ht2
  clear ht2
  go_wp2_with fail
  refine (hold_any none 0 0 [] [⟨0, 3, 9⟩] ⟨0, 3, 9⟩ 1 L.ex3 rfl w2 (RIn.nil _) (by omega)).mono ?_
  rintro e w3 ⟨a3, c3, rfl, ht3, hb⟩
  have HT13 := Lib.hid (HT12.out.below hb)
  have HT23 := Lib.hid (HT22.out.below hb)
  have HB3 := Lib.hid (HB2.out.trans (hb.mono HB2.out.size))
  clear hb HT12 HT22 HB2
  have HT33 := ht3
  clear ht3
  obtain ⟨b', off, y, hay, hbl, hy, p0, p1, p2, p3, p4⟩ := HT23.out.at5 (i := 0) (by omega)
  obtain rfl : y = ⟨5, 0, 2, 0, 0⟩ := by have := hy; simp at this; exact this.symm
  clear hy
  subst hay
  simp only [Nat.zero_mul, Nat.add_zero] at p0 p1 p2 p3 p4
  go_wp2_with fail
  refine (find_any (some ⟨b', off, none⟩) 2 c2 [⟨5, 0, 2, 0, 0⟩, ⟨0, 1, 1, 0, 0⟩] 1 1 1 L.ex4 w3 HT23.out (by omega)).mono ?_
  rintro e w4 ⟨rfl, hb⟩
  have HT14 := Lib.hid (HT13.out.below hb)
  have HT24 := Lib.hid (HT23.out.below hb)
  have HT34 := Lib.hid (HT33.out.below hb)
  have HB4 := Lib.hid (HB3.out.trans (hb.mono HB3.out.size))
  clear hb HT13 HT23 HT33 HB3
  go_wp2_with fail
  refine (of_any (some ⟨b', off, none⟩) 2 c2 [⟨5, 0, 2, 0, 0⟩, ⟨0, 1, 1, 0, 0⟩] 5 [0] L.ex5 w4 HT24.out (by omega)).mono ?_
  rintro e w5 ⟨a5, c5, n5, rfl, hn5, hr5, hb⟩
  have HT15 := Lib.hid (HT14.out.below hb)
  have HT25 := Lib.hid (HT24.out.below hb)
  have HT35 := Lib.hid (HT34.out.below hb)
  have HB5 := Lib.hid (HB4.out.trans (hb.mono HB4.out.size))
  clear hb HT14 HT24 HT34 HB4
  obtain rfl : n5 = 1 := hn5.out.symm
  clear hn5 hr5
  go_wp2_with fail
  refine (clean_any a3 1 c3 [⟨0, 3, 9⟩] [] 0 9 L.ex6 rfl w5 HT35.out (by omega)).mono ?_
  rintro e w6 ⟨a6, c6, rfl, hr6, hb⟩
  have HT16 := Lib.hid (HT15.out.below hb)
  have HT26 := Lib.hid (HT25.out.below hb)
  have HT36 := Lib.hid (HT35.out.below hb)
  have HB6 := Lib.hid (HB5.out.trans (hb.mono HB5.out.size))
  clear hb HT15 HT25 HT35 HB5
  clear hr6
  go_wp2_with fail
  refine (busy_run (some ⟨b', off, none⟩) 2 c2 [⟨5, 0, 2, 0, 0⟩, ⟨0, 1, 1, 0, 0⟩] [0, 1] L.ex7 w6 HT26.out (by omega)).mono ?_
  rintro e w7 ⟨a7, c7, rfl, hr7, hb⟩
  have HT17 := Lib.hid (HT16.out.below hb)
  have HT27 := Lib.hid (HT26.out.below hb)
  have HT37 := Lib.hid (HT36.out.below hb)
  have HB7 := Lib.hid (HB6.out.trans (hb.mono HB6.out.size))
  clear hb HT16 HT26 HT36 HB6
  clear hr7
  go_wp2_with fail
  refine (same_any (some ⟨b', off, none⟩) (some ⟨b', off, none⟩) 2 2 c2 c2 [⟨5, 0, 2, 0, 0⟩, ⟨0, 1, 1, 0, 0⟩] [⟨5, 0, 2, 0, 0⟩, ⟨0, 1, 1, 0, 0⟩] w7 HT27.out HT27.out (by omega) true (by decide +kernel)).mono ?_
  rintro e w8 ⟨rfl, hb⟩
  have HT18 := Lib.hid (HT17.out.below hb)
  have HT28 := Lib.hid (HT27.out.below hb)
  have HT38 := Lib.hid (HT37.out.below hb)
  have HB8 := Lib.hid (HB7.out.trans (hb.mono HB7.out.size))
  clear hb HT17 HT27 HT37 HB7
  go_wp2_with fail
  refine (sameHeld_any a3 a3 1 1 c3 c3 [⟨0, 3, 9⟩] [⟨0, 3, 9⟩] w8 HT38.out HT38.out (by omega) true (by decide +kernel)).mono ?_
  rintro e w9 ⟨rfl, hb⟩
  have HT19 := Lib.hid (HT18.out.below hb)
  have HT29 := Lib.hid (HT28.out.below hb)
  have HT39 := Lib.hid (HT38.out.below hb)
  have HB9 := Lib.hid (HB8.out.trans (hb.mono HB8.out.size))
  clear hb HT18 HT28 HT38 HB8
  go_wp2
  go_ret
  exact ⟨rfl, HB9.out⟩
end Go.Proofs.Ytbnhaoimdponkaa
