/-
  The chapter's example ('awake').
-/
import Derived.Test.YtejckbnapcdhpaaOAdd
import Derived.Test.YtejckbnapcdhpaaODrain
import Derived.Test.YtejckbnapcdhpaaOSize
import Derived.Test.YtejckbnapcdhpaaOGone
import Derived.Test.YtejckbnapcdhpaaORefAdd
import Derived.Test.YtejckbnapcdhpaaORefDrain
import Derived.Test.YtejckbnapcdhpaaORefSize
import Derived.Test.YtejckbnapcdhpaaORefGone
import Derived.Test.YtejckbnapcdhpaaOSame
import Derived.Test.YtejckbnapcdhpaaOOf
import Derived.Test.YtejckbnapcdhpaaORefOf
namespace Go.Proofs.Ytejckbnapcdhpaa
open Go.RowKit

theorem O.ex1 : O.add [] 4 1 2 = ([⟨1, 2, 0⟩], 0) := by decide +kernel
theorem O.ex2 : O.drain [⟨1, 2, 0⟩] 4 0 = ([⟨1, 2, 1⟩], 0) := by decide +kernel
theorem O.ex3 : O.Sm [⟨1, 2, 0⟩] := fun x hx => by rw [List.mem_singleton.1 hx]; decide
theorem O.ex4 : O.Sm [⟨1, 2, 1⟩] := fun x hx => by rw [List.mem_singleton.1 hx]; decide
set_option maxRecDepth 100000 in
set_option maxHeartbeats 1000000 in
theorem oawake_any (w : World) :
    Calls Try.prog 10 #[] w fun e w' => e = .returned (.bool true) ∧ Below w.heap.size w w' := by
  have HB0 := Lib.hid (Below.refl w.heap.size w)
  go_enter Try.func10, Try.ntmps10
  go_wp2_with fail
  refine (add_is none 0 0 [] 4 1 2 [⟨1, 2, 0⟩] 1 0 w (QIn.nil w) (by omega) (by intro x hx; cases hx) (by omega) O.ex1 rfl).mono ?_
  rintro e w1 ⟨a1, c1, rfl, ht1, hb⟩
  have HB1 := Lib.hid (HB0.out.trans (hb.mono HB0.out.size))
  clear hb HB0
  have HT11 := ht1
  clear ht1
  go_wp2_with fail
  refine (drain_is a1 1 c1 [⟨1, 2, 0⟩] 4 0 [⟨1, 2, 1⟩] 1 0 w1 HT11.out (by omega) O.ex3 O.ex2 rfl).mono ?_
  rintro e w2 ⟨a2, c2, rfl, ht2, hb⟩
  have HT12 := Lib.hid (HT11.out.below hb)
  have HB2 := Lib.hid (HB1.out.trans (hb.mono HB1.out.size))
  clear hb HT11 HB1
  have HT22 := ht2
  clear ht2
  go_wp2_with fail
  refine (of_any a1 1 c1 [⟨1, 2, 0⟩] 1 0 (by decide +kernel) w2 HT12.out (by omega)).mono ?_
  rintro e w3 ⟨rfl, hb⟩
  have HT13 := Lib.hid (HT12.out.below hb)
  have HT23 := Lib.hid (HT22.out.below hb)
  have HB3 := Lib.hid (HB2.out.trans (hb.mono HB2.out.size))
  clear hb HT12 HT22 HB2
  go_wp2_with fail
  refine (of_any a1 1 c1 [⟨1, 2, 0⟩] 2 0 (by decide +kernel) w3 HT13.out (by omega)).mono ?_
  rintro e w4 ⟨rfl, hb⟩
  have HT14 := Lib.hid (HT13.out.below hb)
  have HT24 := Lib.hid (HT23.out.below hb)
  have HB4 := Lib.hid (HB3.out.trans (hb.mono HB3.out.size))
  clear hb HT13 HT23 HB3
  go_wp2_with fail
  refine (of_any a1 1 c1 [⟨1, 2, 0⟩] 3 (-1) (by decide +kernel) w4 HT14.out (by omega)).mono ?_
  rintro e w5 ⟨rfl, hb⟩
  have HT15 := Lib.hid (HT14.out.below hb)
  have HT25 := Lib.hid (HT24.out.below hb)
  have HB5 := Lib.hid (HB4.out.trans (hb.mono HB4.out.size))
  clear hb HT14 HT24 HB4
  go_wp2_with fail
  refine (gives_any a1 1 c1 [⟨1, 2, 0⟩] 2 true (by decide +kernel) w5 HT15.out (by omega)).mono ?_
  rintro e w6 ⟨rfl, hb⟩
  have HT16 := Lib.hid (HT15.out.below hb)
  have HT26 := Lib.hid (HT25.out.below hb)
  have HB6 := Lib.hid (HB5.out.trans (hb.mono HB5.out.size))
  clear hb HT15 HT25 HB5
  go_wp2_with fail
  refine (gives_any a2 1 c2 [⟨1, 2, 1⟩] 2 false (by decide +kernel) w6 HT26.out (by omega)).mono ?_
  rintro e w7 ⟨rfl, hb⟩
  have HT17 := Lib.hid (HT16.out.below hb)
  have HT27 := Lib.hid (HT26.out.below hb)
  have HB7 := Lib.hid (HB6.out.trans (hb.mono HB6.out.size))
  clear hb HT16 HT26 HB6
  go_wp2_with fail
  refine (may_any a2 1 c2 [⟨1, 2, 1⟩] 4 true (by decide +kernel) w7 HT27.out (by omega) O.ex4).mono ?_
  rintro e w8 ⟨rfl, hb⟩
  have HT18 := Lib.hid (HT17.out.below hb)
  have HT28 := Lib.hid (HT27.out.below hb)
  have HB8 := Lib.hid (HB7.out.trans (hb.mono HB7.out.size))
  clear hb HT17 HT27 HB7
  go_wp2_with fail
  refine (sameO_any a1 a1 1 1 c1 c1 [⟨1, 2, 0⟩] [⟨1, 2, 0⟩] w8 HT18.out HT18.out (by omega) true (by decide +kernel)).mono ?_
  rintro e w9 ⟨rfl, hb⟩
  have HT19 := Lib.hid (HT18.out.below hb)
  have HT29 := Lib.hid (HT28.out.below hb)
  have HB9 := Lib.hid (HB8.out.trans (hb.mono HB8.out.size))
  clear hb HT18 HT28 HB8
  go_wp2_with fail
  refine (sameO_any a1 a2 1 1 c1 c2 [⟨1, 2, 0⟩] [⟨1, 2, 1⟩] w9 HT19.out HT29.out (by omega) false (by decide +kernel)).mono ?_
  rintro e w10 ⟨rfl, hb⟩
  have HT110 := Lib.hid (HT19.out.below hb)
  have HT210 := Lib.hid (HT29.out.below hb)
  have HB10 := Lib.hid (HB9.out.trans (hb.mono HB9.out.size))
  clear hb HT19 HT29 HB9
  go_wp2
  go_ret
  exact ⟨rfl, HB10.out⟩
end Go.Proofs.Ytejckbnapcdhpaa
