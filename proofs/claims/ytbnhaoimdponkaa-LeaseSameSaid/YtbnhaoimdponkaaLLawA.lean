/-
  LeaseSame.
-/
import Derived.Test.YtbnhaoimdponkaaLSrt
import Derived.Test.YtbnhaoimdponkaaLRefSame
namespace Go.Proofs.Ytbnhaoimdponkaa
open Go.RowKit

set_option maxRecDepth 100000 in
set_option maxHeartbeats 1000000 in
theorem LeaseSame_in (a0 : Option Addr) (n0 c0 : Nat) (l0 : List L.Ls) (a1 : Option Addr) (n1 c1 : Nat) (l1 : List L.Ls) (a2 : Option Addr) (n2 c2 : Nat) (l2 : List L.T3) (a3 : Option Addr) (n3 c3 : Nat) (l3 : List L.T3) (w : World) (h0 : RIn w a0 n0 c0 l0) (h1 : RIn w a1 n1 c1 l1) (h2 : RIn w a2 n2 c2 l2) (h3 : RIn w a3 n3 c3 l3) :
    Calls Try.prog 3 #[.slice a0 n0 c0, .slice a1 n1 c1, .slice a2 n2 c2, .slice a3 n3 c3] w fun e w' => e = .returned (.bool true) ∧ Below w.heap.size w w' := by
  have HT00 := Lib.hid h0
  have HT10 := Lib.hid h1
  have HT20 := Lib.hid h2
  have HT30 := Lib.hid h3
  clear h0 h1 h2 h3
  have HB0 := Lib.hid (Below.refl w.heap.size w)
  obtain ⟨f1, hf1⟩ : ∃ b, (decide (n0 ≤ 40) && decide (n2 ≤ 40)) = b := ⟨_, rfl⟩
  obtain ⟨f2, hf2⟩ : ∃ b, (decide (n1 ≤ 40) && decide (n3 ≤ 40)) = b := ⟨_, rfl⟩
  obtain ⟨s1, hs1⟩ : ∃ b, decide (l0 = l1) = b := ⟨_, rfl⟩
  obtain ⟨s2, hs2⟩ : ∃ b, decide (l2 = l3) = b := ⟨_, rfl⟩
  have HF1 := Lib.hid hf1
  have HF2 := Lib.hid hf2
  have HS1 := Lib.hid hs1
  have HS2 := Lib.hid hs2
  clear hf1 hf2 hs1 hs2
  go_enter Try.func3, Try.ntmps3
  go_wp2_with fail
  refine (lawake_any w).mono ?_
  rintro e w1 ⟨rfl, hb⟩
  have HT01 := Lib.hid (HT00.out.below hb)
  have HT11 := Lib.hid (HT10.out.below hb)
  have HT21 := Lib.hid (HT20.out.below hb)
  have HT31 := Lib.hid (HT30.out.below hb)
  have HB1 := Lib.hid (HB0.out.trans (hb.mono HB0.out.size))
  clear hb HT00 HT10 HT20 HT30 HB0
  go_wp2_with fail
  refine (few_any a0 a2 n0 n2 c0 c2 f1 HF1.out w1).mono ?_
  rintro e w2 ⟨rfl, hb⟩
  have HT02 := Lib.hid (HT01.out.below hb)
  have HT12 := Lib.hid (HT11.out.below hb)
  have HT22 := Lib.hid (HT21.out.below hb)
  have HT32 := Lib.hid (HT31.out.below hb)
  have HB2 := Lib.hid (HB1.out.trans (hb.mono HB1.out.size))
  clear hb HT01 HT11 HT21 HT31 HB1
  go_wp2_with fail
  refine (few_any a1 a3 n1 n3 c1 c3 f2 HF2.out w2).mono ?_
  rintro e w3 ⟨rfl, hb⟩
  have HT03 := Lib.hid (HT02.out.below hb)
  have HT13 := Lib.hid (HT12.out.below hb)
  have HT23 := Lib.hid (HT22.out.below hb)
  have HT33 := Lib.hid (HT32.out.below hb)
  have HB3 := Lib.hid (HB2.out.trans (hb.mono HB2.out.size))
  clear hb HT02 HT12 HT22 HT32 HB2
  by_cases hff : f1 = true ∧ f2 = true
  · obtain ⟨rfl, rfl⟩ := hff
    have hn0 : n0 ≤ 40 := by have := HF1.out; simp at this; exact this.1
    have hn2 : n2 ≤ 40 := by have := HF1.out; simp at this; exact this.2
    have hn1 : n1 ≤ 40 := by have := HF2.out; simp at this; exact this.1
    have hn3 : n3 ≤ 40 := by have := HF2.out; simp at this; exact this.2
    cases s1 <;> cases s2 <;> (
      go_wp2_with fail
      refine (refSame_any a0 a1 n0 n1 c0 c1 l0 l1 w3 HT03.out HT13.out (by omega) _ HS1.out).mono ?_
      rintro e w4 ⟨rfl, hb⟩
      have HT04 := Lib.hid (HT03.out.below hb)
      have HT14 := Lib.hid (HT13.out.below hb)
      have HT24 := Lib.hid (HT23.out.below hb)
      have HT34 := Lib.hid (HT33.out.below hb)
      have HB4 := Lib.hid (HB3.out.trans (hb.mono HB3.out.size))
      clear hb HT03 HT13 HT23 HT33 HB3
      go_wp2_with fail
      refine (refSameHeld_any a2 a3 n2 n3 c2 c3 l2 l3 w4 HT24.out HT34.out (by omega) _ HS2.out).mono ?_
      rintro e w5 ⟨rfl, hb⟩
      have HT05 := Lib.hid (HT04.out.below hb)
      have HT15 := Lib.hid (HT14.out.below hb)
      have HT25 := Lib.hid (HT24.out.below hb)
      have HT35 := Lib.hid (HT34.out.below hb)
      have HB5 := Lib.hid (HB4.out.trans (hb.mono HB4.out.size))
      clear hb HT04 HT14 HT24 HT34 HB4
      go_wp2_with fail
      refine (same_any a0 a1 n0 n1 c0 c1 l0 l1 w5 HT05.out HT15.out (by omega) _ HS1.out).mono ?_
      rintro e w6 ⟨rfl, hb⟩
      have HT06 := Lib.hid (HT05.out.below hb)
      have HT16 := Lib.hid (HT15.out.below hb)
      have HT26 := Lib.hid (HT25.out.below hb)
      have HT36 := Lib.hid (HT35.out.below hb)
      have HB6 := Lib.hid (HB5.out.trans (hb.mono HB5.out.size))
      clear hb HT05 HT15 HT25 HT35 HB5
      go_wp2_with fail
      refine (sameHeld_any a2 a3 n2 n3 c2 c3 l2 l3 w6 HT26.out HT36.out (by omega) _ HS2.out).mono ?_
      rintro e w7 ⟨rfl, hb⟩
      have HT07 := Lib.hid (HT06.out.below hb)
      have HT17 := Lib.hid (HT16.out.below hb)
      have HT27 := Lib.hid (HT26.out.below hb)
      have HT37 := Lib.hid (HT36.out.below hb)
      have HB7 := Lib.hid (HB6.out.trans (hb.mono HB6.out.size))
      clear hb HT06 HT16 HT26 HT36 HB6
      go_wp2_with fail
      refine (same_any a0 a0 n0 n0 c0 c0 l0 l0 w7 HT07.out HT07.out (by omega) true (decide_eq_true rfl)).mono ?_
      rintro e w8 ⟨rfl, hb⟩
      have HT08 := Lib.hid (HT07.out.below hb)
      have HT18 := Lib.hid (HT17.out.below hb)
      have HT28 := Lib.hid (HT27.out.below hb)
      have HT38 := Lib.hid (HT37.out.below hb)
      have HB8 := Lib.hid (HB7.out.trans (hb.mono HB7.out.size))
      clear hb HT07 HT17 HT27 HT37 HB7
      go_wp2_with fail
      refine (sameHeld_any a3 a3 n3 n3 c3 c3 l3 l3 w8 HT38.out HT38.out (by omega) true (decide_eq_true rfl)).mono ?_
      rintro e w9 ⟨rfl, hb⟩
      have HT09 := Lib.hid (HT08.out.below hb)
      have HT19 := Lib.hid (HT18.out.below hb)
      have HT29 := Lib.hid (HT28.out.below hb)
      have HT39 := Lib.hid (HT38.out.below hb)
      have HB9 := Lib.hid (HB8.out.trans (hb.mono HB8.out.size))
      clear hb HT08 HT18 HT28 HT38 HB8
      go_wp2
      go_ret
      exact ⟨rfl, HB9.out⟩)
  · cases f1 <;> cases f2 <;> first | exact absurd ⟨rfl, rfl⟩ hff | (
      go_wp2
      go_ret
      exact ⟨rfl, HB3.out⟩)
end Go.Proofs.Ytbnhaoimdponkaa
