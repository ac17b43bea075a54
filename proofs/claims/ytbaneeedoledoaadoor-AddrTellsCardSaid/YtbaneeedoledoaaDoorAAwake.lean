/-
  The chapter's example ('awake'), in whatever world that holds the library's variables.
-/
import Derived.Test.YtbaneeedoledoaaDoorARead
import Derived.Test.YtbaneeedoledoaaDoorAText
namespace Go.Proofs.YtbaneeedoledoaaDoor
open Go.RowKit

def A.s27 : List UInt8 := [49, 48, 46, 48, 46, 48, 46, 48, 47, 50, 55]
def A.s10 : List UInt8 := [49, 48, 46, 48, 46, 48, 46, 48]
def A.s010 : List UInt8 := [48, 49, 48, 46, 48, 46, 48, 46, 49]
theorem A.dg_0 : A.dg 0 = [48] := by rw [A.dg_lt (by decide)]; rfl
theorem A.dg_10 : A.dg 10 = [49, 48] := by rw [A.dg_ge (by decide), A.dg_lt (by decide)]; rfl
theorem A.dg_27 : A.dg 27 = [50, 55] := by rw [A.dg_ge (by decide), A.dg_lt (by decide)]; rfl
theorem A.text_10 : A.text 167772160 = A.s10 := by
  unfold A.text
  show A.dg 10 ++ 46 :: (A.dg 0 ++ 46 :: (A.dg 0 ++ 46 :: A.dg 0)) = _
  rw [A.dg_0, A.dg_10]
  rfl
theorem A.textAll_27 : A.textAll 167772160 27 = A.s27 := by
  unfold A.textAll
  rw [A.text_10, A.dg_27]; rfl
theorem A.ok_27 : A.okP 167772160 27 := ⟨by decide, by decide, by decide⟩
theorem A.isP_27 : A.isP A.s27 = true ∧ A.prB A.s27 = 167772160 ∧ A.prK A.s27 = 27 := by rw [← A.textAll_27]; exact A.isP_text A.ok_27
theorem A.isA_10 : A.isA A.s10 = true ∧ A.adr A.s10 = 167772160 := by
  rw [← A.text_10]; exact ⟨A.isA_text (by decide), A.adr_text (by decide)⟩
theorem A.isA_010 : A.isA A.s010 = false ∧ A.adr A.s010 = 0 := by
  have h : A.isA A.s010 = false := A.isA_no fun a _ he => by
    unfold A.text at he
    rw [show A.s010 = [48, 49, 48] ++ 46 :: [48, 46, 48, 46, 49] from rfl] at he
    obtain ⟨h1, _⟩ := A.cut_inj he (A.dg_no _ A.no46) (by decide)
    by_cases h0 : a / 16777216 = 0
    · rw [h0, A.dg_0] at h1; cases h1
    · exact A.dg_head h0 _ h1
  exact ⟨h, (A.isA_not h).1⟩
theorem A.may_27 : A.may 167772160 27 = true := (A.may_nat 167772160 27).trans (decide_eq_true A.ok_27)
theorem A.size_27 : A.size 167772160 27 = 32 := by unfold A.size; rw [A.may_27]; rfl
theorem A.idx_27 : A.idx 167772160 27 167772160 = 0 := by unfold A.idx; rw [if_pos ⟨A.may_27, by decide, by rw [A.size_27]; decide⟩]; rfl
theorem A.txt_27 : A.txt 167772160 = A.s10 := by unfold A.txt; rw [if_pos (by decide)]; exact A.text_10
theorem A.txtAll_27 : A.txtAll 167772160 27 = A.s27 := by unfold A.txtAll; rw [A.may_27, if_pos rfl]; exact A.textAll_27
theorem A.meet_27 : A.meet 167772160 27 167772160 27 = true := by unfold A.meet; rw [A.may_27, A.idx_27]; rfl

set_option maxHeartbeats 1600000 in
theorem awake_any (w : World) (hL : Laid w) : Calls Tryd.prog 10 #[] w fun e w' => e = .returned (.bool true) ∧ Below w.heap.size w w' := by
  have HL := Lib.hid hL
  have h1 := readAll_any (str A.s27) 167772160 27 true w hL (by decide) A.isP_27.2.1 A.isP_27.2.2 A.isP_27.1
  clear hL
  go_enter Tryd.func10, Tryd.ntmps10
  go_wp2_with fail
  refine h1.mono ?_
  rintro e w1 ⟨rfl, hb1⟩
  have HB1 := Lib.hid hb1
  clear hb1 h1
  have HK2 := Lib.hid (pbox_blok w1 167772160 27)
  have HB2 := Lib.hid (HB1.out.trans ((pbox_below w1 167772160 27).mono HB1.out.size))
  have h2 := read_any (str A.s10) 167772160 true (pbox w1 167772160 27) (HL.out.below HB2.out) (by decide) A.isA_10.2 A.isA_10.1
  go_wp2_with fail
  refine h2.mono ?_
  clear h2
  rintro e w3 ⟨rfl, hb⟩
  have hk := HK2.out.below hb HK2.out.lt
  have HK3 := Lib.hid hk
  have k0 := pb0 hk
  have k1 := pb1 hk
  have HB3 := Lib.hid (HB2.out.trans (hb.mono HB2.out.size))
  clear hb hk
  go_wp2_with fail
  refine (read_any (str A.s010) 0 false w3 (HL.out.below HB3.out) (by decide) A.isA_010.2 A.isA_010.1).mono ?_
  clear k0 k1
  rintro e w4 ⟨rfl, hb⟩
  have hk := HK3.out.below hb HK3.out.lt
  have HK4 := Lib.hid hk
  have k0 := pb0 hk
  have k1 := pb1 hk
  have HB4 := Lib.hid (HB3.out.trans (hb.mono HB3.out.size))
  clear hb hk
  go_wp2_with fail
  refine (size_any 167772160 27 32 w4 A.size_27).mono ?_
  clear k0 k1
  rintro e w5 ⟨rfl, hb⟩
  have hk := HK4.out.below hb HK4.out.lt
  have HK5 := Lib.hid hk
  have k0 := pb0 hk
  have k1 := pb1 hk
  have HB5 := Lib.hid (HB4.out.trans (hb.mono HB4.out.size))
  clear hb hk
  go_wp2_with fail
  refine (may_any 167772160 27 true w5 A.may_27).mono ?_
  clear k0 k1
  rintro e w6 ⟨rfl, hb⟩
  have hk := HK5.out.below hb HK5.out.lt
  have HK6 := Lib.hid hk
  have k0 := pb0 hk
  have k1 := pb1 hk
  have HB6 := Lib.hid (HB5.out.trans (hb.mono HB5.out.size))
  clear hb hk
  go_wp2_with fail
  refine (idx_any 167772160 27 167772160 0 w6 A.idx_27 (by decide)).mono ?_
  clear k0 k1
  rintro e w7 ⟨rfl, hb⟩
  have hk := HK6.out.below hb HK6.out.lt
  have HK7 := Lib.hid hk
  have k0 := pb0 hk
  have k1 := pb1 hk
  have HB7 := Lib.hid (HB6.out.trans (hb.mono HB6.out.size))
  clear hb hk
  go_wp2_with fail
  refine (text_any 167772160 A.s10 w7 (HL.out.below HB7.out) A.txt_27).mono ?_
  have e10 : (str A.s10).toList = [49, 48, 46, 48, 46, 48, 46, 48] := by rw [ByteArray.toList_eq]; rfl
  clear k0 k1
  rintro e w8 ⟨rfl, hb⟩
  have hk := HK7.out.below hb HK7.out.lt
  have HK8 := Lib.hid hk
  have k0 := pb0 hk
  have k1 := pb1 hk
  have HB8 := Lib.hid (HB7.out.trans (hb.mono HB7.out.size))
  clear hb hk
  go_wp2_with fail
  refine (textAll_any 167772160 27 A.s27 w8 (HL.out.below HB8.out) A.txtAll_27).mono ?_
  have e27 : (str A.s27).toList = [49, 48, 46, 48, 46, 48, 46, 48, 47, 50, 55] := by rw [ByteArray.toList_eq]; rfl
  clear e10
  clear k0 k1
  rintro e w9 ⟨rfl, hb⟩
  have hk := HK8.out.below hb HK8.out.lt
  have HK9 := Lib.hid hk
  have k0 := pb0 hk
  have k1 := pb1 hk
  have HB9 := Lib.hid (HB8.out.trans (hb.mono HB8.out.size))
  clear hb hk
  go_wp2_with fail
  refine (meet_any 167772160 27 167772160 27 true w9 A.meet_27 (by decide) (by decide)).mono ?_
  clear k0 k1
  rintro e w10 ⟨rfl, hb⟩
  have hk := HK9.out.below hb HK9.out.lt
  have HK10 := Lib.hid hk
  have k0 := pb0 hk
  have k1 := pb1 hk
  have HB10 := Lib.hid (HB9.out.trans (hb.mono HB9.out.size))
  clear hb hk
  go_wp2
  go_ret
  exact ⟨rfl, HB10.out⟩
end Go.Proofs.YtbaneeedoledoaaDoor
