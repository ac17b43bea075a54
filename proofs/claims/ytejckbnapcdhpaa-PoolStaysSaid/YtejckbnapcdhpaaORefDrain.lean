/-
  The document's Drain.
-/
import Derived.Test.YtejckbnapcdhpaaORefM
namespace Go.Proofs.Ytejckbnapcdhpaa
open Go.RowKit

set_option maxRecDepth 100000 in
set_option maxHeartbeats 600000 in
theorem refDrain_is (a : Option Addr) (n c : Nat) (l : List O.Pl) (out k : Int) (l2 : List O.Pl) (n2 : Nat) (er : Int) (w : World) (h : QIn w a n c l) (hn : n ≤ 800) (hs : O.drain l out k = (l2, er)) (h2 : l2.length = n2) :
    Calls Try.prog 14 #[.slice a n c, .int .i64 out, .int .i64 k] w fun e w' => ∃ a2 c2, e = .returned (.tuple #[.slice a2 n2 c2, .int .i64 er]) ∧ Hid (QIn w' a2 n2 c2 l2) ∧ Below w.heap.size w w' := by
  have HT := Lib.hid h
  have hl := h.1
  have HB0 := Lib.hid (Below.refl w.heap.size w)
  clear h
  obtain ⟨pm, hpm⟩ : ∃ b, O.may l out = b := ⟨_, rfl⟩
  have HM := Lib.hid hpm
  by_cases hsk : O.seek l out k = 0
  · have hpm' := (O.seek_ok.1 hsk).1
    obtain rfl : pm = true := by rw [← hpm]; exact hpm'
    have hmay := O.may_iff.1 hpm
    obtain ⟨m, rfl⟩ : ∃ m : Nat, k = m := ⟨k.toNat, by have := (O.seek_ok.1 hsk).2.1; omega⟩
    have hm : m < n := by have := (O.seek_ok.1 hsk).2.2; omega
    have hx := List.getElem?_eq_getElem (show m < l.length by omega)
    obtain ⟨x, hxl⟩ : ∃ x, l[m]'(by omega) = x := ⟨_, rfl⟩
    rw [hxl] at hx
    have hat := O.at_some hx
    have HX := Lib.hid hx
    have m0 : (0 : Int) ≤ m := by omega
    have m1 : (m : Int) < n := by omega
    have r1 : decide ((m : Int) < 0) = false := by simp
    have r2 : decide ((n : Int) ≤ m) = false := by simp; omega
    clear hpm' hpm hxl
    have hs1 := O.drain_yes hsk
    rw [hs, hat] at hs1
    clear hs hmay
    by_cases hp2 : x.s = 1
    · have e1 : (x.s == 1) = true := by rw [hp2]; rfl
      rw [if_pos hp2] at hs1
      obtain ⟨rfl, rfl⟩ := Prod.mk.inj hs1.symm
      obtain rfl : n = n2 := by rw [← h2, hl]
      clear hs1 h2 hl hsk
      clear hat hp2
      go_enter Try.func14, Try.ntmps14
      go_wp2_with fail
      refine (refMay_any a n c l out true HM.out w (HT.out.below HB0.out) (by omega)).mono ?_
      rintro e w1 ⟨rfl, hb⟩
      have HB1 := Lib.hid (HB0.out.trans (hb.mono HB0.out.size))
      clear hb
      obtain ⟨b, off, y, hay, hbl, hxy, p0, p1, p2⟩ := (HT.out.below HB1.out).at hm
      obtain rfl : x = y := by have := HX.out; rw [hxy] at this; exact (Option.some.inj this).symm
      cases hay
      clear hxy hbl
      have HQR := Lib.hid (HT.out.below HB1.out)
      go_wp2
      go_ret2
      exact ⟨_, _, rfl, HQR, HB1.out⟩
    · have e1 : (x.s == 1) = false := by simpa using hp2
      rw [if_neg hp2] at hs1
      obtain ⟨hl2, rfl⟩ := Prod.mk.inj hs1.symm
      have HL2 : Hid (l.set m { x with s := 1 } = l2) := Lib.hid hl2
      have H2 := Lib.hid h2
      clear hs1 h2 hl hp2 hsk hl2 hat
      go_enter Try.func14, Try.ntmps14
      go_wp2_with fail
      refine (refMay_any a n c l out true HM.out w (HT.out.below HB0.out) (by omega)).mono ?_
      rintro e w1 ⟨rfl, hb⟩
      have HB1 := Lib.hid (HB0.out.trans (hb.mono HB0.out.size))
      clear hb
      obtain ⟨b, off, y, hay, hbl, hxy, p0, p1, p2⟩ := (HT.out.below HB1.out).at hm
      obtain rfl : x = y := by have := HX.out; rw [hxy] at this; exact (Option.some.inj this).symm
      cases hay
      clear hxy hbl
      have FT : Hid (QIn w1 (some ⟨b, off, none⟩) n c l) := Lib.hid (HT.out.below HB1.out)
      go_upto_region 8 with fail
      clear p0 p1 p2
      go_upto_region 9 with (at_builtin; (refine wpList_appendOs rfl (.const (.slice none 0 0)) (.tmp 32) rfl w1.heap.size _ 0 [] rfl (World.ownsRow_nil _ _ _ _) (some ⟨b, off, none⟩) n c l rfl FT.out (by omega) (Nat.le_refl _) ?_; intro v8 w8 hown8 hgrow8; rw [Nat.zero_add] at hown8; have HO8 : Hid (w8.ownsRow w1.heap.size 37 3 v8 n (O.flat l)) := Lib.hid (by simpa using hown8); have HG8 := Lib.hid hgrow8; clear hown8 hgrow8))
      obtain ⟨g, cap, rfl⟩ : ∃ g cap, v8 = .slice (some ⟨g, 0, none⟩) n cap := by
        rcases HO8.out.2 with ⟨rfl, h0⟩ | ⟨g, cap, _, rfl, _⟩
        · omega
        · exact ⟨g, cap, rfl⟩
      have hj : m * 3 + 2 < n * 3 := by omega
      have hcell : w8.cell? ⟨g, m * 3 + 2, none⟩ = some (.int .i64 x.s) := by rw [HO8.out.cellAt _ hj]; exact (O.flat_at l m x HX.out).2.2
      have hfz := HO8.out.frozenAt (m * 3 + 2)
      have hst := HO8.out.stored (m * 3 + 2) (.int .i64 1)
      rw [O.flat_set2 (v := 1) HX.out] at hst
      have HST := Lib.hid hst
      clear hst
      obtain ⟨w9, hw9⟩ : ∃ W, w8.setCell ⟨g, m * 3 + 2, none⟩ (.int .i64 1) = W := ⟨_, rfl⟩
      have HB9 : Hid (Below w.heap.size w w9) := Lib.hid (by rw [← hw9]; exact HB1.out.trans (((O.none_below HG8.out).grown HST.out.2 HG8.out.size (fun i hi => by cases hi; exact (HO8.out.lt g rfl).1)).mono HB1.out.size))
      have HO9 : Hid (w9.ownsRow w1.heap.size 37 3 (.slice (some ⟨g, 0, none⟩) n cap) n (O.flat l2)) := Lib.hid (by rw [← hw9, ← HL2.out]; exact HST.out.1)
      have hcap : n ≤ cap := by
        obtain ⟨a3, c3, he, ht3⟩ := own_pools HO8.out HT.out.1
        cases he; exact ht3.2.1.1
      obtain ⟨a3, c3, he, ht3⟩ := own_pools HO9.out (by rw [← HL2.out, List.length_set, HT.out.1])
      have HT3 : Hid (QIn w9 (some ⟨g, 0, none⟩) n cap l2) := Lib.hid (by cases he; exact ht3)
      have hn2 : n = n2 := by rw [← H2.out, ← HL2.out, List.length_set, HT.out.1]
      clear he ht3
      go_wp2
      go_ret2
      subst hn2
      try rw [hw9]
      exact ⟨_, _, rfl, HT3, HB9.out⟩
  · have hs1 := O.drain_no (l := l) (out := out) (k := k) hsk
    rw [hs] at hs1
    obtain ⟨rfl, he⟩ := Prod.mk.inj hs1.symm
    obtain rfl : n = n2 := by rw [← h2, hl]
    have HE := Lib.hid he
    clear hs hs1 h2
    by_cases hp1 : pm = false
    · subst hp1
      obtain rfl : (1 : Int) = er := by rw [← HE.out]; unfold O.seek; rw [if_pos hpm]
      clear hpm hl hsk HE he
      go_enter Try.func14, Try.ntmps14
      go_wp2_with fail
      refine (refMay_any a n c l out false HM.out w (HT.out.below HB0.out) (by omega)).mono ?_
      rintro e w1 ⟨rfl, hb⟩
      have HB1 := Lib.hid (HB0.out.trans (hb.mono HB0.out.size))
      clear hb
      have HQR := Lib.hid (HT.out.below HB1.out)
      go_wp2
      go_ret2
      exact ⟨_, _, rfl, HQR, HB1.out⟩
    · obtain rfl : pm = true := by simpa using hp1
      have hr : k < 0 ∨ (n : Int) ≤ k := by
        rw [← hl]
        refine Decidable.byContradiction fun h => hsk ?_
        unfold O.seek; rw [if_neg (by rw [hpm]; decide), if_neg h]
      obtain rfl : (5 : Int) = er := by rw [← HE.out]; unfold O.seek; rw [if_neg (by rw [hpm]; decide), if_pos (by rw [hl]; exact hr)]
      clear hpm hl hsk HE he hp1
      by_cases hk : k < 0
      · have r1 : decide (k < 0) = true := by simpa using hk
        clear hr
        go_enter Try.func14, Try.ntmps14
        go_wp2_with fail
        refine (refMay_any a n c l out true HM.out w (HT.out.below HB0.out) (by omega)).mono ?_
        rintro e w1 ⟨rfl, hb⟩
        have HB1 := Lib.hid (HB0.out.trans (hb.mono HB0.out.size))
        clear hb
        have HQR := Lib.hid (HT.out.below HB1.out)
        go_wp2
        go_ret2
        exact ⟨_, _, rfl, HQR, HB1.out⟩
      · have r1 : decide (k < 0) = false := by simpa using hk
        have r2 : decide ((n : Int) ≤ k) = true := decide_eq_true (hr.resolve_left hk)
        clear hr
        go_enter Try.func14, Try.ntmps14
        go_wp2_with fail
        refine (refMay_any a n c l out true HM.out w (HT.out.below HB0.out) (by omega)).mono ?_
        rintro e w1 ⟨rfl, hb⟩
        have HB1 := Lib.hid (HB0.out.trans (hb.mono HB0.out.size))
        clear hb
        have HQR := Lib.hid (HT.out.below HB1.out)
        go_wp2
        go_ret2
        exact ⟨_, _, rfl, HQR, HB1.out⟩
end Go.Proofs.Ytejckbnapcdhpaa
