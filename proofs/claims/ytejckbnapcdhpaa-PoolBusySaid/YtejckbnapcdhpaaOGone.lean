/-
  pool.Gone, its answer as letters.
-/
import Derived.Test.YtejckbnapcdhpaaODo
import Derived.Test.YtejckbnapcdhpaaOLose
namespace Go.Proofs.Ytejckbnapcdhpaa
open Go.RowKit

set_option maxRecDepth 100000 in
set_option maxHeartbeats 600000 in
theorem gone_is (a : Option Addr) (n c : Nat) (l : List O.Pl) (out k : Int) (ab : Option Addr) (nb cb : Nat) (bs : List Int) (l2 : List O.Pl) (n2 : Nat) (er : Int) (w : World) (h : QIn w a n c l) (hn : n ≤ 800) (hz : O.Sm l) (hu : BIn w ab nb cb bs) (hnb : nb ≤ 1000000) (hs : O.gone l out k bs = (l2, er)) (h2 : l2.length = n2) :
    Calls Try.prog 17 #[.slice a n c, .int .i64 out, .int .i64 k, .slice ab nb cb] w fun e w' => ∃ a2 c2, e = .returned (.tuple #[.slice a2 n2 c2, .int .i64 er]) ∧ Hid (QIn w' a2 n2 c2 l2) ∧ Below w.heap.size w w' := by
  have HT := Lib.hid h
  have hl := h.1
  have HB0 := Lib.hid (Below.refl w.heap.size w)
  have HU := Lib.hid hu
  have HZ := Lib.hid hz
  obtain ⟨sk, hsk⟩ : ∃ s, O.seek l out k = s := ⟨_, rfl⟩
  have HSK := Lib.hid hsk
  clear h hz hu
  by_cases hp1 : sk = 0
  · subst hp1
    have hsk' := O.seek_ok.1 hsk
    have hmay := O.may_iff.1 hsk'.1
    have hout : 0 ≤ out ∧ out ≤ 4 := ⟨hmay.1, hmay.2.1⟩
    obtain ⟨m, rfl⟩ : ∃ m : Nat, k = m := ⟨k.toNat, by omega⟩
    have hm : m < n := by omega
    have hx := List.getElem?_eq_getElem (show m < l.length by omega)
    obtain ⟨x, hxl⟩ : ∃ x, l[m]'(by omega) = x := ⟨_, rfl⟩
    rw [hxl] at hx
    have hat := O.at_some hx
    have HX := Lib.hid hx
    have m0 : (0 : Int) ≤ m := by omega
    have m1 : (m : Int) < n := by omega
    have hs1 := O.gone_yes (busy := bs) hsk
    rw [hs, hat] at hs1
    clear hsk' hmay hout hxl hx hs hat
    obtain ⟨u, hu⟩ : ∃ u, O.loses x O.zp bs = u := ⟨_, rfl⟩
    have HLO := Lib.hid hu
    by_cases hp2 : x.s = 0
    · have e1 : (x.s == 0) = true := by rw [hp2]; rfl
      rw [if_pos (.inl hp2)] at hs1
      obtain ⟨rfl, rfl⟩ := Prod.mk.inj hs1.symm
      obtain rfl : n = n2 := by rw [← h2, hl]
      clear hs1 h2 hl hp2 hsk hu
      go_enter Try.func17, Try.ntmps17
      go_wp2_with fail
      refine (seek_is a n c l out m 0 w (HT.out.below HB0.out) hn HZ.out HSK.out).mono ?_
      rintro e w1 ⟨rfl, hb⟩
      have HB1 := Lib.hid (HB0.out.trans (hb.mono HB0.out.size))
      clear hb
      obtain ⟨b, off, y, hay, hbl, hxy, p0, p1, p2⟩ := (HT.out.below HB1.out).at hm
      obtain rfl : x = y := by have := HX.out; rw [hxy] at this; exact (Option.some.inj this).symm
      cases hay
      clear hxy hbl
      go_wp2_with fail
      refine (clone_is (some ⟨b, off, none⟩) n c l w1 (HT.out.below HB1.out) hn).mono ?_
      clear p0 p1 p2
      rintro e w2 ⟨a3, c3, rfl, ht3, hb⟩
      have HB2 := Lib.hid (HB1.out.trans (hb.mono HB1.out.size))
      clear hb
      go_wp2
      go_ret2
      exact ⟨a3, c3, rfl, ht3, HB2.out⟩
    · have e1 : (x.s == 0) = false := by simpa using hp2
      by_cases hp3 : u = true
      · subst hp3
        rw [if_pos (.inr hu)] at hs1
        obtain ⟨rfl, rfl⟩ := Prod.mk.inj hs1.symm
        obtain rfl : n = n2 := by rw [← h2, hl]
        clear hs1 h2 hl hp2 hsk hu
        go_enter Try.func17, Try.ntmps17
        go_wp2_with fail
        refine (seek_is a n c l out m 0 w (HT.out.below HB0.out) hn HZ.out HSK.out).mono ?_
        rintro e w1 ⟨rfl, hb⟩
        have HB1 := Lib.hid (HB0.out.trans (hb.mono HB0.out.size))
        clear hb
        obtain ⟨b, off, y, hay, hbl, hxy, p0, p1, p2⟩ := (HT.out.below HB1.out).at hm
        obtain rfl : x = y := by have := HX.out; rw [hxy] at this; exact (Option.some.inj this).symm
        cases hay
        clear hxy hbl
        go_wp2_with fail
        refine (loses_any x O.zp ab nb cb bs true HLO.out w1 (HU.out.below HB1.out) hnb).mono ?_
        clear p0 p1 p2
        rintro e w2 ⟨rfl, hb⟩
        have HB2 := Lib.hid (HB1.out.trans (hb.mono HB1.out.size))
        clear hb
        go_wp2_with fail
        refine (clone_is (some ⟨b, off, none⟩) n c l w2 (HT.out.below HB2.out) hn).mono ?_
        rintro e w3 ⟨a3, c3, rfl, ht3, hb⟩
        have HB3 := Lib.hid (HB2.out.trans (hb.mono HB2.out.size))
        clear hb
        go_wp2
        go_ret2
        exact ⟨a3, c3, rfl, ht3, HB3.out⟩
      · obtain rfl : u = false := by simpa using hp3
        rw [if_neg (by rw [hu]; simp [hp2])] at hs1
        obtain ⟨hl2, rfl⟩ := Prod.mk.inj hs1.symm
        have HL2 := Lib.hid hl2
        have H2 := Lib.hid h2
        clear hs1 h2 hl hp2 hsk hl2 hu hp3
        go_enter Try.func17, Try.ntmps17
        go_wp2_with fail
        refine (seek_is a n c l out m 0 w (HT.out.below HB0.out) hn HZ.out HSK.out).mono ?_
        rintro e w1 ⟨rfl, hb⟩
        have HB1 := Lib.hid (HB0.out.trans (hb.mono HB0.out.size))
        clear hb
        obtain ⟨b, off, y, hay, hbl, hxy, p0, p1, p2⟩ := (HT.out.below HB1.out).at hm
        obtain rfl : x = y := by have := HX.out; rw [hxy] at this; exact (Option.some.inj this).symm
        cases hay
        clear hxy hbl
        go_wp2_with fail
        refine (loses_any x O.zp ab nb cb bs false HLO.out w1 (HU.out.below HB1.out) hnb).mono ?_
        clear p0 p1 p2
        rintro e w2 ⟨rfl, hb⟩
        have HB2 := Lib.hid (HB1.out.trans (hb.mono HB1.out.size))
        clear hb
        go_wp2_with fail
        refine (done3_is (some ⟨b, off, none⟩) n c l m l2 n2 w2 (HT.out.below HB2.out) hn m0 HL2.out H2.out).mono ?_
        rintro e w3 ⟨a3, c3, rfl, ht3, hb⟩
        have HB3 := Lib.hid (HB2.out.trans (hb.mono HB2.out.size))
        clear hb
        go_wp2
        go_ret2
        exact ⟨a3, c3, rfl, ht3, HB3.out⟩
  · have e1 : (sk != 0) = true := by simpa using hp1
    have hs1 := O.gone_no (l := l) (out := out) (k := k) (busy := bs) (by rw [hsk]; exact hp1)
    rw [hs, hsk] at hs1
    obtain ⟨rfl, rfl⟩ := Prod.mk.inj hs1.symm
    obtain rfl : n = n2 := by rw [← h2, hl]
    clear hs hs1 h2 hl hsk hp1
    go_enter Try.func17, Try.ntmps17
    go_wp2_with fail
    refine (seek_is a n c l out k sk w (HT.out.below HB0.out) hn HZ.out HSK.out).mono ?_
    rintro e w1 ⟨rfl, hb⟩
    have HB1 := Lib.hid (HB0.out.trans (hb.mono HB0.out.size))
    clear hb
    go_wp2_with fail
    refine (clone_is a n c l w1 (HT.out.below HB1.out) hn).mono ?_
    rintro e w2 ⟨a3, c3, rfl, ht3, hb⟩
    have HB2 := Lib.hid (HB1.out.trans (hb.mono HB1.out.size))
    clear hb
    go_wp2
    go_ret2
    exact ⟨a3, c3, rfl, ht3, HB2.out⟩
end Go.Proofs.Ytejckbnapcdhpaa
