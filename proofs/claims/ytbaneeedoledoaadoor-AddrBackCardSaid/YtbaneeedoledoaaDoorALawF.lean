/-
  AddrBack, at every address, prefix and text.
-/
import Derived.Test.YtbaneeedoledoaaDoorAAwake
import Derived.Test.YtbaneeedoledoaaDoorALawD
namespace Go.Proofs.YtbaneeedoledoaaDoor
open Go.RowKit

theorem addr_three {a : Int} {t : ByteArray} (ht : A.txt a = t.data.toList) : ∃ v : Nat, A.adr t.data.toList = v ∧ ((A.isA t.data.toList = true ∧ (v : Int) = a ∧ decide (0 ≤ a) = true ∧ decide (a < 4294967296) = true) ∨ (A.isA t.data.toList = false ∧ decide (0 ≤ a) = false) ∨ (A.isA t.data.toList = false ∧ decide (0 ≤ a) = true ∧ decide (a < 4294967296) = false)) := by
  refine ⟨_, rfl, ?_⟩
  rw [← ht]
  by_cases h0 : 0 ≤ a
  · by_cases h1 : a < 4294967296
    · obtain ⟨n, rfl, hn, hx⟩ := A.txt_of h0 h1
      rw [hx]
      exact .inl ⟨A.isA_text hn, by rw [A.adr_text hn], decide_eq_true h0, decide_eq_true h1⟩
    · refine .inr (.inr ⟨?_, decide_eq_true h0, decide_eq_false h1⟩)
      have : A.txt a = [] := by unfold A.txt; rw [if_neg (fun h => h1 h.2)]
      rw [this]; exact A.isA_no fun a _ he => A.text_ne _ he
  · refine .inr (.inl ⟨?_, decide_eq_false h0⟩)
    have : A.txt a = [] := by unfold A.txt; rw [if_neg (fun h => h0 h.1)]
    rw [this]; exact A.isA_no fun a _ he => A.text_ne _ he
theorem A.may_okP {n j : Nat} (h : A.may n j = true) : A.okP n j := by rw [A.may_nat] at h; exact of_decide_eq_true h
theorem pre_two {b k : Int} {t : ByteArray} (ht : A.txtAll b k = t.data.toList) : ∃ x y : Nat, A.prB t.data.toList = x ∧ A.prK t.data.toList = y ∧ ((A.isP t.data.toList = true ∧ A.may b k = true ∧ Hid ((x : Int) = b ∧ (y : Int) = k)) ∨ (A.isP t.data.toList = false ∧ A.may b k = false ∧ Hid True)) := by
  refine ⟨_, _, rfl, rfl, ?_⟩
  rw [← ht]
  cases h : A.may b k
  · refine .inr ⟨?_, rfl, Lib.hid trivial⟩
    have : A.txtAll b k = [] := by unfold A.txtAll; rw [h]; rfl
    rw [this]; exact A.isP_no fun _ _ _ he => A.textAll_ne _ _ he
  · obtain ⟨n, j, rfl, rfl, hn, hj, _, _⟩ := A.txtAll_of h
    have e : A.txtAll (n : Int) (j : Int) = A.textAll n j := by unfold A.txtAll; rw [h, if_pos rfl]; rfl
    rw [e]
    have := A.isP_text (A.may_okP h)
    exact .inl ⟨this.1, rfl, Lib.hid ⟨by rw [this.2.1], by rw [this.2.2]⟩⟩
theorem text_back {s : ByteArray} (h : A.isA s.data.toList = true) (w : World) (hL : Laid w) : Calls Tryd.prog 25 #[.int .i64 (A.adr s.data.toList : Nat)] w fun e w' => e = .returned (.string s) ∧ Below w.heap.size w w' := by
  obtain ⟨h1, h2⟩ := A.isA_get h
  have := text_any (A.adr s.data.toList : Nat) _ w hL rfl
  have e : A.txt (A.adr s.data.toList : Nat) = s.data.toList := by unfold A.txt; rw [if_pos (by omega)]; exact h2
  rwa [e, str_of] at this
theorem A.pre_may {s : List UInt8} (h : A.isP s = true) : A.may (A.prB s : Nat) (A.prK s : Nat) = true := by rw [A.may_nat]; exact decide_eq_true (A.isP_get h).1
theorem textAll_back {s : ByteArray} (h : A.isP s.data.toList = true) (w : World) (hL : Laid w) : Calls Tryd.prog 27 #[.agg #[.int .i64 (A.prB s.data.toList : Nat), .int .i64 (A.prK s.data.toList : Nat)]] w fun e w' => e = .returned (.string s) ∧ Below w.heap.size w w' := by
  have := textAll_any (A.prB s.data.toList : Nat) (A.prK s.data.toList : Nat) _ w hL rfl
  have e : A.txtAll (A.prB s.data.toList : Nat) (A.prK s.data.toList : Nat) = s.data.toList := by
    unfold A.txtAll; rw [A.pre_may h, if_pos rfl]; exact (A.isP_get h).2
  rwa [e, str_of] at this

set_option maxHeartbeats 4000000 in
theorem back_in (b k a : Int) (s : ByteArray) (w : World) (hL : Laid w) :
    Calls Tryd.prog 4 #[.agg #[.int .i64 b, .int .i64 k], .int .i64 a, .string s] w fun e w' => e = .returned (.bool true) ∧ Below w.heap.size w w' := by
  have HL := Lib.hid hL
  have HB0 := Lib.hid (pbox_below w b k)
  have HKp0 := Lib.hid (pbox_blok w b k)
  by_cases hz : s.size ≤ 60
  · have dz : decide (60 < (s.size : Int)) = false := decide_eq_false (by omega)
    obtain ⟨t, ht⟩ : ∃ t, str (A.txt a) = t := ⟨_, rfl⟩
    have htd : A.txt a = t.data.toList := by rw [← ht]; rfl
    have HTt : Hid (∀ W, Laid W → Calls Tryd.prog 25 #[.int .i64 a] W fun e w' => e = .returned (.string t) ∧ Below W.heap.size W w') := Lib.hid (fun W hW => by rw [← ht]; exact text_any a _ W hW rfl)
    obtain ⟨u, hu⟩ : ∃ t, str (A.txtAll b k) = t := ⟨_, rfl⟩
    have hud : A.txtAll b k = u.data.toList := by rw [← hu]; rfl
    have HTu : Hid (∀ W, Laid W → Calls Tryd.prog 27 #[.agg #[.int .i64 b, .int .i64 k]] W fun e w' => e = .returned (.string u) ∧ Below W.heap.size W w') := Lib.hid (fun W hW => by rw [← hu]; exact textAll_any b k _ W hW rfl)
    have ht15 : t.size ≤ 15 := by
      rw [← t.size_eq_len, ← htd]
      rcases A.txt_says a with h | h
      · rw [h.1]; simp
      · exact h.2.2.2.1
    have hu18 : u.size ≤ 18 := by rw [← u.size_eq_len, ← hud]; exact A.txtAll_le b k
    obtain ⟨v, hv, hc3⟩ := addr_three htd
    obtain ⟨x, y, hx, hy, hc2⟩ := pre_two hud
    have HC3 := Lib.hid hc3
    have HC2 := Lib.hid hc2
    have HV := Lib.hid hv
    have HX := Lib.hid hx
    have HY := Lib.hid hy
    obtain ⟨v2, hv2⟩ : ∃ v2, A.adr s.data.toList = v2 := ⟨_, rfl⟩
    obtain ⟨x2, hx2⟩ : ∃ v2, A.prB s.data.toList = v2 := ⟨_, rfl⟩
    obtain ⟨y2, hy2⟩ : ∃ v2, A.prK s.data.toList = v2 := ⟨_, rfl⟩
    have HTB := Lib.hid (@text_back s)
    have HTP := Lib.hid (@textAll_back s)
    have HMP := Lib.hid (@A.pre_may s.data.toList)
    rw [hv2] at HTB
    rw [hx2, hy2] at HTP HMP
    have HV2 := Lib.hid hv2
    have HX2 := Lib.hid hx2
    have HY2 := Lib.hid hy2
    clear ht htd hu hud hv hx hy hc3 hc2 hv2 hx2 hy2
    cases hisA : A.isA s.data.toList
    · cases hisP : A.isP s.data.toList
      · have HIA := Lib.hid hisA
        have HIP := Lib.hid hisP
        clear hisA hisP
        clear hL
        go_enter Tryd.func4, Tryd.ntmps4
        go_wp2_with fail
        refine (awake_any (pbox w b k) (HL.out.below HB0.out)).mono ?_
        rintro e w1 ⟨rfl, hb⟩
        have hkp := HKp0.out.below hb HKp0.out.lt
        have HKp1 := Lib.hid hkp
        have pf0 := pb0 hkp
        have pf1 := pb1 hkp
        have HB1 := Lib.hid (HB0.out.trans (hb.mono HB0.out.size))
        clear hb hkp
        go_wp2_with fail
        refine (HTt.out w1 (HL.out.below HB1.out)).mono ?_
        clear pf0 pf1
        rintro e w2 ⟨rfl, hb⟩
        have hkp := HKp1.out.below hb HKp1.out.lt
        have HKp2 := Lib.hid hkp
        have pf0 := pb0 hkp
        have pf1 := pb1 hkp
        have HB2 := Lib.hid (HB1.out.trans (hb.mono HB1.out.size))
        clear hb hkp
        rcases HC3.out with ⟨c1, c2, c3, c4⟩ | ⟨c1, c2⟩ | ⟨c1, c2, c3⟩ <;> rcases HC2.out with ⟨e1, e2, e3⟩ | ⟨e1, e2, e3⟩
        all_goals
          go_wp2_with fail
          refine (read_any t v _ w2 (HL.out.below HB2.out) (by omega) HV.out c1).mono ?_
          clear pf0 pf1
          rintro e w3 ⟨rfl, hb⟩
          have hkp := HKp2.out.below hb HKp2.out.lt
          have HKp3 := Lib.hid hkp
          have pf0 := pb0 hkp
          have pf1 := pb1 hkp
          have HB3 := Lib.hid (HB2.out.trans (hb.mono HB2.out.size))
          clear hb hkp
          go_wp2_with fail
          refine (HTu.out w3 (HL.out.below HB3.out)).mono ?_
          clear pf0 pf1
          rintro e w4 ⟨rfl, hb⟩
          have hkp := HKp3.out.below hb HKp3.out.lt
          have HKp4 := Lib.hid hkp
          have pf0 := pb0 hkp
          have pf1 := pb1 hkp
          have HB4 := Lib.hid (HB3.out.trans (hb.mono HB3.out.size))
          clear hb hkp
          go_wp2_with fail
          refine (readAll_any u x y _ w4 (HL.out.below HB4.out) (by omega) HX.out HY.out e1).mono ?_
          clear pf0 pf1
          rintro e w5 ⟨rfl, hb⟩
          have hkp := HKp4.out.below hb HKp4.out.lt
          have HKp5 := Lib.hid hkp
          have pf0 := pb0 hkp
          have pf1 := pb1 hkp
          have HB5 := Lib.hid (HB4.out.trans (hb.mono HB4.out.size))
          clear hb hkp
          have hb := pbox_below w5 x y
          have HKp6 := Lib.hid (HKp5.out.below hb HKp5.out.lt)
          have pza0 := fun o => pb0 (HKp5.out.alloc o)
          have pza1 := fun o => pb1 (HKp5.out.alloc o)
          have HKz6 := Lib.hid (pbox_blok w5 x y)
          have HB6 := Lib.hid (HB5.out.trans (hb.mono HB5.out.size))
          clear hb
          go_wp2_with fail
          refine (may_any b k _ (pbox w5 x y) e2).mono ?_
          clear pf0 pf1 pza0 pza1
          rintro e w7 ⟨rfl, hb⟩
          have hkp := HKp6.out.below hb HKp6.out.lt
          have HKp7 := Lib.hid hkp
          have pf0 := pb0 hkp
          have pf1 := pb1 hkp
          have hkz := HKz6.out.below hb HKz6.out.lt
          have HKz7 := Lib.hid hkz
          have zf0 := pb0 hkz
          have zf1 := pb1 hkz
          have HB7 := Lib.hid (HB6.out.trans (hb.mono HB6.out.size))
          clear hb hkp hkz
          clear c1 e1 e2
          try obtain ⟨e4, e5⟩ := e3.out
          go_wp2_with fail
          refine (read_any s v2 _ w7 (HL.out.below HB7.out) (by omega) HV2.out HIA.out).mono ?_
          clear pf0 pf1 zf0 zf1
          rintro e w8 ⟨rfl, hb⟩
          have hkp := HKp7.out.below hb HKp7.out.lt
          have HKp8 := Lib.hid hkp
          have pf0 := pb0 hkp
          have pf1 := pb1 hkp
          have hkz := HKz7.out.below hb HKz7.out.lt
          have HKz8 := Lib.hid hkz
          have zf0 := pb0 hkz
          have zf1 := pb1 hkz
          have HB8 := Lib.hid (HB7.out.trans (hb.mono HB7.out.size))
          clear hb hkp hkz
          go_wp2_with fail
          refine (readAll_any s x2 y2 _ w8 (HL.out.below HB8.out) (by omega) HX2.out HY2.out HIP.out).mono ?_
          clear pf0 pf1 zf0 zf1
          rintro e w9 ⟨rfl, hb⟩
          have hkp := HKp8.out.below hb HKp8.out.lt
          have HKp9 := Lib.hid hkp
          have pf0 := pb0 hkp
          have pf1 := pb1 hkp
          have hkz := HKz8.out.below hb HKz8.out.lt
          have HKz9 := Lib.hid hkz
          have zf0 := pb0 hkz
          have zf1 := pb1 hkz
          have HB9 := Lib.hid (HB8.out.trans (hb.mono HB8.out.size))
          clear hb hkp hkz
          have hb := pbox_below w9 x2 y2
          have HKp10 := Lib.hid (HKp9.out.below hb HKp9.out.lt)
          have pra0 := fun o => pb0 (HKp9.out.alloc o)
          have pra1 := fun o => pb1 (HKp9.out.alloc o)
          have HKz10 := Lib.hid (HKz9.out.below hb HKz9.out.lt)
          have zra0 := fun o => pb0 (HKz9.out.alloc o)
          have zra1 := fun o => pb1 (HKz9.out.alloc o)
          have HKr10 := Lib.hid (pbox_blok w9 x2 y2)
          have HB10 := Lib.hid (HB9.out.trans (hb.mono HB9.out.size))
          clear hb
          go_wp2
          go_ret
          exact ⟨rfl, HB10.out⟩
      · have HIA := Lib.hid hisA
        have HIP := Lib.hid hisP
        clear hisA hisP
        clear hL
        go_enter Tryd.func4, Tryd.ntmps4
        go_wp2_with fail
        refine (awake_any (pbox w b k) (HL.out.below HB0.out)).mono ?_
        rintro e w1 ⟨rfl, hb⟩
        have hkp := HKp0.out.below hb HKp0.out.lt
        have HKp1 := Lib.hid hkp
        have pf0 := pb0 hkp
        have pf1 := pb1 hkp
        have HB1 := Lib.hid (HB0.out.trans (hb.mono HB0.out.size))
        clear hb hkp
        go_wp2_with fail
        refine (HTt.out w1 (HL.out.below HB1.out)).mono ?_
        clear pf0 pf1
        rintro e w2 ⟨rfl, hb⟩
        have hkp := HKp1.out.below hb HKp1.out.lt
        have HKp2 := Lib.hid hkp
        have pf0 := pb0 hkp
        have pf1 := pb1 hkp
        have HB2 := Lib.hid (HB1.out.trans (hb.mono HB1.out.size))
        clear hb hkp
        rcases HC3.out with ⟨c1, c2, c3, c4⟩ | ⟨c1, c2⟩ | ⟨c1, c2, c3⟩ <;> rcases HC2.out with ⟨e1, e2, e3⟩ | ⟨e1, e2, e3⟩
        all_goals
          go_wp2_with fail
          refine (read_any t v _ w2 (HL.out.below HB2.out) (by omega) HV.out c1).mono ?_
          clear pf0 pf1
          rintro e w3 ⟨rfl, hb⟩
          have hkp := HKp2.out.below hb HKp2.out.lt
          have HKp3 := Lib.hid hkp
          have pf0 := pb0 hkp
          have pf1 := pb1 hkp
          have HB3 := Lib.hid (HB2.out.trans (hb.mono HB2.out.size))
          clear hb hkp
          go_wp2_with fail
          refine (HTu.out w3 (HL.out.below HB3.out)).mono ?_
          clear pf0 pf1
          rintro e w4 ⟨rfl, hb⟩
          have hkp := HKp3.out.below hb HKp3.out.lt
          have HKp4 := Lib.hid hkp
          have pf0 := pb0 hkp
          have pf1 := pb1 hkp
          have HB4 := Lib.hid (HB3.out.trans (hb.mono HB3.out.size))
          clear hb hkp
          go_wp2_with fail
          refine (readAll_any u x y _ w4 (HL.out.below HB4.out) (by omega) HX.out HY.out e1).mono ?_
          clear pf0 pf1
          rintro e w5 ⟨rfl, hb⟩
          have hkp := HKp4.out.below hb HKp4.out.lt
          have HKp5 := Lib.hid hkp
          have pf0 := pb0 hkp
          have pf1 := pb1 hkp
          have HB5 := Lib.hid (HB4.out.trans (hb.mono HB4.out.size))
          clear hb hkp
          have hb := pbox_below w5 x y
          have HKp6 := Lib.hid (HKp5.out.below hb HKp5.out.lt)
          have pza0 := fun o => pb0 (HKp5.out.alloc o)
          have pza1 := fun o => pb1 (HKp5.out.alloc o)
          have HKz6 := Lib.hid (pbox_blok w5 x y)
          have HB6 := Lib.hid (HB5.out.trans (hb.mono HB5.out.size))
          clear hb
          go_wp2_with fail
          refine (may_any b k _ (pbox w5 x y) e2).mono ?_
          clear pf0 pf1 pza0 pza1
          rintro e w7 ⟨rfl, hb⟩
          have hkp := HKp6.out.below hb HKp6.out.lt
          have HKp7 := Lib.hid hkp
          have pf0 := pb0 hkp
          have pf1 := pb1 hkp
          have hkz := HKz6.out.below hb HKz6.out.lt
          have HKz7 := Lib.hid hkz
          have zf0 := pb0 hkz
          have zf1 := pb1 hkz
          have HB7 := Lib.hid (HB6.out.trans (hb.mono HB6.out.size))
          clear hb hkp hkz
          clear c1 e1 e2
          try obtain ⟨e4, e5⟩ := e3.out
          go_wp2_with fail
          refine (read_any s v2 _ w7 (HL.out.below HB7.out) (by omega) HV2.out HIA.out).mono ?_
          clear pf0 pf1 zf0 zf1
          rintro e w8 ⟨rfl, hb⟩
          have hkp := HKp7.out.below hb HKp7.out.lt
          have HKp8 := Lib.hid hkp
          have pf0 := pb0 hkp
          have pf1 := pb1 hkp
          have hkz := HKz7.out.below hb HKz7.out.lt
          have HKz8 := Lib.hid hkz
          have zf0 := pb0 hkz
          have zf1 := pb1 hkz
          have HB8 := Lib.hid (HB7.out.trans (hb.mono HB7.out.size))
          clear hb hkp hkz
          go_wp2_with fail
          refine (readAll_any s x2 y2 _ w8 (HL.out.below HB8.out) (by omega) HX2.out HY2.out HIP.out).mono ?_
          clear pf0 pf1 zf0 zf1
          rintro e w9 ⟨rfl, hb⟩
          have hkp := HKp8.out.below hb HKp8.out.lt
          have HKp9 := Lib.hid hkp
          have pf0 := pb0 hkp
          have pf1 := pb1 hkp
          have hkz := HKz8.out.below hb HKz8.out.lt
          have HKz9 := Lib.hid hkz
          have zf0 := pb0 hkz
          have zf1 := pb1 hkz
          have HB9 := Lib.hid (HB8.out.trans (hb.mono HB8.out.size))
          clear hb hkp hkz
          have hb := pbox_below w9 x2 y2
          have HKp10 := Lib.hid (HKp9.out.below hb HKp9.out.lt)
          have pra0 := fun o => pb0 (HKp9.out.alloc o)
          have pra1 := fun o => pb1 (HKp9.out.alloc o)
          have HKz10 := Lib.hid (HKz9.out.below hb HKz9.out.lt)
          have zra0 := fun o => pb0 (HKz9.out.alloc o)
          have zra1 := fun o => pb1 (HKz9.out.alloc o)
          have HKr10 := Lib.hid (pbox_blok w9 x2 y2)
          have HB10 := Lib.hid (HB9.out.trans (hb.mono HB9.out.size))
          clear hb
          go_wp2_with fail
          refine (HTP.out HIP.out (pbox w9 x2 y2) (HL.out.below HB10.out)).mono ?_
          clear pf0 pf1 zf0 zf1 pra0 pra1 zra0 zra1
          rintro e w11 ⟨rfl, hb⟩
          have hkp := HKp10.out.below hb HKp10.out.lt
          have HKp11 := Lib.hid hkp
          have pf0 := pb0 hkp
          have pf1 := pb1 hkp
          have hkz := HKz10.out.below hb HKz10.out.lt
          have HKz11 := Lib.hid hkz
          have zf0 := pb0 hkz
          have zf1 := pb1 hkz
          have hkr := HKr10.out.below hb HKr10.out.lt
          have HKr11 := Lib.hid hkr
          have rf0 := pb0 hkr
          have rf1 := pb1 hkr
          have HB11 := Lib.hid (HB10.out.trans (hb.mono HB10.out.size))
          clear hb hkp hkz hkr
          go_wp2_with fail
          refine (may_any x2 y2 true w11 (HMP.out HIP.out)).mono ?_
          clear pf0 pf1 zf0 zf1 rf0 rf1
          rintro e w12 ⟨rfl, hb⟩
          have hkp := HKp11.out.below hb HKp11.out.lt
          have HKp12 := Lib.hid hkp
          have pf0 := pb0 hkp
          have pf1 := pb1 hkp
          have hkz := HKz11.out.below hb HKz11.out.lt
          have HKz12 := Lib.hid hkz
          have zf0 := pb0 hkz
          have zf1 := pb1 hkz
          have hkr := HKr11.out.below hb HKr11.out.lt
          have HKr12 := Lib.hid hkr
          have rf0 := pb0 hkr
          have rf1 := pb1 hkr
          have HB12 := Lib.hid (HB11.out.trans (hb.mono HB11.out.size))
          clear hb hkp hkz hkr
          go_wp2
          go_ret
          exact ⟨rfl, HB12.out⟩
    · cases hisP : A.isP s.data.toList
      · have HIA := Lib.hid hisA
        have HIP := Lib.hid hisP
        clear hisA hisP
        clear hL
        go_enter Tryd.func4, Tryd.ntmps4
        go_wp2_with fail
        refine (awake_any (pbox w b k) (HL.out.below HB0.out)).mono ?_
        rintro e w1 ⟨rfl, hb⟩
        have hkp := HKp0.out.below hb HKp0.out.lt
        have HKp1 := Lib.hid hkp
        have pf0 := pb0 hkp
        have pf1 := pb1 hkp
        have HB1 := Lib.hid (HB0.out.trans (hb.mono HB0.out.size))
        clear hb hkp
        go_wp2_with fail
        refine (HTt.out w1 (HL.out.below HB1.out)).mono ?_
        clear pf0 pf1
        rintro e w2 ⟨rfl, hb⟩
        have hkp := HKp1.out.below hb HKp1.out.lt
        have HKp2 := Lib.hid hkp
        have pf0 := pb0 hkp
        have pf1 := pb1 hkp
        have HB2 := Lib.hid (HB1.out.trans (hb.mono HB1.out.size))
        clear hb hkp
        rcases HC3.out with ⟨c1, c2, c3, c4⟩ | ⟨c1, c2⟩ | ⟨c1, c2, c3⟩ <;> rcases HC2.out with ⟨e1, e2, e3⟩ | ⟨e1, e2, e3⟩
        all_goals
          go_wp2_with fail
          refine (read_any t v _ w2 (HL.out.below HB2.out) (by omega) HV.out c1).mono ?_
          clear pf0 pf1
          rintro e w3 ⟨rfl, hb⟩
          have hkp := HKp2.out.below hb HKp2.out.lt
          have HKp3 := Lib.hid hkp
          have pf0 := pb0 hkp
          have pf1 := pb1 hkp
          have HB3 := Lib.hid (HB2.out.trans (hb.mono HB2.out.size))
          clear hb hkp
          go_wp2_with fail
          refine (HTu.out w3 (HL.out.below HB3.out)).mono ?_
          clear pf0 pf1
          rintro e w4 ⟨rfl, hb⟩
          have hkp := HKp3.out.below hb HKp3.out.lt
          have HKp4 := Lib.hid hkp
          have pf0 := pb0 hkp
          have pf1 := pb1 hkp
          have HB4 := Lib.hid (HB3.out.trans (hb.mono HB3.out.size))
          clear hb hkp
          go_wp2_with fail
          refine (readAll_any u x y _ w4 (HL.out.below HB4.out) (by omega) HX.out HY.out e1).mono ?_
          clear pf0 pf1
          rintro e w5 ⟨rfl, hb⟩
          have hkp := HKp4.out.below hb HKp4.out.lt
          have HKp5 := Lib.hid hkp
          have pf0 := pb0 hkp
          have pf1 := pb1 hkp
          have HB5 := Lib.hid (HB4.out.trans (hb.mono HB4.out.size))
          clear hb hkp
          have hb := pbox_below w5 x y
          have HKp6 := Lib.hid (HKp5.out.below hb HKp5.out.lt)
          have pza0 := fun o => pb0 (HKp5.out.alloc o)
          have pza1 := fun o => pb1 (HKp5.out.alloc o)
          have HKz6 := Lib.hid (pbox_blok w5 x y)
          have HB6 := Lib.hid (HB5.out.trans (hb.mono HB5.out.size))
          clear hb
          go_wp2_with fail
          refine (may_any b k _ (pbox w5 x y) e2).mono ?_
          clear pf0 pf1 pza0 pza1
          rintro e w7 ⟨rfl, hb⟩
          have hkp := HKp6.out.below hb HKp6.out.lt
          have HKp7 := Lib.hid hkp
          have pf0 := pb0 hkp
          have pf1 := pb1 hkp
          have hkz := HKz6.out.below hb HKz6.out.lt
          have HKz7 := Lib.hid hkz
          have zf0 := pb0 hkz
          have zf1 := pb1 hkz
          have HB7 := Lib.hid (HB6.out.trans (hb.mono HB6.out.size))
          clear hb hkp hkz
          clear c1 e1 e2
          try obtain ⟨e4, e5⟩ := e3.out
          go_wp2_with fail
          refine (read_any s v2 _ w7 (HL.out.below HB7.out) (by omega) HV2.out HIA.out).mono ?_
          clear pf0 pf1 zf0 zf1
          rintro e w8 ⟨rfl, hb⟩
          have hkp := HKp7.out.below hb HKp7.out.lt
          have HKp8 := Lib.hid hkp
          have pf0 := pb0 hkp
          have pf1 := pb1 hkp
          have hkz := HKz7.out.below hb HKz7.out.lt
          have HKz8 := Lib.hid hkz
          have zf0 := pb0 hkz
          have zf1 := pb1 hkz
          have HB8 := Lib.hid (HB7.out.trans (hb.mono HB7.out.size))
          clear hb hkp hkz
          go_wp2_with fail
          refine (readAll_any s x2 y2 _ w8 (HL.out.below HB8.out) (by omega) HX2.out HY2.out HIP.out).mono ?_
          clear pf0 pf1 zf0 zf1
          rintro e w9 ⟨rfl, hb⟩
          have hkp := HKp8.out.below hb HKp8.out.lt
          have HKp9 := Lib.hid hkp
          have pf0 := pb0 hkp
          have pf1 := pb1 hkp
          have hkz := HKz8.out.below hb HKz8.out.lt
          have HKz9 := Lib.hid hkz
          have zf0 := pb0 hkz
          have zf1 := pb1 hkz
          have HB9 := Lib.hid (HB8.out.trans (hb.mono HB8.out.size))
          clear hb hkp hkz
          have hb := pbox_below w9 x2 y2
          have HKp10 := Lib.hid (HKp9.out.below hb HKp9.out.lt)
          have pra0 := fun o => pb0 (HKp9.out.alloc o)
          have pra1 := fun o => pb1 (HKp9.out.alloc o)
          have HKz10 := Lib.hid (HKz9.out.below hb HKz9.out.lt)
          have zra0 := fun o => pb0 (HKz9.out.alloc o)
          have zra1 := fun o => pb1 (HKz9.out.alloc o)
          have HKr10 := Lib.hid (pbox_blok w9 x2 y2)
          have HB10 := Lib.hid (HB9.out.trans (hb.mono HB9.out.size))
          clear hb
          go_wp2_with fail
          refine (HTB.out HIA.out (pbox w9 x2 y2) (HL.out.below HB10.out)).mono ?_
          clear pf0 pf1 zf0 zf1 pra0 pra1 zra0 zra1
          rintro e w11 ⟨rfl, hb⟩
          have hkp := HKp10.out.below hb HKp10.out.lt
          have HKp11 := Lib.hid hkp
          have pf0 := pb0 hkp
          have pf1 := pb1 hkp
          have hkz := HKz10.out.below hb HKz10.out.lt
          have HKz11 := Lib.hid hkz
          have zf0 := pb0 hkz
          have zf1 := pb1 hkz
          have hkr := HKr10.out.below hb HKr10.out.lt
          have HKr11 := Lib.hid hkr
          have rf0 := pb0 hkr
          have rf1 := pb1 hkr
          have HB11 := Lib.hid (HB10.out.trans (hb.mono HB10.out.size))
          clear hb hkp hkz hkr
          go_wp2
          go_ret
          exact ⟨rfl, HB11.out⟩
      · exact absurd ((A.isP_get hisP).2.trans (A.isA_get hisA).2.symm) (A.textAll_text _ _ _)
  · have dz : decide (60 < (s.size : Int)) = true := decide_eq_true (by omega)
    clear hz
    clear hL
    go_enter Tryd.func4, Tryd.ntmps4
    go_wp2_with fail
    refine (awake_any (pbox w b k) (HL.out.below HB0.out)).mono ?_
    rintro e w1 ⟨rfl, hb⟩
    have hkp := HKp0.out.below hb HKp0.out.lt
    have HKp1 := Lib.hid hkp
    have pf0 := pb0 hkp
    have pf1 := pb1 hkp
    have HB1 := Lib.hid (HB0.out.trans (hb.mono HB0.out.size))
    clear hb hkp
    go_wp2
    go_ret
    exact ⟨rfl, HB1.out⟩
end Go.Proofs.YtbaneeedoledoaaDoor
