/-
  AddrApart, at every two addresses and two prefixes.
-/
import Derived.Test.YtbaneeedoledoaaDoorAAwake
import Derived.Test.YtbaneeedoledoaaDoorALawD
namespace Go.Proofs.YtbaneeedoledoaaDoor
open Go.RowKit

theorem toList_cmp (s t : ByteArray) : (s.toList == t.toList) = decide (s.data.toList = t.data.toList) := by
  rw [ByteArray.toList_eq, ByteArray.toList_eq]
  exact (Bool.eq_iff_iff).2 (by simp)

theorem A.isP_txt (a : Int) : A.isP (A.txt a) = false := by
  refine A.isP_no fun b k h he => ?_
  rcases A.txt_says a with ⟨h1, _⟩ | ⟨_, h2, _⟩
  · rw [h1] at he; exact A.textAll_ne _ _ he
  · obtain ⟨n, rfl, _, ht⟩ := A.txt_of h2.1 h2.2
    rw [ht] at he; exact A.textAll_text _ _ _ he
theorem A.isA_txtAll (b k : Int) : A.isA (A.txtAll b k) = false := by
  refine A.isA_no fun a h he => ?_
  cases hm : A.may b k
  · unfold A.txtAll at he; rw [hm] at he; exact A.text_ne _ he
  · unfold A.txtAll at he; rw [hm, if_pos rfl] at he; exact A.textAll_text _ _ _ he.symm
theorem A.txt_eq {a b : Int} (ha : A.txt a ≠ []) (hb : A.txt b ≠ []) : decide (A.txt a = A.txt b) = decide (a = b) := by
  rw [decide_eq_decide]
  rcases A.txt_says a with ⟨h1, _⟩ | ⟨_, h2, _⟩
  · exact absurd h1 ha
  rcases A.txt_says b with ⟨h3, _⟩ | ⟨_, h4, _⟩
  · exact absurd h3 hb
  obtain ⟨n, rfl, _, hn⟩ := A.txt_of h2.1 h2.2
  obtain ⟨m, rfl, _, hm⟩ := A.txt_of h4.1 h4.2
  rw [hn, hm]
  exact ⟨fun h => by rw [A.text_inj h], fun h => by rw [Int.ofNat.inj h]⟩
theorem A.txtAll_eq {b k c j : Int} (ha : A.txtAll b k ≠ []) (hb : A.txtAll c j ≠ []) : decide (A.txtAll b k = A.txtAll c j) = decide (b = c ∧ k = j) := by
  rw [decide_eq_decide]
  cases h1 : A.may b k
  · exact absurd (by unfold A.txtAll; rw [h1]; rfl) ha
  cases h2 : A.may c j
  · exact absurd (by unfold A.txtAll; rw [h2]; rfl) hb
  obtain ⟨n, i, rfl, rfl, _, _, _, _⟩ := A.txtAll_of h1
  obtain ⟨m, l, rfl, rfl, _, _, _, _⟩ := A.txtAll_of h2
  unfold A.txtAll
  rw [h1, h2, if_pos rfl, if_pos rfl]
  exact ⟨fun h => by have := A.textAll_inj h; simp at this; omega, fun h => by rw [h.1, h.2]⟩

theorem txt_three {a b : Int} {x y : ByteArray} (hx : A.txt a = x.data.toList) (hy : A.txt b = y.data.toList) : x.toList = [] ∨ (¬ x.toList = [] ∧ y.toList = []) ∨ (¬ x.toList = [] ∧ ¬ y.toList = [] ∧ (x.toList == y.toList) = (a == b)) := by
  have h := @A.txt_eq a b
  rw [hx, hy] at h
  rw [toList_cmp, ByteArray.toList_eq, ByteArray.toList_eq]
  by_cases h1 : x.data.toList = []
  · exact .inl h1
  · by_cases h2 : y.data.toList = []
    · exact .inr (.inl ⟨h1, h2⟩)
    · exact .inr (.inr ⟨h1, h2, (h h1 h2).trans (by by_cases g : a = b <;> simp [g])⟩)
theorem txtAll_five {b0 k0 b1 k1 : Int} {u v : ByteArray} (hu : A.txtAll b0 k0 = u.data.toList) (hv : A.txtAll b1 k1 = v.data.toList) : u.toList = [] ∨ (¬ u.toList = [] ∧ v.toList = []) ∨ (¬ u.toList = [] ∧ ¬ v.toList = [] ∧ (u.toList == v.toList) = true ∧ b0 = b1 ∧ k0 = k1) ∨ (¬ u.toList = [] ∧ ¬ v.toList = [] ∧ (u.toList == v.toList) = false ∧ ¬ b0 = b1) ∨ (¬ u.toList = [] ∧ ¬ v.toList = [] ∧ (u.toList == v.toList) = false ∧ b0 = b1 ∧ ¬ k0 = k1) := by
  have h := @A.txtAll_eq b0 k0 b1 k1
  rw [hu, hv] at h
  rw [toList_cmp, ByteArray.toList_eq, ByteArray.toList_eq]
  by_cases h1 : u.data.toList = []
  · exact .inl h1
  · by_cases h2 : v.data.toList = []
    · exact .inr (.inl ⟨h1, h2⟩)
    · rw [h h1 h2]
      by_cases g1 : b0 = b1
      · by_cases g2 : k0 = k1
        · exact .inr (.inr (.inl ⟨h1, h2, decide_eq_true ⟨g1, g2⟩, g1, g2⟩))
        · exact .inr (.inr (.inr (.inr ⟨h1, h2, decide_eq_false (fun h => g2 h.2), g1, g2⟩)))
      · exact .inr (.inr (.inr (.inl ⟨h1, h2, decide_eq_false (fun h => g1 h.1), g1⟩)))

set_option maxHeartbeats 1600000 in
theorem apart_in (b0 k0 b1 k1 a b : Int) (w : World) (hL : Laid w) :
    Calls Tryd.prog 8 #[.agg #[.int .i64 b0, .int .i64 k0], .agg #[.int .i64 b1, .int .i64 k1], .int .i64 a, .int .i64 b] w fun e w' => e = .returned (.bool true) ∧ Below w.heap.size w w' := by
  have HL := Lib.hid hL
  have HB0 := Lib.hid (pbox2_below w b0 k0 b1 k1)
  have HKp0 := Lib.hid (pbox2_a w b0 k0 b1 k1)
  have HKq0 := Lib.hid (pbox2_b w b0 k0 b1 k1)
  obtain ⟨x, hx⟩ : ∃ t, str (A.txt a) = t := ⟨_, rfl⟩
  have hxd : A.txt a = x.data.toList := by rw [← hx]; rfl
  have HTx : Hid (∀ W, Laid W → Calls Tryd.prog 25 #[.int .i64 a] W fun e w' => e = .returned (.string x) ∧ Below W.heap.size W w') := Lib.hid (fun W hW => by rw [← hx]; exact text_any a _ W hW rfl)
  obtain ⟨y, hy⟩ : ∃ t, str (A.txt b) = t := ⟨_, rfl⟩
  have hyd : A.txt b = y.data.toList := by rw [← hy]; rfl
  have HTy : Hid (∀ W, Laid W → Calls Tryd.prog 25 #[.int .i64 b] W fun e w' => e = .returned (.string y) ∧ Below W.heap.size W w') := Lib.hid (fun W hW => by rw [← hy]; exact text_any b _ W hW rfl)
  obtain ⟨u, hu⟩ : ∃ t, str (A.txtAll b0 k0) = t := ⟨_, rfl⟩
  have hud : A.txtAll b0 k0 = u.data.toList := by rw [← hu]; rfl
  have HTu : Hid (∀ W, Laid W → Calls Tryd.prog 27 #[.agg #[.int .i64 b0, .int .i64 k0]] W fun e w' => e = .returned (.string u) ∧ Below W.heap.size W w') := Lib.hid (fun W hW => by rw [← hu]; exact textAll_any b0 k0 _ W hW rfl)
  obtain ⟨v, hv⟩ : ∃ t, str (A.txtAll b1 k1) = t := ⟨_, rfl⟩
  have hvd : A.txtAll b1 k1 = v.data.toList := by rw [← hv]; rfl
  have HTv : Hid (∀ W, Laid W → Calls Tryd.prog 27 #[.agg #[.int .i64 b1, .int .i64 k1]] W fun e w' => e = .returned (.string v) ∧ Below W.heap.size W w') := Lib.hid (fun W hW => by rw [← hv]; exact textAll_any b1 k1 _ W hW rfl)
  have HX3 := Lib.hid (txt_three hxd hyd)
  have HU5 := Lib.hid (txtAll_five hud hvd)
  have HIP := Lib.hid (And.intro (A.isP_txt a) (And.intro (A.isP_not (A.isP_txt a)).1 (A.isP_not (A.isP_txt a)).2.1))
  have HIA := Lib.hid (And.intro (A.isA_txtAll b0 k0) (A.isA_not (A.isA_txtAll b0 k0)).1)
  have hx15 : x.size ≤ 15 := by
    rw [← x.size_eq_len, ← hxd]
    rcases A.txt_says a with h | h
    · rw [h.1]; simp
    · exact h.2.2.2.1
  have hu18 : u.size ≤ 18 := by rw [← u.size_eq_len, ← hud]; exact A.txtAll_le b0 k0
  rw [hxd] at HIP
  rw [hud] at HIA
  clear hx hy hu hv hxd hyd hud hvd
  clear hL
  go_enter Tryd.func8, Tryd.ntmps8
  go_wp2_with fail
  refine (awake_any (pbox2 w b0 k0 b1 k1) (HL.out.below HB0.out)).mono ?_
  rintro e w1 ⟨rfl, hb⟩
  have hkp := HKp0.out.below hb HKp0.out.lt
  have HKp1 := Lib.hid hkp
  have pf0 := pb0 hkp
  have pf1 := pb1 hkp
  have hkq := HKq0.out.below hb HKq0.out.lt
  have HKq1 := Lib.hid hkq
  have qf0 := pb0 hkq
  have qf1 := pb1 hkq
  have HB1 := Lib.hid (HB0.out.trans (hb.mono HB0.out.size))
  clear hb hkp hkq
  go_wp2_with fail
  refine (HTx.out w1 (HL.out.below HB1.out)).mono ?_
  clear pf0 pf1 qf0 qf1
  rintro e w2 ⟨rfl, hb⟩
  have hkp := HKp1.out.below hb HKp1.out.lt
  have HKp2 := Lib.hid hkp
  have pf0 := pb0 hkp
  have pf1 := pb1 hkp
  have hkq := HKq1.out.below hb HKq1.out.lt
  have HKq2 := Lib.hid hkq
  have qf0 := pb0 hkq
  have qf1 := pb1 hkq
  have HB2 := Lib.hid (HB1.out.trans (hb.mono HB1.out.size))
  clear hb hkp hkq
  go_wp2_with fail
  refine (HTy.out w2 (HL.out.below HB2.out)).mono ?_
  clear pf0 pf1 qf0 qf1
  rintro e w3 ⟨rfl, hb⟩
  have hkp := HKp2.out.below hb HKp2.out.lt
  have HKp3 := Lib.hid hkp
  have pf0 := pb0 hkp
  have pf1 := pb1 hkp
  have hkq := HKq2.out.below hb HKq2.out.lt
  have HKq3 := Lib.hid hkq
  have qf0 := pb0 hkq
  have qf1 := pb1 hkq
  have HB3 := Lib.hid (HB2.out.trans (hb.mono HB2.out.size))
  clear hb hkp hkq
  go_wp2_with fail
  refine (HTu.out w3 (HL.out.below HB3.out)).mono ?_
  clear pf0 pf1 qf0 qf1
  rintro e w4 ⟨rfl, hb⟩
  have hkp := HKp3.out.below hb HKp3.out.lt
  have HKp4 := Lib.hid hkp
  have pf0 := pb0 hkp
  have pf1 := pb1 hkp
  have hkq := HKq3.out.below hb HKq3.out.lt
  have HKq4 := Lib.hid hkq
  have qf0 := pb0 hkq
  have qf1 := pb1 hkq
  have HB4 := Lib.hid (HB3.out.trans (hb.mono HB3.out.size))
  clear hb hkp hkq
  go_wp2_with fail
  refine (HTv.out w4 (HL.out.below HB4.out)).mono ?_
  clear pf0 pf1 qf0 qf1
  rintro e w5 ⟨rfl, hb⟩
  have hkp := HKp4.out.below hb HKp4.out.lt
  have HKp5 := Lib.hid hkp
  have pf0 := pb0 hkp
  have pf1 := pb1 hkp
  have hkq := HKq4.out.below hb HKq4.out.lt
  have HKq5 := Lib.hid hkq
  have qf0 := pb0 hkq
  have qf1 := pb1 hkq
  have HB5 := Lib.hid (HB4.out.trans (hb.mono HB4.out.size))
  clear hb hkp hkq
  clear pf0 pf1 qf0 qf1
  have k0' := pb0 HKp5.out
  have k1' := pb1 HKp5.out
  have k2' := pb0 HKq5.out
  have k3' := pb1 HKq5.out
  rcases HX3.out with hx1 | ⟨hx1, hx2⟩ | ⟨hx1, hx2, hx3⟩ <;> rcases HU5.out with hu1 | ⟨hu1, hu2⟩ | ⟨hu1, hu2, hu3, hu4, hu5⟩ | ⟨hu1, hu2, hu3, hu4⟩ | ⟨hu1, hu2, hu3, hu4, hu5⟩
  all_goals
    go_wp2_with fail
    refine (readAll_any x 0 0 false w5 (HL.out.below HB5.out) (by omega) HIP.out.2.1 HIP.out.2.2 HIP.out.1).mono ?_
    clear k0' k1' k2' k3'
    rintro e w6 ⟨rfl, hb⟩
    have hkp := HKp5.out.below hb HKp5.out.lt
    have HKp6 := Lib.hid hkp
    have pf0 := pb0 hkp
    have pf1 := pb1 hkp
    have hkq := HKq5.out.below hb HKq5.out.lt
    have HKq6 := Lib.hid hkq
    have qf0 := pb0 hkq
    have qf1 := pb1 hkq
    have HB6 := Lib.hid (HB5.out.trans (hb.mono HB5.out.size))
    clear hb hkp hkq
    have hb := pbox_below w6 0 0
    have HKp7 := Lib.hid (HKp6.out.below hb HKp6.out.lt)
    have pza0 := fun o => pb0 (HKp6.out.alloc o)
    have pza1 := fun o => pb1 (HKp6.out.alloc o)
    have HKq7 := Lib.hid (HKq6.out.below hb HKq6.out.lt)
    have qza0 := fun o => pb0 (HKq6.out.alloc o)
    have qza1 := fun o => pb1 (HKq6.out.alloc o)
    have HKz7 := Lib.hid (pbox_blok w6 0 0)
    have HB7 := Lib.hid (HB6.out.trans (hb.mono HB6.out.size))
    clear hb
    go_wp2_with fail
    refine (read_any u 0 false (pbox w6 0 0) (HL.out.below HB7.out) (by omega) HIA.out.2 HIA.out.1).mono ?_
    clear pf0 pf1 qf0 qf1 pza0 pza1 qza0 qza1
    rintro e w8 ⟨rfl, hb⟩
    have hkp := HKp7.out.below hb HKp7.out.lt
    have HKp8 := Lib.hid hkp
    have pf0 := pb0 hkp
    have pf1 := pb1 hkp
    have hkq := HKq7.out.below hb HKq7.out.lt
    have HKq8 := Lib.hid hkq
    have qf0 := pb0 hkq
    have qf1 := pb1 hkq
    have hkz := HKz7.out.below hb HKz7.out.lt
    have HKz8 := Lib.hid hkz
    have zf0 := pb0 hkz
    have zf1 := pb1 hkz
    have HB8 := Lib.hid (HB7.out.trans (hb.mono HB7.out.size))
    clear hb hkp hkq hkz
    go_wp2
    go_ret
    exact ⟨rfl, HB8.out⟩
end Go.Proofs.YtbaneeedoledoaaDoor
