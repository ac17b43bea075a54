/-
  AddrPlaces, at every prefix, place and address.
-/
import Derived.Test.YtbaneeedoledoaaDoorAAwake
namespace Go.Proofs.YtbaneeedoledoaaDoor
open Go.RowKit

theorem A.nth_true {b k i : Int} (h : A.nthB b k i = true) : (0 ≤ i ∧ i < A.size b k) ∧ A.nthV b k i = b + i ∧ A.idx b k (b + i) = i := by
  have h1 : 0 ≤ i ∧ i < A.size b k := of_decide_eq_true h
  have h2 := A.size_pos (b := b) (k := k) (by omega)
  refine ⟨h1, by unfold A.nthV; rw [h, if_pos rfl], ?_⟩
  unfold A.idx; rw [if_pos ⟨h2.1, by omega, by omega⟩]; omega
theorem A.nth_false {b k i : Int} (h : A.nthB b k i = false) : i < 0 ∨ (0 ≤ i ∧ A.size b k ≤ i) := by
  have h1 : ¬ (0 ≤ i ∧ i < A.size b k) := of_decide_eq_false h
  omega
theorem A.idx_cases (b k a : Int) : (A.idx b k a = -1 ∧ A.nthB b k (A.idx b k a) = false) ∨ (0 ≤ A.idx b k a ∧ A.nthB b k (A.idx b k a) = true ∧ A.nthV b k (A.idx b k a) = a) := by
  by_cases h : A.may b k = true ∧ b ≤ a ∧ a - b < A.size b k
  · have e : A.idx b k a = a - b := by unfold A.idx; rw [if_pos h]
    have h2 : A.nthB b k (a - b) = true := decide_eq_true ⟨by omega, h.2.2⟩
    refine .inr ?_
    rw [e]
    exact ⟨by omega, h2, by rw [(A.nth_true h2).2.1]; omega⟩
  · have e : A.idx b k a = -1 := by unfold A.idx; rw [if_neg h]
    rw [e]
    exact .inl ⟨rfl, decide_eq_false (by omega)⟩

set_option maxHeartbeats 400000 in
theorem places_in (b k i a : Int) (w : World) (hL : Laid w) (hi : i ≤ 9223372036854775807) (ha : a ≤ 9223372036854775807) :
    Calls Tryd.prog 5 #[.agg #[.int .i64 b, .int .i64 k], .int .i64 i, .int .i64 a] w fun e w' => e = .returned (.bool true) ∧ Below w.heap.size w w' := by
  have HL := Lib.hid hL
  have HB0 := Lib.hid (pbox_below w b k)
  have HKp0 := Lib.hid (pbox_blok w b k)
  obtain ⟨v, hv⟩ : ∃ v, A.nthV b k i = v := ⟨_, rfl⟩
  obtain ⟨d, hd⟩ : ∃ d, A.nthB b k i = d := ⟨_, rfl⟩
  obtain ⟨x, hx⟩ : ∃ x, A.idx b k a = x := ⟨_, rfl⟩
  obtain ⟨s, hs⟩ : ∃ s, A.size b k = s := ⟨_, rfl⟩
  have hxc := A.idx_cases b k a
  rw [hx] at hxc
  have HXC := Lib.hid hxc
  have HV := Lib.hid hv
  have HD := Lib.hid hd
  have HX := Lib.hid hx
  have HS := Lib.hid hs
  clear hxc hv hd hx hs
  clear hL
  go_enter Tryd.func5, Tryd.ntmps5
  go_wp2_with fail
  refine (awake_any (pbox w b k) (HL.out.below HB0.out)).mono ?_
  rintro e w1 ⟨rfl, hb⟩
  have hkp := HKp0.out.below hb HKp0.out.lt
  have HKp1 := Lib.hid hkp
  have pf0 := pb0 hkp
  have pf1 := pb1 hkp
  have HB1 := Lib.hid (HB0.out.trans (hb.mono HB0.out.size))
  clear hb hkp
  go_wp2_with fail
  refine (nth_any b k i v d w1 HV.out HD.out).mono ?_
  clear pf0 pf1
  rintro e w2 ⟨rfl, hb⟩
  have hkp := HKp1.out.below hb HKp1.out.lt
  have HKp2 := Lib.hid hkp
  have pf0 := pb0 hkp
  have pf1 := pb1 hkp
  have HB2 := Lib.hid (HB1.out.trans (hb.mono HB1.out.size))
  clear hb hkp
  cases d
  · rcases A.nth_false HD.out with hi0 | ⟨hi0, hi1⟩
    · have d1 : decide (0 ≤ i) = false := by simp; omega
      clear hi0
      go_wp2_with fail
      refine (idx_any b k a x w2 HX.out ha).mono ?_
      clear pf0 pf1
      rintro e w3 ⟨rfl, hb⟩
      have hkp := HKp2.out.below hb HKp2.out.lt
      have HKp3 := Lib.hid hkp
      have pf0 := pb0 hkp
      have pf1 := pb1 hkp
      have HB3 := Lib.hid (HB2.out.trans (hb.mono HB2.out.size))
      clear hb hkp
      rcases HXC.out with ⟨hx1, hx2⟩ | ⟨hx1, hx2, hx3⟩
      · subst hx1
        obtain ⟨y, hy⟩ : ∃ y, A.nthV b k (-1) = y := ⟨_, rfl⟩
        have hn := fun W => nth_any b k (-1) y false W hy hx2
        clear hx2 hy
        go_wp2_with fail
        refine (hn w3).mono ?_
        clear pf0 pf1
        rintro e w4 ⟨rfl, hb⟩
        have hkp := HKp3.out.below hb HKp3.out.lt
        have HKp4 := Lib.hid hkp
        have pf0 := pb0 hkp
        have pf1 := pb1 hkp
        have HB4 := Lib.hid (HB3.out.trans (hb.mono HB3.out.size))
        clear hb hkp
        go_wp2
        go_ret
        exact ⟨rfl, HB4.out⟩
      · have d3 : decide (0 ≤ x) = true := decide_eq_true hx1
        have d4 : (x == -1) = false := by rw [beq_eq_false_iff_ne]; omega
        have d5 : ¬ x = -1 := by omega
        have hn := fun W => nth_any b k x a true W hx3 hx2
        clear hx2 hx3
        go_wp2_with fail
        refine (hn w3).mono ?_
        clear pf0 pf1
        rintro e w4 ⟨rfl, hb⟩
        have hkp := HKp3.out.below hb HKp3.out.lt
        have HKp4 := Lib.hid hkp
        have pf0 := pb0 hkp
        have pf1 := pb1 hkp
        have HB4 := Lib.hid (HB3.out.trans (hb.mono HB3.out.size))
        clear hb hkp
        go_wp2
        go_ret
        exact ⟨rfl, HB4.out⟩
    · have d1 : decide (0 ≤ i) = true := decide_eq_true hi0
      have d2 : decide (i < s) = false := by rw [← HS.out]; simp; omega
      clear hi1
      go_wp2_with fail
      refine (size_any b k s w2 HS.out).mono ?_
      clear pf0 pf1
      rintro e w3 ⟨rfl, hb⟩
      have hkp := HKp2.out.below hb HKp2.out.lt
      have HKp3 := Lib.hid hkp
      have pf0 := pb0 hkp
      have pf1 := pb1 hkp
      have HB3 := Lib.hid (HB2.out.trans (hb.mono HB2.out.size))
      clear hb hkp
      go_wp2_with fail
      refine (idx_any b k a x w3 HX.out ha).mono ?_
      clear pf0 pf1
      rintro e w4 ⟨rfl, hb⟩
      have hkp := HKp3.out.below hb HKp3.out.lt
      have HKp4 := Lib.hid hkp
      have pf0 := pb0 hkp
      have pf1 := pb1 hkp
      have HB4 := Lib.hid (HB3.out.trans (hb.mono HB3.out.size))
      clear hb hkp
      rcases HXC.out with ⟨hx1, hx2⟩ | ⟨hx1, hx2, hx3⟩
      · subst hx1
        obtain ⟨y, hy⟩ : ∃ y, A.nthV b k (-1) = y := ⟨_, rfl⟩
        have hn := fun W => nth_any b k (-1) y false W hy hx2
        clear hx2 hy
        go_wp2_with fail
        refine (hn w4).mono ?_
        clear pf0 pf1
        rintro e w5 ⟨rfl, hb⟩
        have hkp := HKp4.out.below hb HKp4.out.lt
        have HKp5 := Lib.hid hkp
        have pf0 := pb0 hkp
        have pf1 := pb1 hkp
        have HB5 := Lib.hid (HB4.out.trans (hb.mono HB4.out.size))
        clear hb hkp
        go_wp2
        go_ret
        exact ⟨rfl, HB5.out⟩
      · have d3 : decide (0 ≤ x) = true := decide_eq_true hx1
        have d4 : (x == -1) = false := by rw [beq_eq_false_iff_ne]; omega
        have d5 : ¬ x = -1 := by omega
        have hn := fun W => nth_any b k x a true W hx3 hx2
        clear hx2 hx3
        go_wp2_with fail
        refine (hn w4).mono ?_
        clear pf0 pf1
        rintro e w5 ⟨rfl, hb⟩
        have hkp := HKp4.out.below hb HKp4.out.lt
        have HKp5 := Lib.hid hkp
        have pf0 := pb0 hkp
        have pf1 := pb1 hkp
        have HB5 := Lib.hid (HB4.out.trans (hb.mono HB4.out.size))
        clear hb hkp
        go_wp2
        go_ret
        exact ⟨rfl, HB5.out⟩
  · obtain ⟨⟨hi0, hi1⟩, hi2, hi3⟩ := A.nth_true HD.out
    have d1 : decide (0 ≤ i) = true := decide_eq_true hi0
    have d2 : decide (i < s) = true := decide_eq_true (by rw [← HS.out]; exact hi1)
    have hvb : v - b = i := by rw [← HV.out, hi2]; omega
    have hvw : IntKind.i64.wrap (v - b) = i := by rw [hvb]; exact IntWalk.i64_in _ (by omega)
    have hv9 : v ≤ 9223372036854775807 := by have := A.size_pos (b := b) (k := k) (by omega); rw [← HV.out, hi2]; omega
    have hvi : A.idx b k v = i := by rw [← HV.out, hi2]; exact hi3
    have hvi2 := Lib.hid hvi
    clear hvb hvi hi2 hi3 hi1
    go_wp2_with fail
    refine (size_any b k s w2 HS.out).mono ?_
    clear pf0 pf1
    rintro e w3 ⟨rfl, hb⟩
    have hkp := HKp2.out.below hb HKp2.out.lt
    have HKp3 := Lib.hid hkp
    have pf0 := pb0 hkp
    have pf1 := pb1 hkp
    have HB3 := Lib.hid (HB2.out.trans (hb.mono HB2.out.size))
    clear hb hkp
    go_wp2_with fail
    refine (idx_any b k v i w3 hvi2.out hv9).mono ?_
    clear pf0 pf1
    rintro e w4 ⟨rfl, hb⟩
    have hkp := HKp3.out.below hb HKp3.out.lt
    have HKp4 := Lib.hid hkp
    have pf0 := pb0 hkp
    have pf1 := pb1 hkp
    have HB4 := Lib.hid (HB3.out.trans (hb.mono HB3.out.size))
    clear hb hkp
    go_wp2_with fail
    refine (idx_any b k a x w4 HX.out ha).mono ?_
    clear pf0 pf1
    rintro e w5 ⟨rfl, hb⟩
    have hkp := HKp4.out.below hb HKp4.out.lt
    have HKp5 := Lib.hid hkp
    have pf0 := pb0 hkp
    have pf1 := pb1 hkp
    have HB5 := Lib.hid (HB4.out.trans (hb.mono HB4.out.size))
    clear hb hkp
    rcases HXC.out with ⟨hx1, hx2⟩ | ⟨hx1, hx2, hx3⟩
    · subst hx1
      obtain ⟨y, hy⟩ : ∃ y, A.nthV b k (-1) = y := ⟨_, rfl⟩
      have hn := fun W => nth_any b k (-1) y false W hy hx2
      clear hx2 hy
      go_wp2_with fail
      refine (hn w5).mono ?_
      clear pf0 pf1
      rintro e w6 ⟨rfl, hb⟩
      have hkp := HKp5.out.below hb HKp5.out.lt
      have HKp6 := Lib.hid hkp
      have pf0 := pb0 hkp
      have pf1 := pb1 hkp
      have HB6 := Lib.hid (HB5.out.trans (hb.mono HB5.out.size))
      clear hb hkp
      go_wp2
      go_ret
      exact ⟨rfl, HB6.out⟩
    · have d3 : decide (0 ≤ x) = true := decide_eq_true hx1
      have d4 : (x == -1) = false := by rw [beq_eq_false_iff_ne]; omega
      have d5 : ¬ x = -1 := by omega
      have hn := fun W => nth_any b k x a true W hx3 hx2
      clear hx2 hx3
      go_wp2_with fail
      refine (hn w5).mono ?_
      clear pf0 pf1
      rintro e w6 ⟨rfl, hb⟩
      have hkp := HKp5.out.below hb HKp5.out.lt
      have HKp6 := Lib.hid hkp
      have pf0 := pb0 hkp
      have pf1 := pb1 hkp
      have HB6 := Lib.hid (HB5.out.trans (hb.mono HB5.out.size))
      clear hb hkp
      go_wp2
      go_ret
      exact ⟨rfl, HB6.out⟩
end Go.Proofs.YtbaneeedoledoaaDoor
