/-
  AddrMeet, at every two prefixes and every address.
-/
import Derived.Test.YtbaneeedoledoaaDoorAAwake
namespace Go.Proofs.YtbaneeedoledoaaDoor
open Go.RowKit

theorem A.meet_comm (b k c j : Int) : A.meet c j b k = A.meet b k c j := by
  unfold A.meet
  rw [Bool.and_comm (A.may c j), Bool.or_comm]
theorem A.idx_iff {b k a : Int} : 0 ≤ A.idx b k a ↔ A.may b k = true ∧ b ≤ a ∧ a < b + A.sz k := by
  unfold A.idx
  by_cases h : A.may b k = true
  · have e : A.size b k = A.sz k := by unfold A.size; rw [h, if_pos rfl]
    rw [e]
    by_cases h2 : A.may b k = true ∧ b ≤ a ∧ a - b < A.sz k
    · rw [if_pos h2]; exact ⟨fun _ => ⟨h, h2.2.1, by omega⟩, fun _ => by omega⟩
    · rw [if_neg h2]
      exact ⟨fun h => by omega, fun h3 => absurd ⟨h3.1, h3.2.1, by omega⟩ h2⟩
  · rw [if_neg (fun h2 => h h2.1)]
    exact ⟨fun h => by omega, fun h3 => absurd h3.1 h⟩
theorem A.meet_iff {b k c j : Int} : A.meet b k c j = true ↔ A.may b k = true ∧ A.may c j = true ∧ ((b ≤ c ∧ c < b + A.sz k) ∨ (c ≤ b ∧ b < c + A.sz j)) := by
  unfold A.meet
  simp only [Bool.and_eq_true, Bool.or_eq_true, decide_eq_true_iff, A.idx_iff]
  constructor
  · rintro ⟨⟨h1, h2⟩, h3⟩
    exact ⟨h1, h2, h3.imp (fun h => h.2) (fun h => h.2)⟩
  · rintro ⟨h1, h2, h3⟩
    exact ⟨⟨h1, h2⟩, h3.imp (fun h => ⟨h1, h⟩) (fun h => ⟨h2, h⟩)⟩
theorem A.both_meet {b k c j a : Int} (h1 : 0 ≤ A.idx b k a) (h2 : 0 ≤ A.idx c j a) : A.meet b k c j = true := by
  rw [A.idx_iff] at h1 h2
  rw [A.meet_iff]
  exact ⟨h1.1, h2.1, by omega⟩
theorem A.sz_dvd {k j : Int} (h0 : k ≤ j) (h1 : 0 ≤ k) (h2 : j ≤ 32) : ∃ t : Int, A.sz k = A.sz j * t := by
  refine ⟨((2 ^ (j - k).toNat : Nat) : Int), ?_⟩
  unfold A.sz
  rw [← Int.natCast_mul, ← Nat.pow_add]
  congr 2; omega
theorem A.may_mul {b k : Int} (h : A.may b k = true) : ∃ x, b = A.sz k * x := by
  have h1 := (of_decide_eq_true h).2.2.2.2
  exact ⟨b / A.sz k, by have := Int.mul_ediv_add_emod b (A.sz k); omega⟩
theorem A.inside {b k c j a : Int} (hm : A.meet b k c j = true) (hkj : k ≤ j) (hy : 0 ≤ A.idx c j a) : 0 ≤ A.idx b k a := by
  rw [A.meet_iff] at hm
  rw [A.idx_iff] at hy ⊢
  obtain ⟨h1, h2, h3⟩ := hm
  have b1 := A.may_bits h1
  have b2 := A.may_bits h2
  obtain ⟨t, ht⟩ := A.sz_dvd hkj b1.1.1 b2.1.2
  obtain ⟨x0, hx0⟩ := A.may_mul h1
  obtain ⟨y, hy0⟩ := A.may_mul h2
  have hx : b = A.sz j * (t * x0) := by rw [hx0, ht, Int.mul_assoc]
  generalize t * x0 = x at hx
  have hp := A.sz_pos j
  have hpk := A.sz_pos k
  rw [ht] at h3 hpk ⊢
  generalize A.sz j = s at *
  have ht0 : 0 < t := by
    by_cases h : 0 < t
    · exact h
    · have := Int.mul_nonpos_of_nonneg_of_nonpos (a := s) (b := t) (by omega) (by omega)
      omega
  have hc : x ≤ y ∧ y + 1 ≤ x + t := by
    rcases h3 with ⟨g1, g2⟩ | ⟨g1, g2⟩
    · rw [hx, hy0] at g1
      have e1 := Int.le_of_mul_le_mul_left g1 hp
      have g3 : s * y < s * (x + t) := by rw [Int.mul_add, ← hx, ← hy0]; exact g2
      have e2 := Int.lt_of_mul_lt_mul_left g3 (by omega)
      exact ⟨e1, by omega⟩
    · rw [hx, hy0] at g1
      have e1 := Int.le_of_mul_le_mul_left g1 hp
      have g3 : s * x < s * (y + 1) := by rw [Int.mul_add, ← hx, ← hy0, Int.mul_one]; exact g2
      have e2 := Int.lt_of_mul_lt_mul_left g3 (by omega)
      exact ⟨by omega, by omega⟩
  have f1 : s * x ≤ s * y := Int.mul_le_mul_of_nonneg_left hc.1 (by omega)
  have f2 : s * (y + 1) ≤ s * (x + t) := Int.mul_le_mul_of_nonneg_left hc.2 (by omega)
  rw [Int.mul_add, Int.mul_add, Int.mul_one, ← hx, ← hy0] at f2
  rw [← hx, ← hy0] at f1
  exact ⟨h1, by omega, by omega⟩

theorem A.meet_says (b k c j a : Int) : ((!(decide (0 ≤ A.idx b k a) && decide (0 ≤ A.idx c j a)) || A.meet b k c j) && (!A.meet b k c j || A.may b k) && (!A.meet b k c j || decide (j < k) || !decide (0 ≤ A.idx c j a) || decide (0 ≤ A.idx b k a))) = true := by
  have h1 := @A.both_meet b k c j a
  have h2 := fun h => (A.meet_iff.1 h : A.may b k = true ∧ A.may c j = true ∧ _).1
  have h3 := @A.inside b k c j a
  cases hm : A.meet b k c j
  · rw [hm] at h1
    by_cases g1 : 0 ≤ A.idx b k a
    · have g2 : ¬ 0 ≤ A.idx c j a := fun g2 => by cases h1 g1 g2
      simp [g2]
    · simp [g1]
  · by_cases g1 : 0 ≤ A.idx b k a
    · simp [g1, h2 hm]
    · by_cases g2 : 0 ≤ A.idx c j a
      · have : ¬ k ≤ j := fun g3 => g1 (h3 hm g3 g2)
        simp [h2 hm]; omega
      · simp [g1, g2, h2 hm]
set_option maxHeartbeats 800000 in
theorem meet_in (b k c j a : Int) (w : World) (hL : Laid w) (ha : a ≤ 9223372036854775807) (hb0 : b ≤ 9223372036854775807) (hc0 : c ≤ 9223372036854775807) :
    Calls Tryd.prog 6 #[.agg #[.int .i64 b, .int .i64 k], .agg #[.int .i64 c, .int .i64 j], .int .i64 a] w fun e w' => e = .returned (.bool true) ∧ Below w.heap.size w w' := by
  have HL := Lib.hid hL
  have HB0 := Lib.hid (pbox2_below w b k c j)
  have HKp0 := Lib.hid (pbox2_a w b k c j)
  have HKq0 := Lib.hid (pbox2_b w b k c j)
  obtain ⟨x, hx⟩ : ∃ x, A.idx b k a = x := ⟨_, rfl⟩
  obtain ⟨y, hy⟩ : ∃ y, A.idx c j a = y := ⟨_, rfl⟩
  obtain ⟨m, hm⟩ : ∃ m, A.meet b k c j = m := ⟨_, rfl⟩
  obtain ⟨u, hu⟩ : ∃ u, A.may b k = u := ⟨_, rfl⟩
  have hm2 : A.meet c j b k = m := (A.meet_comm b k c j).trans hm
  have HC := Lib.hid (A.meet_says b k c j a)
  rw [hx, hy, hm, hu] at HC
  obtain ⟨dx, hdx⟩ : ∃ d, decide (0 ≤ x) = d := ⟨_, rfl⟩
  obtain ⟨dy, hdy⟩ : ∃ d, decide (0 ≤ y) = d := ⟨_, rfl⟩
  obtain ⟨e, he⟩ : ∃ d, decide (j < k) = d := ⟨_, rfl⟩
  rw [hdx, hdy, he] at HC
  have HX := Lib.hid hx
  have HY := Lib.hid hy
  have HM := Lib.hid hm
  have HM2 := Lib.hid hm2
  have HU := Lib.hid hu
  clear hx hy hm hm2 hu
  clear hL
  go_enter Tryd.func6, Tryd.ntmps6
  go_wp2_with fail
  refine (awake_any (pbox2 w b k c j) (HL.out.below HB0.out)).mono ?_
  rintro e w1 ⟨rfl, hb⟩
  have hkp := HKp0.out.below hb HKp0.out.lt
  have HKp1 := Lib.hid hkp
  have pf0 := pb0 hkp
  have pf1 := pb1 hkp
  have hkq := HKq0.out.below hb HKq0.out.lt
  have HKq1 := Lib.hid hkq
  have qf0 := pb0 hkq
  have qf1 := pb1 hkq
  have HB1 := Lib.hid (HB0.out.trans (hb.mono HB0.out.size))
  clear hb hkp hkq
  go_wp2_with fail
  refine (idx_any b k a x w1 HX.out ha).mono ?_
  clear pf0 pf1 qf0 qf1
  rintro e w2 ⟨rfl, hb⟩
  have hkp := HKp1.out.below hb HKp1.out.lt
  have HKp2 := Lib.hid hkp
  have pf0 := pb0 hkp
  have pf1 := pb1 hkp
  have hkq := HKq1.out.below hb HKq1.out.lt
  have HKq2 := Lib.hid hkq
  have qf0 := pb0 hkq
  have qf1 := pb1 hkq
  have HB2 := Lib.hid (HB1.out.trans (hb.mono HB1.out.size))
  clear hb hkp hkq
  go_wp2_with fail
  refine (idx_any c j a y w2 HY.out ha).mono ?_
  clear pf0 pf1 qf0 qf1
  rintro e w3 ⟨rfl, hb⟩
  have hkp := HKp2.out.below hb HKp2.out.lt
  have HKp3 := Lib.hid hkp
  have pf0 := pb0 hkp
  have pf1 := pb1 hkp
  have hkq := HKq2.out.below hb HKq2.out.lt
  have HKq3 := Lib.hid hkq
  have qf0 := pb0 hkq
  have qf1 := pb1 hkq
  have HB3 := Lib.hid (HB2.out.trans (hb.mono HB2.out.size))
  clear hb hkp hkq
  go_wp2_with fail
  refine (meet_any b k c j m w3 HM.out hb0 hc0).mono ?_
  clear pf0 pf1 qf0 qf1
  rintro e w4 ⟨rfl, hb⟩
  have hkp := HKp3.out.below hb HKp3.out.lt
  have HKp4 := Lib.hid hkp
  have pf0 := pb0 hkp
  have pf1 := pb1 hkp
  have hkq := HKq3.out.below hb HKq3.out.lt
  have HKq4 := Lib.hid hkq
  have qf0 := pb0 hkq
  have qf1 := pb1 hkq
  have HB4 := Lib.hid (HB3.out.trans (hb.mono HB3.out.size))
  clear hb hkp hkq
  cases dx <;> cases dy <;> cases m <;> cases u <;> cases e <;> first | (exact absurd HC.out (by decide)) | skip
  all_goals
    go_wp2_with fail
    refine (meet_any c j b k _ w4 HM2.out hc0 hb0).mono ?_
    clear pf0 pf1 qf0 qf1
    rintro e w5 ⟨rfl, hb⟩
    have hkp := HKp4.out.below hb HKp4.out.lt
    have HKp5 := Lib.hid hkp
    have pf0 := pb0 hkp
    have pf1 := pb1 hkp
    have hkq := HKq4.out.below hb HKq4.out.lt
    have HKq5 := Lib.hid hkq
    have qf0 := pb0 hkq
    have qf1 := pb1 hkq
    have HB5 := Lib.hid (HB4.out.trans (hb.mono HB4.out.size))
    clear hb hkp hkq
    go_wp2_with fail
    refine (may_any b k _ w5 HU.out).mono ?_
    clear pf0 pf1 qf0 qf1
    rintro e w6 ⟨rfl, hb⟩
    have hkp := HKp5.out.below hb HKp5.out.lt
    have HKp6 := Lib.hid hkp
    have pf0 := pb0 hkp
    have pf1 := pb1 hkp
    have hkq := HKq5.out.below hb HKq5.out.lt
    have HKq6 := Lib.hid hkq
    have qf0 := pb0 hkq
    have qf1 := pb1 hkq
    have HB6 := Lib.hid (HB5.out.trans (hb.mono HB5.out.size))
    clear hb hkp hkq
    go_wp2
    go_ret
    exact ⟨rfl, HB6.out⟩
end Go.Proofs.YtbaneeedoledoaaDoor
