/-
  AddrSizes, at every prefix.
-/
import Derived.Test.YtbaneeedoledoaaDoorAAwake
import Derived.Test.YtbaneeedoledoaaDoorALawB
namespace Go.Proofs.YtbaneeedoledoaaDoor
open Go.RowKit


theorem A.size_divs {b k : Int} (h : A.may b k = true) : ∃ q : Nat, A.size b k = q ∧ 0 < q ∧ q ≤ 4294967296 ∧ (4294967296 : Int) % (q : Int) = 0 ∧ b % (q : Int) = 0 := by
  obtain ⟨⟨h0, h1⟩, h2⟩ := A.may_bits h
  obtain ⟨j, rfl, hj, hs, h4⟩ := A.sz_cases h0 h1
  refine ⟨2 ^ (32 - j), by unfold A.size; rw [h, if_pos rfl, hs], Nat.two_pow_pos _, by omega, ?_, ?_⟩
  · have e : (4294967296 : Int) = ((2 ^ j * 2 ^ (32 - j) : Nat) : Int) := by rw [← Nat.pow_add, show j + (32 - j) = 32 by omega]; rfl
    rw [e, Int.natCast_mul, Int.mul_emod_left]
  · rw [← hs]; exact (of_decide_eq_true h).2.2.2.2
theorem A.half_of {b k : Int} {q : Nat} (h : A.may b k = true) (hk : ¬ k = 32) (hs : A.size b k = q) : ∃ z : Nat, A.size b (k + 1) = z ∧ Int.tdiv (q : Int) 2 = z ∧ A.meet b k b (k + 1) = true ∧ z ≤ 4294967296 := by
  obtain ⟨⟨h0, h1⟩, h2⟩ := A.may_bits h
  obtain ⟨j, rfl, hj, hsz, h4⟩ := A.sz_cases h0 h1
  obtain ⟨i, hi⟩ : ∃ i, 32 - j = i + 1 := ⟨31 - j, by omega⟩
  have e1 : A.sz ((j : Int) + 1) = ((2 ^ i : Nat) : Int) := by unfold A.sz; rw [show (32 - ((j : Int) + 1)).toNat = i by omega]
  have hm : A.may b ((j : Int) + 1) = true := by
    refine decide_eq_true ⟨by omega, by omega, h2.1, h2.2, ?_⟩
    have h3 := (of_decide_eq_true h).2.2.2.2
    rw [hsz, hi, Nat.pow_succ] at h3
    rw [e1]
    have d1 : ((2 ^ i * 2 : Nat) : Int) ∣ b := Int.dvd_of_emod_eq_zero h3
    exact Int.emod_eq_zero_of_dvd (Int.dvd_trans ⟨2, by rw [Int.natCast_mul]; rfl⟩ d1)
  have e2 : A.size b (j : Int) = ((2 ^ i * 2 : Nat) : Int) := by unfold A.size; rw [h, if_pos rfl, hsz, hi, Nat.pow_succ]
  have hp := A.sz_pos (j : Int)
  have e3 : 2 ^ i ≤ 2 ^ 32 := Nat.pow_le_pow_right (by decide) (by omega)
  refine ⟨2 ^ i, by unfold A.size; rw [hm, if_pos rfl, e1], ?_, by rw [A.meet_iff]; exact ⟨h, hm, .inl ⟨by omega, by omega⟩⟩, e3⟩
  rw [e2] at hs
  rw [← hs]
  generalize 2 ^ i = x
  rw [Int.tdiv_eq_ediv_of_nonneg (by omega)]; omega
set_option maxHeartbeats 800000 in
theorem sizes_in (b k : Int) (w : World) (hL : Laid w) (hb0 : b ≤ 9223372036854775807) :
    Calls Tryd.prog 7 #[.agg #[.int .i64 b, .int .i64 k]] w fun e w' => e = .returned (.bool true) ∧ Below w.heap.size w w' := by
  have HL := Lib.hid hL
  have HB0 := Lib.hid (pbox_below w b k)
  have HKp0 := Lib.hid (pbox_blok w b k)
  cases hu : A.may b k
  · have HU := Lib.hid hu
    have HS : Hid (A.size b k = 0) := Lib.hid (by unfold A.size; rw [hu]; rfl)
    clear hu
    clear hL
    go_enter Tryd.func7, Tryd.ntmps7
    go_wp2_with fail
    refine (awake_any (pbox w b k) (HL.out.below HB0.out)).mono ?_
    rintro e w1 ⟨rfl, hb⟩
    have hkp := HKp0.out.below hb HKp0.out.lt
    have HKp1 := Lib.hid hkp
    have pf0 := pb0 hkp
    have pf1 := pb1 hkp
    have HB1 := Lib.hid (HB0.out.trans (hb.mono HB0.out.size))
    clear hb hkp
    go_wp2_with fail
    refine (size_any b k 0 w1 HS.out).mono ?_
    clear pf0 pf1
    rintro e w2 ⟨rfl, hb⟩
    have hkp := HKp1.out.below hb HKp1.out.lt
    have HKp2 := Lib.hid hkp
    have pf0 := pb0 hkp
    have pf1 := pb1 hkp
    have HB2 := Lib.hid (HB1.out.trans (hb.mono HB1.out.size))
    clear hb hkp
    go_wp2_with fail
    refine (may_any b k false w2 HU.out).mono ?_
    clear pf0 pf1
    rintro e w3 ⟨rfl, hb⟩
    have hkp := HKp2.out.below hb HKp2.out.lt
    have HKp3 := Lib.hid hkp
    have pf0 := pb0 hkp
    have pf1 := pb1 hkp
    have HB3 := Lib.hid (HB2.out.trans (hb.mono HB2.out.size))
    clear hb hkp
    go_wp2
    go_ret
    exact ⟨rfl, HB3.out⟩
  · have HU := Lib.hid hu
    obtain ⟨q, hsz, hq0, hq1, hd1, hd2⟩ := A.size_divs hu
    have HS : Hid (A.size b k = q) := Lib.hid hsz
    have c1 : decide (0 < (q : Int)) = true := decide_eq_true (by omega)
    have c2 : decide ((q : Int) < 0) = false := decide_eq_false (by omega)
    have c3 : ¬ (q : Int) = 0 := by omega
    have c3' : ¬ q = 0 := by omega
    have hbb := (A.may_bits hu).2
    obtain ⟨r1, r2⟩ := A.rem_of (b := 4294967295 + 1 - 1) (by omega) (by omega) (q := q) rfl
    have HD1 := Lib.hid hd1
    obtain ⟨c4, c5⟩ := A.rem_of hbb.1 hbb.2 hd2
    have c6 : Int.tmod 4294967296 (q : Int) = 0 := by rw [Int.tmod_eq_emod_of_nonneg (by omega)]; exact HD1.out
    clear r1 r2 hsz hd1 hd2 hbb hq0
    by_cases hk : k = 32
    · subst hk
      clear hu
      clear hL
      go_enter Tryd.func7, Tryd.ntmps7
      go_wp2_with fail
      refine (awake_any (pbox w b 32) (HL.out.below HB0.out)).mono ?_
      rintro e w1 ⟨rfl, hb⟩
      have hkp := HKp0.out.below hb HKp0.out.lt
      have HKp1 := Lib.hid hkp
      have pf0 := pb0 hkp
      have pf1 := pb1 hkp
      have HB1 := Lib.hid (HB0.out.trans (hb.mono HB0.out.size))
      clear hb hkp
      go_wp2_with fail
      refine (size_any b 32 q w1 HS.out).mono ?_
      clear pf0 pf1
      rintro e w2 ⟨rfl, hb⟩
      have hkp := HKp1.out.below hb HKp1.out.lt
      have HKp2 := Lib.hid hkp
      have pf0 := pb0 hkp
      have pf1 := pb1 hkp
      have HB2 := Lib.hid (HB1.out.trans (hb.mono HB1.out.size))
      clear hb hkp
      go_wp2_with fail
      refine (may_any b 32 true w2 HU.out).mono ?_
      clear pf0 pf1
      rintro e w3 ⟨rfl, hb⟩
      have hkp := HKp2.out.below hb HKp2.out.lt
      have HKp3 := Lib.hid hkp
      have pf0 := pb0 hkp
      have pf1 := pb1 hkp
      have HB3 := Lib.hid (HB2.out.trans (hb.mono HB2.out.size))
      clear hb hkp
      have hb := pbox_below w3 b 33
      have HKp4 := Lib.hid (HKp3.out.below hb HKp3.out.lt)
      have pza0 := fun o => pb0 (HKp3.out.alloc o)
      have pza1 := fun o => pb1 (HKp3.out.alloc o)
      have HKz4 := Lib.hid (pbox_blok w3 b 33)
      have HB4 := Lib.hid (HB3.out.trans (hb.mono HB3.out.size))
      clear hb
      go_wp2
      go_ret
      exact ⟨rfl, HB4.out⟩
    · have d7 : (k == 32) = false := by simpa using hk
      obtain ⟨z, hz1, hz2, hz3, hz4⟩ := A.half_of hu hk HS.out
      have HZ := Lib.hid hz1
      have HM := Lib.hid hz3
      have HHB := Lib.hid hz4
      have e1 : Int.tdiv (q : Int) 2 = z := hz2
      have e2 : IntKind.i64.wrap (k + 1) = k + 1 := IntWalk.i64_in _ (by have := (A.may_bits hu).1; omega)
      have e3 : IntKind.i64.wrap (z : Int) = z := IntWalk.i64_in _ (by omega)
      clear hz1 hz3 hz4 hz2 hu
      clear hL
      go_enter Tryd.func7, Tryd.ntmps7
      go_wp2_with fail
      refine (awake_any (pbox w b k) (HL.out.below HB0.out)).mono ?_
      rintro e w1 ⟨rfl, hb⟩
      have hkp := HKp0.out.below hb HKp0.out.lt
      have HKp1 := Lib.hid hkp
      have pf0 := pb0 hkp
      have pf1 := pb1 hkp
      have HB1 := Lib.hid (HB0.out.trans (hb.mono HB0.out.size))
      clear hb hkp
      go_wp2_with fail
      refine (size_any b k q w1 HS.out).mono ?_
      clear pf0 pf1
      rintro e w2 ⟨rfl, hb⟩
      have hkp := HKp1.out.below hb HKp1.out.lt
      have HKp2 := Lib.hid hkp
      have pf0 := pb0 hkp
      have pf1 := pb1 hkp
      have HB2 := Lib.hid (HB1.out.trans (hb.mono HB1.out.size))
      clear hb hkp
      go_wp2_with fail
      refine (may_any b k true w2 HU.out).mono ?_
      clear pf0 pf1
      rintro e w3 ⟨rfl, hb⟩
      have hkp := HKp2.out.below hb HKp2.out.lt
      have HKp3 := Lib.hid hkp
      have pf0 := pb0 hkp
      have pf1 := pb1 hkp
      have HB3 := Lib.hid (HB2.out.trans (hb.mono HB2.out.size))
      clear hb hkp
      have hb := pbox_below w3 b (k + 1)
      have HKp4 := Lib.hid (HKp3.out.below hb HKp3.out.lt)
      have pza0 := fun o => pb0 (HKp3.out.alloc o)
      have pza1 := fun o => pb1 (HKp3.out.alloc o)
      have HKz4 := Lib.hid (pbox_blok w3 b (k + 1))
      have HB4 := Lib.hid (HB3.out.trans (hb.mono HB3.out.size))
      clear hb
      go_wp2_with fail
      refine (size_any b (k + 1) z (pbox w3 b (k + 1)) HZ.out).mono ?_
      clear pf0 pf1 pza0 pza1
      rintro e w5 ⟨rfl, hb⟩
      have hkp := HKp4.out.below hb HKp4.out.lt
      have HKp5 := Lib.hid hkp
      have pf0 := pb0 hkp
      have pf1 := pb1 hkp
      have hkz := HKz4.out.below hb HKz4.out.lt
      have HKz5 := Lib.hid hkz
      have zf0 := pb0 hkz
      have zf1 := pb1 hkz
      have HB5 := Lib.hid (HB4.out.trans (hb.mono HB4.out.size))
      clear hb hkp hkz
      go_wp2_with fail
      refine (meet_any b k b (k + 1) true w5 HM.out hb0 hb0).mono ?_
      clear pf0 pf1 zf0 zf1
      rintro e w6 ⟨rfl, hb⟩
      have hkp := HKp5.out.below hb HKp5.out.lt
      have HKp6 := Lib.hid hkp
      have pf0 := pb0 hkp
      have pf1 := pb1 hkp
      have hkz := HKz5.out.below hb HKz5.out.lt
      have HKz6 := Lib.hid hkz
      have zf0 := pb0 hkz
      have zf1 := pb1 hkz
      have HB6 := Lib.hid (HB5.out.trans (hb.mono HB5.out.size))
      clear hb hkp hkz
      go_wp2
      go_ret
      exact ⟨rfl, HB6.out⟩
end Go.Proofs.YtbaneeedoledoaaDoor
