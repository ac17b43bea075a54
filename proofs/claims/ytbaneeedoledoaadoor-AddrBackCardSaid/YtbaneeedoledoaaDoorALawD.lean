/-
  AddrLong, at every address and prefix.
-/
import Derived.Test.YtbaneeedoledoaaDoorAAwake
namespace Go.Proofs.YtbaneeedoledoaaDoor
open Go.RowKit

theorem A.txt_says (a : Int) : (A.txt a = [] ∧ (a < 0 ∨ 4294967296 ≤ a)) ∨ (A.txt a ≠ [] ∧ (0 ≤ a ∧ a < 4294967296) ∧ 7 ≤ (A.txt a).length ∧ (A.txt a).length ≤ 15 ∧ (A.txt a).count 46 = 3) := by
  by_cases h : 0 ≤ a ∧ a < 4294967296
  · obtain ⟨n, rfl, hn, ht⟩ := A.txt_of h.1 h.2
    rw [ht]
    exact .inr ⟨A.text_ne n, h, (A.text_len hn).1, (A.text_len hn).2, A.count_text n⟩
  · exact .inl ⟨by unfold A.txt; rw [if_neg h], by omega⟩
theorem A.txtAll_le (b k : Int) : (A.txtAll b k).length ≤ 18 := by
  cases h : A.may b k
  · unfold A.txtAll; rw [h]; simp
  · obtain ⟨n, j, rfl, rfl, hn, hj, _, _⟩ := A.txtAll_of h
    unfold A.txtAll; rw [h, if_pos rfl]
    exact A.textAll_len (by simpa using hn) (by simp; omega)
theorem _root_.ByteArray.size_eq_len (t : ByteArray) : t.data.toList.length = t.size := rfl

set_option maxHeartbeats 800000 in
theorem long_in (a b k : Int) (w : World) (hL : Laid w) (ha : -9223372036854775808 ≤ a ∧ a ≤ 9223372036854775807) :
    Calls Tryd.prog 9 #[.int .i64 a, .agg #[.int .i64 b, .int .i64 k]] w fun e w' => e = .returned (.bool true) ∧ Below w.heap.size w w' := by
  have HL := Lib.hid hL
  have HB0 := Lib.hid (pbox_below w b k)
  have HKp0 := Lib.hid (pbox_blok w b k)
  obtain ⟨t, ht⟩ : ∃ t, str (A.txt a) = t := ⟨_, rfl⟩
  obtain ⟨u, hu⟩ : ∃ u, str (A.txtAll b k) = u := ⟨_, rfl⟩
  have HF := Lib.hid (A.txt_says a)
  have hu18 := A.txtAll_le b k
  rw [← str_size, hu] at hu18
  have hte : (A.txt a) = t.data.toList := by rw [← ht]; rfl
  rw [hte] at HF
  have ht15 : t.size ≤ 15 := by
    rw [← t.size_eq_len]
    rcases HF.out with h | h
    · rw [h.1]; simp
    · exact h.2.2.2.1
  have du : decide ((u.size : Int) ≤ 18) = true := decide_eq_true (by omega)
  have HT : Hid (∀ W, Laid W → Calls Tryd.prog 25 #[.int .i64 a] W fun e w' => e = .returned (.string t) ∧ Below W.heap.size W w') := Lib.hid (fun W hW => by rw [← ht]; exact text_any a _ W hW rfl)
  have HU : Hid (∀ W, Laid W → Calls Tryd.prog 27 #[.agg #[.int .i64 b, .int .i64 k]] W fun e w' => e = .returned (.string u) ∧ Below W.heap.size W w') := Lib.hid (fun W hW => by rw [← hu]; exact textAll_any b k _ W hW rfl)
  clear ht hu hte hu18
  clear hL
  go_enter Tryd.func9, Tryd.ntmps9
  go_wp2_with fail
  refine (awake_any (pbox w b k) (HL.out.below HB0.out)).mono ?_
  rintro e w1 ⟨rfl, hb⟩
  have hkp := HKp0.out.below hb HKp0.out.lt
  have HKp1 := Lib.hid hkp
  have pf0 := pb0 hkp
  have pf1 := pb1 hkp
  have HB1 := Lib.hid (HB0.out.trans (hb.mono HB0.out.size))
  clear hb hkp
  go_wp2_with fail
  refine (HT.out w1 (HL.out.below HB1.out)).mono ?_
  clear pf0 pf1
  rintro e w2 ⟨rfl, hb⟩
  have hkp := HKp1.out.below hb HKp1.out.lt
  have HKp2 := Lib.hid hkp
  have pf0 := pb0 hkp
  have pf1 := pb1 hkp
  have HB2 := Lib.hid (HB1.out.trans (hb.mono HB1.out.size))
  clear hb hkp
  go_wp2_with fail
  refine (HU.out w2 (HL.out.below HB2.out)).mono ?_
  clear pf0 pf1
  rintro e w3 ⟨rfl, hb⟩
  have hkp := HKp2.out.below hb HKp2.out.lt
  have HKp3 := Lib.hid hkp
  have pf0 := pb0 hkp
  have pf1 := pb1 hkp
  have HB3 := Lib.hid (HB2.out.trans (hb.mono HB2.out.size))
  clear hb hkp
  clear pf0 pf1
  go_wp2_with fail
  go_loopg [8, 9] t.size (fun g n i wr => ∃ (j m : Nat), i = .int .i64 j ∧ n = .int .i64 m ∧ j + g = t.size ∧ m ≤ j ∧ Hid ((t.data.toList.take j).count 46 = m) ∧ wr = w3)
  case atStart => exact ⟨0, 0, rfl, rfl, by omega, by omega, Lib.hid (by simp), rfl⟩
  case round =>
    obtain ⟨j, m, rfl, rfl, hjg, hmj, HC, rfl⟩ := hrel
    by_cases hlt : j < t.size
    · obtain ⟨c, hs, hs1, hsc⟩ := bytes_at t j hlt
      have d1 : decide ((j : Int) < (t.size : Int)) = true := by simp; omega
      obtain ⟨y, hy⟩ : ∃ y, c.toNat = y := ⟨_, rfl⟩
      rw [hy] at hsc
      have HS1 := Lib.hid hs1
      have HY := Lib.hid hy
      clear hs hs1 hy
      by_cases hp : y = 46
      · subst hp
        have HC2 : Hid ((t.data.toList.take (j + 1)).count 46 = m + 1) := Lib.hid (by
          have hc : c = 46 := UInt8.toNat_inj.1 HY.out
          rw [HS1.out, List.count_append, HC.out, hc]; rfl)
        go_wp2
        go_roundg (t.size - (j + 1))
        case rel => exact ⟨j + 1, m + 1, by go_num, by go_num, by omega, by omega, HC2, rfl⟩
        case measure => omega
      · have HC2 : Hid ((t.data.toList.take (j + 1)).count 46 = m) := Lib.hid (by
          have hc : ¬ c = 46 := fun h => hp (by rw [← HY.out, h]; rfl)
          rw [HS1.out, List.count_append, HC.out, List.count_cons_of_ne hc]; rfl)
        have d2 : ¬ (y : Int) = 46 := by omega
        have d3 : ((y : Int) == 46) = false := by rw [beq_eq_false_iff_ne]; exact d2
        go_wp2
        go_roundg (t.size - (j + 1))
        case rel => exact ⟨j + 1, m, by go_num, rfl, by omega, by omega, HC2, rfl⟩
        case measure => omega
    · have d1 : decide ((j : Int) < (t.size : Int)) = false := by simp; omega
      obtain rfl : j = t.size := by omega
      have HM : Hid (t.data.toList.count 46 = m) := Lib.hid (by
        have h := HC.out
        rw [List.take_of_length_le (show t.data.toList.length ≤ t.size from Nat.le_refl _)] at h
        exact h)
      rcases HF.out with ⟨g1, g2⟩ | ⟨g1, g2, g3, g4, g5⟩
      · have e1 : t.toList.isEmpty = true := by rw [ByteArray.toList_eq, g1]; rfl
        have e2 : t.toList = [] := by rw [ByteArray.toList_eq, g1]
        by_cases g3 : a < 0
        · have e3 : decide (a < 0) = true := decide_eq_true g3
          clear g1 g2 HF
          go_wp2
          go_ret
          exact ⟨rfl, HB3.out⟩
        · have e3 : decide (a < 0) = false := decide_eq_false g3
          have e4 : decide (4294967296 ≤ a) = true := decide_eq_true (by omega)
          clear g1 g2 HF
          go_wp2
          go_ret
          exact ⟨rfl, HB3.out⟩
      · have e1 : t.toList.isEmpty = false := by rw [ByteArray.toList_eq]; simpa using g1
        have e2 : ¬ t.toList = [] := by rw [ByteArray.toList_eq]; exact g1
        have e3 : decide (a < 0) = false := decide_eq_false (by omega)
        have e4 : decide (4294967296 ≤ a) = false := decide_eq_false (by omega)
        have e5 : decide (7 ≤ (t.size : Int)) = true := decide_eq_true (by have := t.size_eq_len; omega)
        have e6 : decide ((t.size : Int) ≤ 15) = true := decide_eq_true (by have := t.size_eq_len; omega)
        obtain rfl : m = 3 := by rw [← HM.out]; exact g5
        clear g1 g2 g3 g4 g5 HF
        go_wp2
        go_ret
        exact ⟨rfl, HB3.out⟩
end Go.Proofs.YtbaneeedoledoaaDoor
