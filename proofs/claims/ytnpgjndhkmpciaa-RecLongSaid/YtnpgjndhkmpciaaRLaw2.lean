/-
  Walk of moorings/mooringslaw05.RecLong: for every input it returns true.
-/
import Derived.Test.YtnpgjndhkmpciaaRLaw1
import Derived.Test.YtnpgjndhkmpciaaRLists
import Derived.Test.YtnpgjndhkmpciaaRRefScan
import Derived.Test.YtnpgjndhkmpciaaReg
namespace Go.Proofs.Ytnpgjndhkmpciaa
open Go.RowKit

theorem long_big (k : Int) (a : Option Addr) (n cap : Nat) (w : World) (h : 1100 < n) :
    Calls Try.prog 8 #[.agg #[.int .i64 k, .slice a n cap]] w fun e w' => e = .returned (.bool true) ∧ Below w.heap.size w w' := by
  have HBX := Lib.hid (recBox_below w k a n cap)
  have d1 : decide ((1100 : Int) < (n : Int)) = true := by simp; omega
  go_enter Try.func8, Try.ntmps8
  go_wp2_with fail
  refine (awake_any (recBox w k a n cap)).mono ?_
  rintro e w1 ⟨rfl, hb1⟩
  have B1 : Hid (Below (recBox w k a n cap).heap.size (recBox w k a n cap) w1) := Lib.hid hb1
  have W1 : Hid (Below w.heap.size w w1) := Lib.hid (HBX.out.trans (hb1.mono HBX.out.size))
  clear hb1
  have k0 := recBox_kind w k a n cap B1.out
  have k1 := recBox_body w k a n cap B1.out
  go_wp2
  go_ret
  exact ⟨rfl, W1.out⟩

set_option maxRecDepth 100000 in
set_option maxHeartbeats 1000000 in
theorem long_no (k : Int) (a : Option Addr) (n cap : Nat) (B : List Int) (w : World) (hl : B.length = n) (hr : RowIn .u8 w a cap B) (hz : a = none → n = 0 ∧ cap = 0) (h : n ≤ 1100) (hok : ¬ R.ok (k, B)) :
    Calls Try.prog 8 #[.agg #[.int .i64 k, .slice a n cap]] w fun e w' => e = .returned (.bool true) ∧ Below w.heap.size w w' := by
  have HBX := Lib.hid (recBox_below w k a n cap)
  have d1 : decide ((1100 : Int) < (n : Int)) = false := by simp; omega
  have hc : k < 0 ∨ (0 ≤ k ∧ 255 < k) ∨ (0 ≤ k ∧ k ≤ 255 ∧ 1000 < n) := by
    by_cases h0 : k < 0
    · exact .inl h0
    · by_cases h1 : 255 < k
      · exact .inr (.inl ⟨by omega, h1⟩)
      · refine .inr (.inr ⟨by omega, by omega, ?_⟩)
        by_cases h2 : 1000 < n
        · exact h2
        · exact absurd ⟨by omega, by omega, by show B.length ≤ 1000; omega⟩ hok
  have HL := Lib.hid hl
  have HR := Lib.hid (hr.below (recBox_below w k a n cap))
  have HZ := Lib.hid hz
  have HP := Lib.hid (R.put_no hok)
  clear hl hr hz hok h
  rcases hc with h0 | ⟨h0, h1⟩ | ⟨h0, h1, h2⟩
  · have e0 : decide (0 ≤ k) = false := by simp; omega
    go_enter Try.func8, Try.ntmps8
    go_wp2_with fail
    refine (awake_any (recBox w k a n cap)).mono ?_
    rintro e w1 ⟨rfl, hb1⟩
    have B1 : Hid (Below (recBox w k a n cap).heap.size (recBox w k a n cap) w1) := Lib.hid hb1
    have W1 : Hid (Below w.heap.size w w1) := Lib.hid (HBX.out.trans (hb1.mono HBX.out.size))
    clear hb1
    have k0 := recBox_kind w k a n cap B1.out
    have k1 := recBox_body w k a n cap B1.out
    go_wp2_with fail
    refine (recPut_any k a n cap B _ HL.out (HR.out.below B1.out) HZ.out).mono ?_
    rintro e w2 ⟨a2, c2, n2, rfl, l2, r2, z2, hb2⟩
    have C2 := Lib.hid hb2
    have B2 := Lib.hid (B1.out.trans (hb2.mono B1.out.size))
    have W2 := Lib.hid (W1.out.trans (hb2.mono W1.out.size))
    clear hb2
    rw [HP.out] at l2 r2 ⊢
    have hn2 : n2 = 0 := l2.out.symm
    subst hn2
    have hsm : (none : Option (List Int)).isSome = false := rfl
    clear k0 k1
    have k0 := recBox_kind w k a n cap B2.out
    have k1 := recBox_body w k a n cap B2.out
    go_wp2
    go_ret
    exact ⟨rfl, W2.out⟩
  · have e0 : decide (0 ≤ k) = true := by simp; omega
    have e1 : decide (k ≤ 255) = false := by simp; omega
    go_enter Try.func8, Try.ntmps8
    go_wp2_with fail
    refine (awake_any (recBox w k a n cap)).mono ?_
    rintro e w1 ⟨rfl, hb1⟩
    have B1 : Hid (Below (recBox w k a n cap).heap.size (recBox w k a n cap) w1) := Lib.hid hb1
    have W1 : Hid (Below w.heap.size w w1) := Lib.hid (HBX.out.trans (hb1.mono HBX.out.size))
    clear hb1
    have k0 := recBox_kind w k a n cap B1.out
    have k1 := recBox_body w k a n cap B1.out
    go_wp2_with fail
    refine (recPut_any k a n cap B _ HL.out (HR.out.below B1.out) HZ.out).mono ?_
    rintro e w2 ⟨a2, c2, n2, rfl, l2, r2, z2, hb2⟩
    have C2 := Lib.hid hb2
    have B2 := Lib.hid (B1.out.trans (hb2.mono B1.out.size))
    have W2 := Lib.hid (W1.out.trans (hb2.mono W1.out.size))
    clear hb2
    rw [HP.out] at l2 r2 ⊢
    have hn2 : n2 = 0 := l2.out.symm
    subst hn2
    have hsm : (none : Option (List Int)).isSome = false := rfl
    clear k0 k1
    have k0 := recBox_kind w k a n cap B2.out
    have k1 := recBox_body w k a n cap B2.out
    go_wp2
    go_ret
    exact ⟨rfl, W2.out⟩
  · have e0 : decide (0 ≤ k) = true := by simp; omega
    have e1 : decide (k ≤ 255) = true := by simp; omega
    have e2 : decide ((n : Int) ≤ 1000) = false := by simp; omega
    go_enter Try.func8, Try.ntmps8
    go_wp2_with fail
    refine (awake_any (recBox w k a n cap)).mono ?_
    rintro e w1 ⟨rfl, hb1⟩
    have B1 : Hid (Below (recBox w k a n cap).heap.size (recBox w k a n cap) w1) := Lib.hid hb1
    have W1 : Hid (Below w.heap.size w w1) := Lib.hid (HBX.out.trans (hb1.mono HBX.out.size))
    clear hb1
    have k0 := recBox_kind w k a n cap B1.out
    have k1 := recBox_body w k a n cap B1.out
    go_wp2_with fail
    refine (recPut_any k a n cap B _ HL.out (HR.out.below B1.out) HZ.out).mono ?_
    rintro e w2 ⟨a2, c2, n2, rfl, l2, r2, z2, hb2⟩
    have C2 := Lib.hid hb2
    have B2 := Lib.hid (B1.out.trans (hb2.mono B1.out.size))
    have W2 := Lib.hid (W1.out.trans (hb2.mono W1.out.size))
    clear hb2
    rw [HP.out] at l2 r2 ⊢
    have hn2 : n2 = 0 := l2.out.symm
    subst hn2
    have hsm : (none : Option (List Int)).isSome = false := rfl
    clear k0 k1
    have k0 := recBox_kind w k a n cap B2.out
    have k1 := recBox_body w k a n cap B2.out
    go_wp2
    go_ret
    exact ⟨rfl, W2.out⟩

set_option maxRecDepth 100000 in
set_option maxHeartbeats 1000000 in
theorem long_yes (k : Int) (a : Option Addr) (n cap : Nat) (B : List Int) (w : World) (hl : B.length = n) (hr : RowIn .u8 w a cap B) (hz : a = none → n = 0 ∧ cap = 0) (hok : R.ok (k, B)) :
    Calls Try.prog 8 #[.agg #[.int .i64 k, .slice a n cap]] w fun e w' => e = .returned (.bool true) ∧ Below w.heap.size w w' := by
  have HBX := Lib.hid (recBox_below w k a n cap)
  have hn : n ≤ 1000 := by have := hok.2.2; simp only [hl] at this; exact this
  have d1 : decide ((1100 : Int) < (n : Int)) = false := by simp; omega
  have e0 : decide (0 ≤ k) = true := by simp; exact hok.1
  have e1 : decide (k ≤ 255) = true := by simp; exact hok.2.1
  have e2 : decide ((n : Int) ≤ 1000) = true := by simp; omega
  have hlen := R.bytes_len (k, B)
  rw [R.put_len hok] at hlen
  simp only [hl] at hlen
  have HL := Lib.hid hl
  have HR := Lib.hid (hr.below (recBox_below w k a n cap))
  have HZ := Lib.hid hz
  have HP := Lib.hid (R.put_yes hok)
  have HLN := Lib.hid hlen
  clear hl hr hz hok hlen
  by_cases h128 : n < 128
  · have e3 : decide ((n : Int) < 128) = true := by simp; omega
    go_enter Try.func8, Try.ntmps8
    go_wp2_with fail
    refine (awake_any (recBox w k a n cap)).mono ?_
    rintro e w1 ⟨rfl, hb1⟩
    have B1 : Hid (Below (recBox w k a n cap).heap.size (recBox w k a n cap) w1) := Lib.hid hb1
    have W1 : Hid (Below w.heap.size w w1) := Lib.hid (HBX.out.trans (hb1.mono HBX.out.size))
    clear hb1
    have k0 := recBox_kind w k a n cap B1.out
    have k1 := recBox_body w k a n cap B1.out
    go_wp2_with fail
    refine (recPut_any k a n cap B _ HL.out (HR.out.below B1.out) HZ.out).mono ?_
    rintro e w2 ⟨a2, c2, n2, rfl, l2, r2, z2, hb2⟩
    have C2 := Lib.hid hb2
    have B2 := Lib.hid (B1.out.trans (hb2.mono B1.out.size))
    have W2 := Lib.hid (W1.out.trans (hb2.mono W1.out.size))
    clear hb2
    rw [HP.out] at l2 r2 ⊢
    have hn2 : (R.bytes (k, B)).length = n2 := l2.out
    rw [HLN.out] at hn2
    have hsm : (some (R.bytes (k, B))).isSome = true := rfl
    rw [if_pos h128] at hn2
    have q1 : ((n2 : Int) == (n : Int) + 6) = true := by simp; omega
    clear hn2
    clear k0 k1
    have k0 := recBox_kind w k a n cap B2.out
    have k1 := recBox_body w k a n cap B2.out
    go_wp2
    go_ret
    exact ⟨rfl, W2.out⟩
  · have e3 : decide ((n : Int) < 128) = false := by simp; omega
    have e4 : decide (128 ≤ (n : Int)) = true := by simp; omega
    go_enter Try.func8, Try.ntmps8
    go_wp2_with fail
    refine (awake_any (recBox w k a n cap)).mono ?_
    rintro e w1 ⟨rfl, hb1⟩
    have B1 : Hid (Below (recBox w k a n cap).heap.size (recBox w k a n cap) w1) := Lib.hid hb1
    have W1 : Hid (Below w.heap.size w w1) := Lib.hid (HBX.out.trans (hb1.mono HBX.out.size))
    clear hb1
    have k0 := recBox_kind w k a n cap B1.out
    have k1 := recBox_body w k a n cap B1.out
    go_wp2_with fail
    refine (recPut_any k a n cap B _ HL.out (HR.out.below B1.out) HZ.out).mono ?_
    rintro e w2 ⟨a2, c2, n2, rfl, l2, r2, z2, hb2⟩
    have C2 := Lib.hid hb2
    have B2 := Lib.hid (B1.out.trans (hb2.mono B1.out.size))
    have W2 := Lib.hid (W1.out.trans (hb2.mono W1.out.size))
    clear hb2
    rw [HP.out] at l2 r2 ⊢
    have hn2 : (R.bytes (k, B)).length = n2 := l2.out
    rw [HLN.out] at hn2
    have hsm : (some (R.bytes (k, B))).isSome = true := rfl
    rw [if_neg h128] at hn2
    have q1 : ((n2 : Int) == (n : Int) + 7) = true := by simp; omega
    clear hn2
    clear k0 k1
    have k0 := recBox_kind w k a n cap B2.out
    have k1 := recBox_body w k a n cap B2.out
    go_wp2
    go_ret
    exact ⟨rfl, W2.out⟩

theorem long_law (k : Int) (a : Option Addr) (n cap : Nat) (z : List Int) (w : World) (h : IsRow .u8 w a n cap z) :
    Calls Try.prog 8 #[.agg #[.int .i64 k, .slice a n cap]] w fun e w' => e = .returned (.bool true) ∧ Below w.heap.size w w' := by
  by_cases hb : 1100 < n
  · exact long_big k a n cap w hb
  · by_cases hok : R.ok (k, z.take n)
    · exact long_yes k a n cap _ w h.rowIn.2 h.rowIn.1 h.nil hok
    · exact long_no k a n cap _ w h.rowIn.2 h.rowIn.1 h.nil (by omega) hok
end Go.Proofs.Ytnpgjndhkmpciaa
