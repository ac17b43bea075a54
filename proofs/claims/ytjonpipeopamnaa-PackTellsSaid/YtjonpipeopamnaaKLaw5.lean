/-
  Walk of moorings/mooringslaw03.PackTells: for every input it returns true.
-/
import Derived.Test.YtjonpipeopamnaaKRef3
import Derived.Test.YtjonpipeopamnaaKLaw2
namespace Go.Proofs.Ytjonpipeopamnaa
open Go.RowKit

theorem tells_short (a0 a2 : Option Addr) (l0 l2 c0 c2 : Nat) (v n : Int) (w : World) (h : 410 < l0 ∨ (l0 ≤ 410 ∧ 1700 < l2)) :
    Calls Try.prog 3 #[.slice a0 l0 c0, .int .i64 v, .slice a2 l2 c2, .int .i64 n] w fun e w' => e = .returned (.bool true) ∧ Below w.heap.size w w' := by
  rcases h with h1 | ⟨h1, h2⟩
  · have d1 : decide (410 < (l0 : Int)) = true := by simp; omega
    go_enter Try.func3, Try.ntmps3
    go_wp2_with fail
    refine (awake_any _).mono ?_
    rintro e w1 ⟨rfl, hb1⟩
    have W1 := Lib.hid hb1
    clear hb1
    go_wp2
    go_ret
    exact ⟨rfl, W1.out⟩
  · have d1 : decide (410 < (l0 : Int)) = false := by simp; omega
    have d2 : decide (1700 < (l2 : Int)) = true := by simp; omega
    go_enter Try.func3, Try.ntmps3
    go_wp2_with fail
    refine (awake_any _).mono ?_
    rintro e w1 ⟨rfl, hb1⟩
    have W1 := Lib.hid hb1
    clear hb1
    go_wp2
    go_ret
    exact ⟨rfl, W1.out⟩

theorem ints_eq (a a' : Option Addr) (n m cap cap' : Nat) (L : List Int) (w : World) (hl : L.length = n) (hk : L.length = m) (h : RowIn .i64 w a cap L) (h' : RowIn .i64 w a' cap' L) :
    Calls Try.prog 14 #[.slice a n cap, .slice a' m cap'] w fun e w' => e = .returned (.bool true) ∧ Below w.heap.size w w' :=
  (ints_any a a' n m cap cap' L L w hl hk h h').mono fun e w' ⟨h1, h2⟩ => ⟨by rw [h1, decide_eq_true rfl], h2⟩
theorem refWidth_v (a : Option Addr) (len cap : Nat) (L : List Int) (t : Int) (h : K.width L = t) (w : World) (hl : L.length = len) (hr : RowIn .i64 w a cap L) : Calls Try.prog 16 #[.slice a len cap] w fun e w' => e = .returned (.int .i64 t) ∧ Below w.heap.size w w' := by
  rw [← h]; exact refWidth_any a len cap L w hl hr
theorem refSize_v (n v s : Int) (h : K.size n v = s) (w : World) : Calls Try.prog 18 #[.int .i64 n, .int .i64 v] w fun e w' => e = .returned (.int .i64 s) ∧ Below w.heap.size w w' :=
  (refSize_any n v w).mono fun e w' ⟨h1, h2⟩ => ⟨by rw [h1, h], by rw [← h2]; exact Below.refl _ _⟩

set_option maxRecDepth 100000 in
set_option maxHeartbeats 4000000 in
theorem tells_in (a0 a2 : Option Addr) (l0 l2 c0 c2 : Nat) (L D : List Int) (v n : Int) (w : World) (h0 : L.length = l0) (h2 : D.length = l2) (r0 : RowIn .i64 w a0 c0 L) (r2 : RowIn .u8 w a2 c2 D) (hl0 : l0 ≤ 410) (hl2 : l2 ≤ 1700) :
    Calls Try.prog 3 #[.slice a0 l0 c0, .int .i64 v, .slice a2 l2 c2, .int .i64 n] w fun e w' => e = .returned (.bool true) ∧ Below w.heap.size w w' := by
  have d1 : decide (410 < (l0 : Int)) = false := by simp; omega
  have d2 : decide (1700 < (l2 : Int)) = false := by simp; omega
  obtain ⟨is, his⟩ : ∃ b, (K.pack L v).isSome = b := ⟨_, rfl⟩
  obtain ⟨can, hcan⟩ : ∃ b, (K.unpack D n v).isSome = b := ⟨_, rfl⟩
  obtain ⟨sx, hsx⟩ : ∃ s, strOf ((K.pack L v).getD []) = s := ⟨_, rfl⟩
  obtain ⟨wd, hwd⟩ : ∃ s, K.width L = s := ⟨_, rfl⟩
  obtain ⟨sz, hsz⟩ : ∃ s, K.size n v = s := ⟨_, rfl⟩
  have Kis := Lib.hid his
  have Kcan := Lib.hid hcan
  have Ksx := Lib.hid hsx
  have Kwd := Lib.hid hwd
  have Ksz := Lib.hid hsz
  have L0 := Lib.hid h0
  have L2 := Lib.hid h2
  have R0 := Lib.hid r0
  have R2 := Lib.hid r2
  clear his hcan hsx hwd hsz h0 h2 r0 r2
  go_enter Try.func3, Try.ntmps3
  go_wp2_with fail
  refine (awake_any _).mono ?_
  rintro e w1 ⟨rfl, hb1⟩
  have W1 := Lib.hid hb1
  clear hb1
  go_wp2_with fail
  refine (packRow_any _ l0 _ L v _ L0.out (R0.out.below W1.out)).mono ?_
  rintro e w2 ⟨x2, y2, n2, rfl, p2, q2, hb2⟩
  rw [Kis.out]
  have B2 := Lib.hid hb2
  have W2 := Lib.hid (W1.out.trans (hb2.mono W1.out.size))
  clear hb2
  go_wp2_with fail
  refine (refPackRow_any _ l0 _ L v _ L0.out (R0.out.below W2.out)).mono ?_
  rintro e w3 ⟨x3, y3, n3, rfl, p3, q3, hb3⟩
  rw [Kis.out]
  have B3 := Lib.hid hb3
  have W3 := Lib.hid (W2.out.trans (hb3.mono W2.out.size))
  clear hb3
  go_wp2_with fail
  refine (unpackRow_any _ l2 _ D n v _ L2.out (R2.out.below W3.out)).mono ?_
  rintro e w4 ⟨x4, y4, n4, rfl, p4, q4, hb4⟩
  rw [Kcan.out]
  have B4 := Lib.hid hb4
  have W4 := Lib.hid (W3.out.trans (hb4.mono W3.out.size))
  clear hb4
  go_wp2_with fail
  refine (refUnpackRow_any _ l2 _ D n v _ L2.out (R2.out.below W4.out)).mono ?_
  rintro e w5 ⟨x5, y5, n5, rfl, p5, q5, hb5⟩
  rw [Kcan.out]
  have B5 := Lib.hid hb5
  have W5 := Lib.hid (W4.out.trans (hb5.mono W4.out.size))
  clear hb5
  go_wp2_with fail
  refine (ints_eq _ _ n4 n5 _ _ _ _ p4.out p5.out (q4.out.below B5.out) q5.out).mono ?_
  rintro e w6 ⟨rfl, hb6⟩
  have B6 := Lib.hid hb6
  have W6 := Lib.hid (W5.out.trans (hb6.mono W5.out.size))
  clear hb6
  have cx := conv_row ((((q2.out.below B3.out).below B4.out).below B5.out).below B6.out) p2.out
  have cy := conv_row (((q3.out.below B4.out).below B5.out).below B6.out) p3.out
  rw [Ksx.out] at cx cy
  go_wp2_with fail
  refine (width_v _ l0 _ L wd Kwd.out _ L0.out (R0.out.below W6.out)).mono ?_
  rintro e w7 ⟨rfl, hb7⟩
  have B7 := Lib.hid hb7
  have W7 := Lib.hid (W6.out.trans (hb7.mono W6.out.size))
  clear hb7
  go_wp2_with fail
  refine (refWidth_v _ l0 _ L wd Kwd.out _ L0.out (R0.out.below W7.out)).mono ?_
  rintro e w8 ⟨rfl, hb8⟩
  have B8 := Lib.hid hb8
  have W8 := Lib.hid (W7.out.trans (hb8.mono W7.out.size))
  clear hb8
  go_wp2_with fail
  refine (size_v n v sz Ksz.out _).mono ?_
  rintro e w9 ⟨rfl, hb9⟩
  have B9 := Lib.hid hb9
  have W9 := Lib.hid (W8.out.trans (hb9.mono W8.out.size))
  clear hb9
  go_wp2_with fail
  refine (refSize_v n v sz Ksz.out _).mono ?_
  rintro e w10 ⟨rfl, hb10⟩
  have B10 := Lib.hid hb10
  have W10 := Lib.hid (W9.out.trans (hb10.mono W9.out.size))
  clear hb10
  go_wp2
  go_ret
  exact ⟨rfl, W10.out⟩

theorem tells_law (a0 a2 : Option Addr) (l0 l2 c0 c2 : Nat) (z0 z2 : List Int) (v n : Int) (w : World) (w0 : IsRow .i64 w a0 l0 c0 z0) (w2 : IsRow .u8 w a2 l2 c2 z2) :
    Calls Try.prog 3 #[.slice a0 l0 c0, .int .i64 v, .slice a2 l2 c2, .int .i64 n] w fun e w' => e = .returned (.bool true) ∧ Below w.heap.size w w' := by
  by_cases h0 : 410 < l0
  · exact tells_short a0 a2 l0 l2 c0 c2 v n w (.inl h0)
  · by_cases h1 : 1700 < l2
    · exact tells_short a0 a2 l0 l2 c0 c2 v n w (.inr ⟨by omega, h1⟩)
    · exact tells_in a0 a2 l0 l2 c0 c2 _ _ v n w w0.rowIn.2 w2.rowIn.2 w0.rowIn.1 w2.rowIn.1 (by omega) (by omega)
end Go.Proofs.Ytjonpipeopamnaa
