/-
  Walk of moorings/mooringslaw05.RecTells: for every input it returns true.
-/
import Derived.Test.YtnpgjndhkmpciaaRLaw1
import Derived.Test.YtnpgjndhkmpciaaRLists
import Derived.Test.YtnpgjndhkmpciaaRRefScan
import Derived.Test.YtnpgjndhkmpciaaReg
import Derived.Test.YtnpgjndhkmpciaaRBox2
import Derived.Test.YtnpgjndhkmpciaaRTwo
namespace Go.Proofs.Ytnpgjndhkmpciaa
open Go.RowKit

set_option maxRecDepth 100000 in
set_option maxHeartbeats 1000000 in
theorem tells_big (k : Int) (a : Option Addr) (n cap : Nat) (k' : Int) (a' : Option Addr) (n' cap' : Nat) (al : Option Addr) (len cl : Nat) (p : Int) (B B' : List Int) (w : World) (hl : B.length = n) (hl' : B'.length = n') (hr : RowIn .u8 w a cap B) (hr' : RowIn .u8 w a' cap' B') (hz : a = none → n = 0 ∧ cap = 0) (hz' : a' = none → n' = 0 ∧ cap' = 0) (h : ¬ (n ≤ 1100 ∧ n' ≤ 1100) ∨ 3000 < len) :
    Calls Try.prog 3 #[.agg #[.int .i64 k, .slice a n cap], .agg #[.int .i64 k', .slice a' n' cap'], .slice al len cl, .int .i64 p] w fun e w' => e = .returned (.bool true) ∧ Below w.heap.size w w' := by
  have HBX := Lib.hid (recBox2_below w k a n cap k' a' n' cap')
  have HL := Lib.hid hl
  have HL' := Lib.hid hl'
  have HR := Lib.hid (hr.below (recBox2_below w k a n cap k' a' n' cap'))
  have HR' := Lib.hid (hr'.below (recBox2_below w k a n cap k' a' n' cap'))
  have HZ := Lib.hid hz
  have HZ' := Lib.hid hz'
  by_cases hf : n ≤ 1100 ∧ n' ≤ 1100
  · have HF := Lib.hid (decide_eq_true hf)
    have d3 : decide ((3000 : Int) < (len : Int)) = true := by simp; omega
    clear hl hl' hr hr' hz hz' hf h
    go_enter Try.func3, Try.ntmps3
    go_wp2_with fail
    refine (awake_any (recBox2 w k a n cap k' a' n' cap')).mono ?_
    rintro e w1 ⟨rfl, hb1⟩
    have B1 : Hid (Below (recBox2 w k a n cap k' a' n' cap').heap.size (recBox2 w k a n cap k' a' n' cap') w1) := Lib.hid hb1
    have W1 : Hid (Below w.heap.size w w1) := Lib.hid (HBX.out.trans (hb1.mono HBX.out.size))
    clear hb1
    have k0 := recBox_kind w k a n cap (recBox2_first w k a n cap k' a' n' cap' B1.out)
    have k1 := recBox_body w k a n cap (recBox2_first w k a n cap k' a' n' cap' B1.out)
    have k2 := recBox2_kind w k a n cap k' a' n' cap' B1.out
    have k3 := recBox2_body w k a n cap k' a' n' cap' B1.out
    go_wp2_with fail
    refine (few2_any k k' a a' n n' cap cap' B B' true _ ⟨HL.out, HR.out.below B1.out, HZ.out⟩ ⟨HL'.out, HR'.out.below B1.out, HZ'.out⟩ HF.out).mono ?_
    rintro e w2 ⟨rfl, hb2⟩
    have C2 := Lib.hid hb2
    have B2 := Lib.hid (B1.out.trans (hb2.mono B1.out.size))
    have W2 := Lib.hid (W1.out.trans (hb2.mono W1.out.size))
    clear hb2
    clear k0 k1 k2 k3
    have k0 := recBox_kind w k a n cap (recBox2_first w k a n cap k' a' n' cap' B2.out)
    have k1 := recBox_body w k a n cap (recBox2_first w k a n cap k' a' n' cap' B2.out)
    have k2 := recBox2_kind w k a n cap k' a' n' cap' B2.out
    have k3 := recBox2_body w k a n cap k' a' n' cap' B2.out
    go_wp2
    go_ret
    exact ⟨rfl, W2.out⟩
  · have HF := Lib.hid (decide_eq_false hf)
    clear hl hl' hr hr' hz hz' hf h
    go_enter Try.func3, Try.ntmps3
    go_wp2_with fail
    refine (awake_any (recBox2 w k a n cap k' a' n' cap')).mono ?_
    rintro e w1 ⟨rfl, hb1⟩
    have B1 : Hid (Below (recBox2 w k a n cap k' a' n' cap').heap.size (recBox2 w k a n cap k' a' n' cap') w1) := Lib.hid hb1
    have W1 : Hid (Below w.heap.size w w1) := Lib.hid (HBX.out.trans (hb1.mono HBX.out.size))
    clear hb1
    have k0 := recBox_kind w k a n cap (recBox2_first w k a n cap k' a' n' cap' B1.out)
    have k1 := recBox_body w k a n cap (recBox2_first w k a n cap k' a' n' cap' B1.out)
    have k2 := recBox2_kind w k a n cap k' a' n' cap' B1.out
    have k3 := recBox2_body w k a n cap k' a' n' cap' B1.out
    go_wp2_with fail
    refine (few2_any k k' a a' n n' cap cap' B B' false _ ⟨HL.out, HR.out.below B1.out, HZ.out⟩ ⟨HL'.out, HR'.out.below B1.out, HZ'.out⟩ HF.out).mono ?_
    rintro e w2 ⟨rfl, hb2⟩
    have C2 := Lib.hid hb2
    have B2 := Lib.hid (B1.out.trans (hb2.mono B1.out.size))
    have W2 := Lib.hid (W1.out.trans (hb2.mono W1.out.size))
    clear hb2
    clear k0 k1 k2 k3
    have k0 := recBox_kind w k a n cap (recBox2_first w k a n cap k' a' n' cap' B2.out)
    have k1 := recBox_body w k a n cap (recBox2_first w k a n cap k' a' n' cap' B2.out)
    have k2 := recBox2_kind w k a n cap k' a' n' cap' B2.out
    have k3 := recBox2_body w k a n cap k' a' n' cap' B2.out
    go_wp2
    go_ret
    exact ⟨rfl, W2.out⟩

set_option maxRecDepth 100000 in
set_option maxHeartbeats 4000000 in
theorem tells_in (k : Int) (a : Option Addr) (n cap : Nat) (k' : Int) (a' : Option Addr) (n' cap' : Nat) (al : Option Addr) (len cl : Nat) (p : Int) (B B' L : List Int) (w : World) (hl : B.length = n) (hl' : B'.length = n') (hr : RowIn .u8 w a cap B) (hr' : RowIn .u8 w a' cap' B') (hz : a = none → n = 0 ∧ cap = 0) (hz' : a' = none → n' = 0 ∧ cap' = 0) (hll : L.length = len) (hrl : RowIn .u8 w al cl L) (hzl : al = none → len = 0 ∧ cl = 0) (hf : n ≤ 1100 ∧ n' ≤ 1100) (hlen : len ≤ 3000) :
    Calls Try.prog 3 #[.agg #[.int .i64 k, .slice a n cap], .agg #[.int .i64 k', .slice a' n' cap'], .slice al len cl, .int .i64 p] w fun e w' => e = .returned (.bool true) ∧ Below w.heap.size w w' := by
  have HBX := Lib.hid (recBox2_below w k a n cap k' a' n' cap')
  have HL := Lib.hid hl
  have HL' := Lib.hid hl'
  have HR := Lib.hid (hr.below (recBox2_below w k a n cap k' a' n' cap'))
  have HR' := Lib.hid (hr'.below (recBox2_below w k a n cap k' a' n' cap'))
  have HZ := Lib.hid hz
  have HZ' := Lib.hid hz'
  have HF := Lib.hid (decide_eq_true hf)
  have d3 : decide ((3000 : Int) < (len : Int)) = false := by simp; omega
  have h9 : len ≤ 90000 := by omega
  have LL := Lib.hid hll
  have RL := Lib.hid (hrl.below (recBox2_below w k a n cap k' a' n' cap'))
  have ZL := Lib.hid hzl
  obtain ⟨o, ho⟩ : ∃ b, (R.put (k, B)).isSome = b := ⟨_, rfl⟩
  obtain ⟨sp, hsp⟩ : ∃ s, strOf ((R.put (k, B)).getD []) = s := ⟨_, rfl⟩
  obtain ⟨t, ht⟩ : ∃ t, (R.get L p).2.2 = t := ⟨_, rfl⟩
  obtain ⟨er, her⟩ : ∃ t, (R.get L p).1 = t := ⟨_, rfl⟩
  obtain ⟨q, hq⟩ : ∃ q, R.stop L = q := ⟨_, rfl⟩
  obtain ⟨d, hd⟩ : ∃ d, decide (((k, B) : R.T) = (k', B')) = d := ⟨_, rfl⟩
  have KO := Lib.hid ho
  have KS := Lib.hid hsp
  have KT := Lib.hid ht
  have KE := Lib.hid her
  have KQ := Lib.hid hq
  have KD := Lib.hid hd
  clear hl hl' hr hr' hz hz' hf hll hrl hzl ho hsp ht her hq hd hlen
  go_enter Try.func3, Try.ntmps3
  go_wp2_with fail
  refine (awake_any (recBox2 w k a n cap k' a' n' cap')).mono ?_
  rintro e w1 ⟨rfl, hb1⟩
  have B1 : Hid (Below (recBox2 w k a n cap k' a' n' cap').heap.size (recBox2 w k a n cap k' a' n' cap') w1) := Lib.hid hb1
  have W1 : Hid (Below w.heap.size w w1) := Lib.hid (HBX.out.trans (hb1.mono HBX.out.size))
  clear hb1
  have k0 := recBox_kind w k a n cap (recBox2_first w k a n cap k' a' n' cap' B1.out)
  have k1 := recBox_body w k a n cap (recBox2_first w k a n cap k' a' n' cap' B1.out)
  have k2 := recBox2_kind w k a n cap k' a' n' cap' B1.out
  have k3 := recBox2_body w k a n cap k' a' n' cap' B1.out
  go_wp2_with fail
  refine (few2_any k k' a a' n n' cap cap' B B' true _ ⟨HL.out, HR.out.below B1.out, HZ.out⟩ ⟨HL'.out, HR'.out.below B1.out, HZ'.out⟩ HF.out).mono ?_
  rintro e w2 ⟨rfl, hb2⟩
  have C2 := Lib.hid hb2
  have B2 := Lib.hid (B1.out.trans (hb2.mono B1.out.size))
  have W2 := Lib.hid (W1.out.trans (hb2.mono W1.out.size))
  clear hb2
  clear k0 k1 k2 k3
  have k0 := recBox_kind w k a n cap (recBox2_first w k a n cap k' a' n' cap' B2.out)
  have k1 := recBox_body w k a n cap (recBox2_first w k a n cap k' a' n' cap' B2.out)
  have k2 := recBox2_kind w k a n cap k' a' n' cap' B2.out
  have k3 := recBox2_body w k a n cap k' a' n' cap' B2.out
  go_wp2_with fail
  refine (recPut_any k a n cap B _ HL.out (HR.out.below B2.out) HZ.out).mono ?_
  rintro e w3 ⟨a3, c3, n3, rfl, l3, r3, z3, hb3⟩
  rw [KO.out]
  have C3 := Lib.hid hb3
  have B3 := Lib.hid (B2.out.trans (hb3.mono B2.out.size))
  have W3 := Lib.hid (W2.out.trans (hb3.mono W2.out.size))
  clear hb3
  clear k0 k1 k2 k3
  have k0 := recBox_kind w k a n cap (recBox2_first w k a n cap k' a' n' cap' B3.out)
  have k1 := recBox_body w k a n cap (recBox2_first w k a n cap k' a' n' cap' B3.out)
  have k2 := recBox2_kind w k a n cap k' a' n' cap' B3.out
  have k3 := recBox2_body w k a n cap k' a' n' cap' B3.out
  go_wp2_with fail
  refine (refRecPut_any k a n cap B _ HL.out (HR.out.below B3.out) HZ.out).mono ?_
  rintro e w4 ⟨a4, c4, n4, rfl, l4, r4, z4, hb4⟩
  rw [KO.out]
  have C4 := Lib.hid hb4
  have B4 := Lib.hid (B3.out.trans (hb4.mono B3.out.size))
  have W4 := Lib.hid (W3.out.trans (hb4.mono W3.out.size))
  clear hb4
  have RP4 := Lib.hid (r3.out.below C4.out)
  clear k0 k1 k2 k3
  have k0 := recBox_kind w k a n cap (recBox2_first w k a n cap k' a' n' cap' B4.out)
  have k1 := recBox_body w k a n cap (recBox2_first w k a n cap k' a' n' cap' B4.out)
  have k2 := recBox2_kind w k a n cap k' a' n' cap' B4.out
  have k3 := recBox2_body w k a n cap k' a' n' cap' B4.out
  go_wp2_with fail
  refine (recGet_any al len cl p L _ h9 LL.out (RL.out.below B4.out) ZL.out).mono ?_
  rintro e w5 hget
  obtain ⟨⟨k5', a5', n5', c5', b5'⟩, rfl, HX5, ho5, _, hb5'⟩ := hget.place
  rw [KT.out]
  rw [KE.out]
  have hb5 := hb5'.trans ((recBox_below w5 k5' a5' n5' c5').mono hb5'.size)
  have HO5 := Lib.hid (ho5.out.below (recBox_below w5 k5' a5' n5' c5'))
  clear hget ho5 hb5'
  have C5 := Lib.hid hb5
  have B5 := Lib.hid (B4.out.trans (hb5.mono B4.out.size))
  have W5 := Lib.hid (W4.out.trans (hb5.mono W4.out.size))
  clear hb5
  have X5 := Lib.hid (Below.refl (recBox w5 k5' a5' n5' c5').heap.size (recBox w5 k5' a5' n5' c5'))
  clear k0 k1 k2 k3
  have k0 := recBox_kind w k a n cap (recBox2_first w k a n cap k' a' n' cap' B5.out)
  have k1 := recBox_body w k a n cap (recBox2_first w k a n cap k' a' n' cap' B5.out)
  have k2 := recBox2_kind w k a n cap k' a' n' cap' B5.out
  have k3 := recBox2_body w k a n cap k' a' n' cap' B5.out
  have f5' := recBox_kind w5 k5' a5' n5' c5' X5.out
  have g5' := recBox_body w5 k5' a5' n5' c5' X5.out
  go_wp2_with fail
  refine (refRecGet_any al len cl p L _ h9 LL.out (RL.out.below B5.out)).mono ?_
  rintro e w6 hget
  obtain ⟨⟨k6', a6', n6', c6', b6'⟩, rfl, HX6, ho6, _, hb6'⟩ := hget.place
  rw [KT.out]
  rw [KE.out]
  have hb6 := hb6'.trans ((recBox_below w6 k6' a6' n6' c6').mono hb6'.size)
  have HO6 := Lib.hid (ho6.out.below (recBox_below w6 k6' a6' n6' c6'))
  clear hget ho6 hb6'
  have C6 := Lib.hid hb6
  have B6 := Lib.hid (B5.out.trans (hb6.mono B5.out.size))
  have X6 := Lib.hid (X5.out.trans (hb6.mono X5.out.size))
  have W6 := Lib.hid (W5.out.trans (hb6.mono W5.out.size))
  clear hb6
  have Y6 := Lib.hid (Below.refl (recBox w6 k6' a6' n6' c6').heap.size (recBox w6 k6' a6' n6' c6'))
  clear k0 k1 k2 k3 f5' g5'
  have k0 := recBox_kind w k a n cap (recBox2_first w k a n cap k' a' n' cap' B6.out)
  have k1 := recBox_body w k a n cap (recBox2_first w k a n cap k' a' n' cap' B6.out)
  have k2 := recBox2_kind w k a n cap k' a' n' cap' B6.out
  have k3 := recBox2_body w k a n cap k' a' n' cap' B6.out
  have f5' := recBox_kind w5 k5' a5' n5' c5' X6.out
  have g5' := recBox_body w5 k5' a5' n5' c5' X6.out
  have f6' := recBox_kind w6 k6' a6' n6' c6' Y6.out
  have g6' := recBox_body w6 k6' a6' n6' c6' Y6.out
  go_wp2_with fail
  refine (scan_any al len cl L _ h9 LL.out (RL.out.below B6.out) ZL.out).mono ?_
  rintro e w7 ⟨a7, n7, c7, xs, rfl, l7, x7, r7, hb7⟩
  rw [KQ.out]
  have C7 := Lib.hid hb7
  have B7 := Lib.hid (B6.out.trans (hb7.mono B6.out.size))
  have X7 := Lib.hid (X6.out.trans (hb7.mono X6.out.size))
  have Y7 := Lib.hid (Y6.out.trans (hb7.mono Y6.out.size))
  have W7 := Lib.hid (W6.out.trans (hb7.mono W6.out.size))
  clear hb7
  clear k0 k1 k2 k3 f5' g5' f6' g6'
  have k0 := recBox_kind w k a n cap (recBox2_first w k a n cap k' a' n' cap' B7.out)
  have k1 := recBox_body w k a n cap (recBox2_first w k a n cap k' a' n' cap' B7.out)
  have k2 := recBox2_kind w k a n cap k' a' n' cap' B7.out
  have k3 := recBox2_body w k a n cap k' a' n' cap' B7.out
  have f5' := recBox_kind w5 k5' a5' n5' c5' X7.out
  have g5' := recBox_body w5 k5' a5' n5' c5' X7.out
  have f6' := recBox_kind w6 k6' a6' n6' c6' Y7.out
  have g6' := recBox_body w6 k6' a6' n6' c6' Y7.out
  go_wp2_with fail
  refine (refScan_any al len cl L _ h9 LL.out (RL.out.below B7.out)).mono ?_
  rintro e w8 ⟨a8, n8, c8, ys, rfl, l8, x8, r8, hb8⟩
  rw [KQ.out]
  have C8 := Lib.hid hb8
  have B8 := Lib.hid (B7.out.trans (hb8.mono B7.out.size))
  have X8 := Lib.hid (X7.out.trans (hb8.mono X7.out.size))
  have Y8 := Lib.hid (Y7.out.trans (hb8.mono Y7.out.size))
  have W8 := Lib.hid (W7.out.trans (hb8.mono W7.out.size))
  clear hb8
  have RS8 := Lib.hid (r7.out.below C8.out)
  clear k0 k1 k2 k3 f5' g5' f6' g6'
  have k0 := recBox_kind w k a n cap (recBox2_first w k a n cap k' a' n' cap' B8.out)
  have k1 := recBox_body w k a n cap (recBox2_first w k a n cap k' a' n' cap' B8.out)
  have k2 := recBox2_kind w k a n cap k' a' n' cap' B8.out
  have k3 := recBox2_body w k a n cap k' a' n' cap' B8.out
  have f5' := recBox_kind w5 k5' a5' n5' c5' X8.out
  have g5' := recBox_body w5 k5' a5' n5' c5' X8.out
  have f6' := recBox_kind w6 k6' a6' n6' c6' Y8.out
  have g6' := recBox_body w6 k6' a6' n6' c6' Y8.out
  have EX : Hid (decide (((k5', b5') : R.T) = (k6', b6')) = true) := Lib.hid (decide_eq_true (HX5.out.trans HX6.out.symm))
  have EL : Hid (decide (RP.recs xs = RP.recs ys) = true) := Lib.hid (decide_eq_true (x7.out.trans x8.out.symm))
  go_wp2_with fail
  refine (refSame_any k5' k6' a5' a6' n5' n6' c5' c6' b5' b6' _ HO5.out.1 HO6.out.1 (HO5.out.2.1.below X8.out) (HO6.out.2.1.below Y8.out)).mono ?_
  rintro e w9 ⟨rfl, hb9⟩
  rw [EX.out]
  have C9 := Lib.hid hb9
  have B9 := Lib.hid (B8.out.trans (hb9.mono B8.out.size))
  have X9 := Lib.hid (X8.out.trans (hb9.mono X8.out.size))
  have Y9 := Lib.hid (Y8.out.trans (hb9.mono Y8.out.size))
  have W9 := Lib.hid (W8.out.trans (hb9.mono W8.out.size))
  clear hb9
  have RT9 := Lib.hid (RS8.out.below C9.out)
  have RU9 := Lib.hid (r8.out.below C9.out)
  clear k0 k1 k2 k3 f5' g5' f6' g6'
  have k0 := recBox_kind w k a n cap (recBox2_first w k a n cap k' a' n' cap' B9.out)
  have k1 := recBox_body w k a n cap (recBox2_first w k a n cap k' a' n' cap' B9.out)
  have k2 := recBox2_kind w k a n cap k' a' n' cap' B9.out
  have k3 := recBox2_body w k a n cap k' a' n' cap' B9.out
  have f5' := recBox_kind w5 k5' a5' n5' c5' X9.out
  have g5' := recBox_body w5 k5' a5' n5' c5' X9.out
  have f6' := recBox_kind w6 k6' a6' n6' c6' Y9.out
  have g6' := recBox_body w6 k6' a6' n6' c6' Y9.out
  go_wp2_with fail
  refine (lists_any a7 a8 n7 n8 c7 c8 xs ys true _ l7.out l8.out RT9.out RU9.out EL.out).mono ?_
  rintro e w10 ⟨rfl, hb10⟩
  have C10 := Lib.hid hb10
  have B10 := Lib.hid (B9.out.trans (hb10.mono B9.out.size))
  have X10 := Lib.hid (X9.out.trans (hb10.mono X9.out.size))
  have Y10 := Lib.hid (Y9.out.trans (hb10.mono Y9.out.size))
  have W10 := Lib.hid (W9.out.trans (hb10.mono W9.out.size))
  clear hb10
  clear k0 k1 k2 k3 f5' g5' f6' g6'
  have k0 := recBox_kind w k a n cap (recBox2_first w k a n cap k' a' n' cap' B10.out)
  have k1 := recBox_body w k a n cap (recBox2_first w k a n cap k' a' n' cap' B10.out)
  have k2 := recBox2_kind w k a n cap k' a' n' cap' B10.out
  have k3 := recBox2_body w k a n cap k' a' n' cap' B10.out
  have f5' := recBox_kind w5 k5' a5' n5' c5' X10.out
  have g5' := recBox_body w5 k5' a5' n5' c5' X10.out
  have f6' := recBox_kind w6 k6' a6' n6' c6' Y10.out
  have g6' := recBox_body w6 k6' a6' n6' c6' Y10.out
  go_wp2_with fail
  refine (refSame_any k k' a a' n n' cap cap' B B' _ HL.out HL'.out (HR.out.below B10.out) (HR'.out.below B10.out)).mono ?_
  rintro e w11 ⟨rfl, hb11⟩
  rw [KD.out]
  have C11 := Lib.hid hb11
  have B11 := Lib.hid (B10.out.trans (hb11.mono B10.out.size))
  have X11 := Lib.hid (X10.out.trans (hb11.mono X10.out.size))
  have Y11 := Lib.hid (Y10.out.trans (hb11.mono Y10.out.size))
  have W11 := Lib.hid (W10.out.trans (hb11.mono W10.out.size))
  clear hb11
  clear k0 k1 k2 k3 f5' g5' f6' g6'
  have k0 := recBox_kind w k a n cap (recBox2_first w k a n cap k' a' n' cap' B11.out)
  have k1 := recBox_body w k a n cap (recBox2_first w k a n cap k' a' n' cap' B11.out)
  have k2 := recBox2_kind w k a n cap k' a' n' cap' B11.out
  have k3 := recBox2_body w k a n cap k' a' n' cap' B11.out
  have f5' := recBox_kind w5 k5' a5' n5' c5' X11.out
  have g5' := recBox_body w5 k5' a5' n5' c5' X11.out
  have f6' := recBox_kind w6 k6' a6' n6' c6' Y11.out
  have g6' := recBox_body w6 k6' a6' n6' c6' Y11.out
  have cp := conv_row ((((((((RP4.out.below C5.out).below C6.out).below C7.out).below C8.out).below C9.out).below C10.out).below C11.out)) l3.out
  have cq := conv_row ((((((((r4.out.below C5.out).below C6.out).below C7.out).below C8.out).below C9.out).below C10.out).below C11.out)) l4.out
  rw [KS.out] at cp cq
  go_wp2_with fail
  refine (same_any k k' a a' n n' cap cap' B B' _ HL.out HL'.out (HR.out.below B11.out) (HR'.out.below B11.out)).mono ?_
  rintro e w12 ⟨rfl, hb12⟩
  rw [KD.out]
  have C12 := Lib.hid hb12
  have B12 := Lib.hid (B11.out.trans (hb12.mono B11.out.size))
  have X12 := Lib.hid (X11.out.trans (hb12.mono X11.out.size))
  have Y12 := Lib.hid (Y11.out.trans (hb12.mono Y11.out.size))
  have W12 := Lib.hid (W11.out.trans (hb12.mono W11.out.size))
  clear hb12
  clear k0 k1 k2 k3 f5' g5' f6' g6'
  have k0 := recBox_kind w k a n cap (recBox2_first w k a n cap k' a' n' cap' B12.out)
  have k1 := recBox_body w k a n cap (recBox2_first w k a n cap k' a' n' cap' B12.out)
  have k2 := recBox2_kind w k a n cap k' a' n' cap' B12.out
  have k3 := recBox2_body w k a n cap k' a' n' cap' B12.out
  have f5' := recBox_kind w5 k5' a5' n5' c5' X12.out
  have g5' := recBox_body w5 k5' a5' n5' c5' X12.out
  have f6' := recBox_kind w6 k6' a6' n6' c6' Y12.out
  have g6' := recBox_body w6 k6' a6' n6' c6' Y12.out
  go_wp2
  go_ret
  exact ⟨rfl, W12.out⟩

theorem tells_law (k : Int) (a : Option Addr) (n cap : Nat) (z : List Int) (k' : Int) (a' : Option Addr) (n' cap' : Nat) (z' : List Int) (al : Option Addr) (len cl : Nat) (zl : List Int) (p : Int) (w : World) (h : IsRow .u8 w a n cap z) (h' : IsRow .u8 w a' n' cap' z') (h2 : IsRow .u8 w al len cl zl) :
    Calls Try.prog 3 #[.agg #[.int .i64 k, .slice a n cap], .agg #[.int .i64 k', .slice a' n' cap'], .slice al len cl, .int .i64 p] w fun e w' => e = .returned (.bool true) ∧ Below w.heap.size w w' := by
  by_cases hb : ¬ (n ≤ 1100 ∧ n' ≤ 1100) ∨ 3000 < len
  · exact tells_big k a n cap k' a' n' cap' al len cl p _ _ w h.rowIn.2 h'.rowIn.2 h.rowIn.1 h'.rowIn.1 h.nil h'.nil hb
  · exact tells_in k a n cap k' a' n' cap' al len cl p _ _ _ w h.rowIn.2 h'.rowIn.2 h.rowIn.1 h'.rowIn.1 h.nil h'.nil h2.rowIn.2 h2.rowIn.1 h2.nil (by omega) (by omega)
end Go.Proofs.Ytnpgjndhkmpciaa
