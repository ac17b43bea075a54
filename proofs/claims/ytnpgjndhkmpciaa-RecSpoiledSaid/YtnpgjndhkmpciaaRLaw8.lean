/-
  Walk of moorings/mooringslaw05.RecSpoiled: for every input it returns true.
-/
import Derived.Test.YtnpgjndhkmpciaaRLaw1
import Derived.Test.YtnpgjndhkmpciaaRLists
import Derived.Test.YtnpgjndhkmpciaaRRefScan
import Derived.Test.YtnpgjndhkmpciaaReg
import Derived.Test.YtnpgjndhkmpciaaRTwo
namespace Go.Proofs.Ytnpgjndhkmpciaa
open Go.RowKit

set_option maxRecDepth 100000 in
set_option maxHeartbeats 1000000 in
theorem spoil_out (k : Int) (a : Option Addr) (n cap : Nat) (j : Int) (m0 : Int) (B : List Int) (o : Bool) (w : World) (hl : B.length = n) (hr : RowIn .u8 w a cap B) (hz : a = none → n = 0 ∧ cap = 0) (hm : 0 ≤ m0 ∧ m0 ≤ 4294967295) (ho : (R.put (k, B)).isSome = o)
    (h : o = false ∨ (o = true ∧ 400 < n) ∨ (o = true ∧ n ≤ 400 ∧ j < 0) ∨ (o = true ∧ n ≤ 400 ∧ 0 ≤ j ∧ (n : Int) + 4 ≤ j) ∨ (o = true ∧ n ≤ 400 ∧ 0 ≤ j ∧ j < (n : Int) + 4 ∧ m0 = 0)) :
    Calls Try.prog 6 #[.agg #[.int .i64 k, .slice a n cap], .int .i64 j, .int .u32 m0] w fun e w' => e = .returned (.bool true) ∧ Below w.heap.size w w' := by
  have HBX := Lib.hid (recBox_below w k a n cap)
  have HL := Lib.hid hl
  have HR := Lib.hid (hr.below (recBox_below w k a n cap))
  have HZ := Lib.hid hz
  have KO := Lib.hid ho
  clear hl hr hz ho
  rcases h with rfl | ⟨rfl, h⟩ | ⟨rfl, h, h1⟩ | ⟨rfl, h, h1, h2⟩ | ⟨rfl, h, h1, h2, rfl⟩
  · go_enter Try.func6, Try.ntmps6
    go_wp2_with fail
    refine (awake_any (recBox w k a n cap)).mono ?_
    rintro e w1 ⟨rfl, hb1⟩
    have B1 : Hid (Below (recBox w k a n cap).heap.size (recBox w k a n cap) w1) := Lib.hid hb1
    have W1 : Hid (Below w.heap.size w w1) := Lib.hid (HBX.out.trans (hb1.mono HBX.out.size))
    clear hb1
    have k0 := recBox_kind w k a n cap B1.out
    have k1 := recBox_body w k a n cap B1.out
    go_wp2_with fail
    refine (recPut_any k a n cap B _ HL.out (HR.out.below B1.out) HZ.out).mono ?_
    rintro e w2 ⟨a2, c2, n2, rfl, l2, r2, z2, hb2⟩
    rw [KO.out]
    have C2 := Lib.hid hb2
    have B2 := Lib.hid (B1.out.trans (hb2.mono B1.out.size))
    have W2 := Lib.hid (W1.out.trans (hb2.mono W1.out.size))
    clear hb2
    clear k0 k1
    have k0 := recBox_kind w k a n cap B2.out
    have k1 := recBox_body w k a n cap B2.out
    go_wp2
    go_ret
    exact ⟨rfl, W2.out⟩
  · have d1 : decide ((400 : Int) < (n : Int)) = true := by simp; omega
    go_enter Try.func6, Try.ntmps6
    go_wp2_with fail
    refine (awake_any (recBox w k a n cap)).mono ?_
    rintro e w1 ⟨rfl, hb1⟩
    have B1 : Hid (Below (recBox w k a n cap).heap.size (recBox w k a n cap) w1) := Lib.hid hb1
    have W1 : Hid (Below w.heap.size w w1) := Lib.hid (HBX.out.trans (hb1.mono HBX.out.size))
    clear hb1
    have k0 := recBox_kind w k a n cap B1.out
    have k1 := recBox_body w k a n cap B1.out
    go_wp2_with fail
    refine (recPut_any k a n cap B _ HL.out (HR.out.below B1.out) HZ.out).mono ?_
    rintro e w2 ⟨a2, c2, n2, rfl, l2, r2, z2, hb2⟩
    rw [KO.out]
    have C2 := Lib.hid hb2
    have B2 := Lib.hid (B1.out.trans (hb2.mono B1.out.size))
    have W2 := Lib.hid (W1.out.trans (hb2.mono W1.out.size))
    clear hb2
    clear k0 k1
    have k0 := recBox_kind w k a n cap B2.out
    have k1 := recBox_body w k a n cap B2.out
    go_wp2
    go_ret
    exact ⟨rfl, W2.out⟩
  · have d1 : decide ((400 : Int) < (n : Int)) = false := by simp; omega
    have d2 : decide (j < 0) = true := by simp; omega
    go_enter Try.func6, Try.ntmps6
    go_wp2_with fail
    refine (awake_any (recBox w k a n cap)).mono ?_
    rintro e w1 ⟨rfl, hb1⟩
    have B1 : Hid (Below (recBox w k a n cap).heap.size (recBox w k a n cap) w1) := Lib.hid hb1
    have W1 : Hid (Below w.heap.size w w1) := Lib.hid (HBX.out.trans (hb1.mono HBX.out.size))
    clear hb1
    have k0 := recBox_kind w k a n cap B1.out
    have k1 := recBox_body w k a n cap B1.out
    go_wp2_with fail
    refine (recPut_any k a n cap B _ HL.out (HR.out.below B1.out) HZ.out).mono ?_
    rintro e w2 ⟨a2, c2, n2, rfl, l2, r2, z2, hb2⟩
    rw [KO.out]
    have C2 := Lib.hid hb2
    have B2 := Lib.hid (B1.out.trans (hb2.mono B1.out.size))
    have W2 := Lib.hid (W1.out.trans (hb2.mono W1.out.size))
    clear hb2
    clear k0 k1
    have k0 := recBox_kind w k a n cap B2.out
    have k1 := recBox_body w k a n cap B2.out
    go_wp2
    go_ret
    exact ⟨rfl, W2.out⟩
  · have d1 : decide ((400 : Int) < (n : Int)) = false := by simp; omega
    have d2 : decide (j < 0) = false := by simp; omega
    have d3 : decide ((n : Int) + 4 ≤ j) = true := by simp; omega
    go_enter Try.func6, Try.ntmps6
    go_wp2_with fail
    refine (awake_any (recBox w k a n cap)).mono ?_
    rintro e w1 ⟨rfl, hb1⟩
    have B1 : Hid (Below (recBox w k a n cap).heap.size (recBox w k a n cap) w1) := Lib.hid hb1
    have W1 : Hid (Below w.heap.size w w1) := Lib.hid (HBX.out.trans (hb1.mono HBX.out.size))
    clear hb1
    have k0 := recBox_kind w k a n cap B1.out
    have k1 := recBox_body w k a n cap B1.out
    go_wp2_with fail
    refine (recPut_any k a n cap B _ HL.out (HR.out.below B1.out) HZ.out).mono ?_
    rintro e w2 ⟨a2, c2, n2, rfl, l2, r2, z2, hb2⟩
    rw [KO.out]
    have C2 := Lib.hid hb2
    have B2 := Lib.hid (B1.out.trans (hb2.mono B1.out.size))
    have W2 := Lib.hid (W1.out.trans (hb2.mono W1.out.size))
    clear hb2
    clear k0 k1
    have k0 := recBox_kind w k a n cap B2.out
    have k1 := recBox_body w k a n cap B2.out
    go_wp2
    go_ret
    exact ⟨rfl, W2.out⟩
  · have d1 : decide ((400 : Int) < (n : Int)) = false := by simp; omega
    have d2 : decide (j < 0) = false := by simp; omega
    have d3 : decide ((n : Int) + 4 ≤ j) = false := by simp; omega
    go_enter Try.func6, Try.ntmps6
    go_wp2_with fail
    refine (awake_any (recBox w k a n cap)).mono ?_
    rintro e w1 ⟨rfl, hb1⟩
    have B1 : Hid (Below (recBox w k a n cap).heap.size (recBox w k a n cap) w1) := Lib.hid hb1
    have W1 : Hid (Below w.heap.size w w1) := Lib.hid (HBX.out.trans (hb1.mono HBX.out.size))
    clear hb1
    have k0 := recBox_kind w k a n cap B1.out
    have k1 := recBox_body w k a n cap B1.out
    go_wp2_with fail
    refine (recPut_any k a n cap B _ HL.out (HR.out.below B1.out) HZ.out).mono ?_
    rintro e w2 ⟨a2, c2, n2, rfl, l2, r2, z2, hb2⟩
    rw [KO.out]
    have C2 := Lib.hid hb2
    have B2 := Lib.hid (B1.out.trans (hb2.mono B1.out.size))
    have W2 := Lib.hid (W1.out.trans (hb2.mono W1.out.size))
    clear hb2
    clear k0 k1
    have k0 := recBox_kind w k a n cap B2.out
    have k1 := recBox_body w k a n cap B2.out
    go_wp2
    go_ret
    exact ⟨rfl, W2.out⟩

theorem C.near_set {A q : Nat} {K L : List Int} {v : Int} (h : C.near (8 * A) K L) (h1 : A ≤ q) (h2 : q < A + 4) (hv : 0 ≤ v ∧ v ≤ 255) : C.near (8 * A) (K.set q v) L := by
  refine ⟨by rw [List.length_set, h.1], fun c hc => ?_, fun j hj => ?_⟩
  · rcases List.mem_or_eq_of_mem_set hc with hc | rfl
    · exact h.2.1 c hc
    · exact hv
  · rw [← h.2.2 j hj]
    unfold C.bit
    rw [List.getD_eq_getElem?_getD, List.getD_eq_getElem?_getD, List.getElem?_set_ne (by omega)]
theorem xor_byte {o c : Nat} (ho : o < 256) (hc : c < 256) : 0 ≤ bits .xor .u8 (o : Int) (c : Int) ∧ bits .xor .u8 (o : Int) (c : Int) ≤ 255 := by
  rw [u8_xor_nat o c ho hc]
  have : o ^^^ c < 256 := Nat.xor_lt_two_pow (n := 8) ho hc
  omega

set_option maxRecDepth 100000 in
set_option maxHeartbeats 4000000 in
theorem spoil_in (k : Int) (a : Option Addr) (n cap : Nat) (j : Nat) (m0 : Int) (B : List Int) (w : World) (hl : B.length = n) (hr : RowIn .u8 w a cap B) (hz : a = none → n = 0 ∧ cap = 0) (hm : 0 ≤ m0 ∧ m0 ≤ 4294967295) (ho : R.ok (k, B)) (hn : n ≤ 400) (hj : j < n + 4) (hm0 : m0 ≠ 0) :
    Calls Try.prog 6 #[.agg #[.int .i64 k, .slice a n cap], .int .i64 (j : Int), .int .u32 m0] w fun e w' => e = .returned (.bool true) ∧ Below w.heap.size w w' := by
  obtain ⟨i0, hi, hz0, hz1, hz2⟩ := info_parts info5
  have HBX := Lib.hid (recBox_below w k a n cap)
  have HL := Lib.hid hl
  have HR := Lib.hid (hr.below (recBox_below w k a n cap))
  have HZ := Lib.hid hz
  have HP := Lib.hid (R.put_yes ho)
  have HLEN := R.bytes_len (k, B)
  simp only [hl] at HLEN
  obtain ⟨pl, hpl⟩ : ∃ x, (M.put (n : Int)).length = x := ⟨_, rfl⟩
  rw [hpl] at HLEN
  have hpl2 : pl ≤ 2 := by have := R.put_len ho; simp only [hl, hpl] at this; split at this <;> omega
  obtain ⟨l, hll⟩ : ∃ x, (R.bytes (k, B)).length = x := ⟨_, rfl⟩
  rw [hll] at HLEN
  obtain ⟨f, hf⟩ : ∃ x, x = 1 + pl := ⟨_, rfl⟩
  have hfrom : (l : Int) - 4 - (n : Int) = (f : Int) := by omega
  have hfl : f + n + 4 = l := by omega
  have hl9 : l ≤ 1000 := by omega
  have hf3 : f ≤ 3 := by omega
  have HWP := Lib.hid (R.bytes_wf ho (C.lit_wf hr.2.1))
  have HSP := Lib.hid (fun (K : List Int) (h1 : C.near (8 * (f + j)) K (R.bytes (k, B))) (h2 : K ≠ R.bytes (k, B)) => R.head_spoiled ho (C.lit_wf hr.2.1) h1 (by simp only [hl, hpl]; omega) h2)
  have HLL := Lib.hid hll
  have d1 : decide ((400 : Int) < (n : Int)) = false := by simp; omega
  have d2 : decide ((j : Int) < 0) = false := by simp
  have d3 : decide ((n : Int) + 4 ≤ (j : Int)) = false := by simp; omega
  have d4 : (m0 == 0) = false := by simpa using hm0
  obtain ⟨sp, hsp⟩ : ∃ s, strOf (R.bytes (k, B)) = s := ⟨_, rfl⟩
  have KSP := Lib.hid hsp
  have h9 : l ≤ 90000 := by omega
  clear hl hr hz ho HLEN hpl hll hf hpl2 hsp
  go_enter Try.func6, Try.ntmps6
  go_wp2_with fail
  refine (awake_any (recBox w k a n cap)).mono ?_
  rintro e w1 ⟨rfl, hb1⟩
  have B1 : Hid (Below (recBox w k a n cap).heap.size (recBox w k a n cap) w1) := Lib.hid hb1
  have W1 : Hid (Below w.heap.size w w1) := Lib.hid (HBX.out.trans (hb1.mono HBX.out.size))
  clear hb1
  have k0 := recBox_kind w k a n cap B1.out
  have k1 := recBox_body w k a n cap B1.out
  go_wp2_with fail
  refine (recPut_any k a n cap B _ HL.out (HR.out.below B1.out) HZ.out).mono ?_
  rintro e w2 ⟨a2, c2, n2, rfl, l2, r2, z2, hb2⟩
  have C2 := Lib.hid hb2
  have B2 := Lib.hid (B1.out.trans (hb2.mono B1.out.size))
  have W2 := Lib.hid (W1.out.trans (hb2.mono W1.out.size))
  clear hb2
  rw [HP.out] at l2 r2 ⊢
  have hn2 : l = n2 := by rw [← HLL.out]; exact l2.out
  subst hn2
  have L2 := Lib.hid (show (R.bytes (k, B)).length = l from l2.out)
  have R2 := Lib.hid (show RowIn .u8 w2 a2 c2 (R.bytes (k, B)) from r2.out)
  have hsm : (some (R.bytes (k, B))).isSome = true := rfl
  clear l2 r2
  clear k0 k1
  have k0 := recBox_kind w k a n cap B2.out
  have k1 := recBox_body w k a n cap B2.out
  go_wp2_with (at_builtin; refine wpList_append_row _ rfl _ _ 22 rfl w2.heap.size 5 i0 (.int .u8 0) 1 Try.underlying22 hi hz0 hz1 hz2 rfl (.slice none 0 0) 0 [] rfl (World.ownsRow_nil _ _ _ _) .u8 a2 l c2 (R.bytes (k, B)) rfl R2.out L2.out z2.out (by unfold maxLen; omega) (by omega) (Nat.le_refl _) ?_; intro v3 w3 hown3 hgrow3; have HO3 : Hid (w3.ownsRow w2.heap.size 5 1 v3 l ((R.bytes (k, B)).map (Value.int .u8))) := Lib.hid (by simpa using hown3); have HB3 : Hid (Below w2.heap.size w2 w3) := Lib.hid ((Below.refl _ w2).grown hgrow3 (Nat.le_refl _) (fun k ek => by cases ek)); clear hown3 hgrow3; obtain ⟨x, cp, rfl⟩ := ownsRow_form HO3.out)
  clear k0 k1
  go_loopg [2, 12] 4 (fun g s2 s12 wr => ∃ (i : Nat) (m : Int) (X : List Int), s12 = .int .i64 i ∧ i + g = 4 ∧ s2 = .int .u32 m ∧ 0 ≤ m ∧ m ≤ 4294967295 ∧ Hid (C.near (8 * (f + j)) X (R.bytes (k, B))) ∧ Hid (wr.ownsRow w2.heap.size 5 1 (.slice x l cp) l (X.map (Value.int .u8))) ∧ Hid (Below w2.heap.size w2 wr))
  case atStart => exact ⟨0, m0, R.bytes (k, B), rfl, by omega, rfl, hm.1, hm.2, Lib.hid (C.near_refl HWP.out _), HO3, HB3⟩
  case round =>
    obtain ⟨i, m, X, rfl, hig, rfl, hm1, hm2, HX, HOX, HBX3⟩ := hrel
    obtain ⟨w4, rfl⟩ : ∃ w4, w4 = wr := ⟨_, rfl⟩
    by_cases hi4 : i < 4
    · have d5 : decide ((i : Int) < 4) = true := by simp; omega
      obtain ⟨q, hq⟩ : ∃ q, f + j + i = q := ⟨_, rfl⟩
      have hqi : (f : Int) + (j : Int) + (i : Int) = (q : Int) := by omega
      have hq1 : f + j ≤ q := by omega
      have hq2 : q < f + j + 4 := by omega
      have d7 : decide ((0 : Int) ≤ (f : Int)) = true := by simp
      by_cases hql : q < l
      · have d6 : decide ((q : Int) < (l : Int)) = true := by simp; omega
        obtain ⟨g, cp', he⟩ := ownsRow_some HOX.out (by omega)
        cases he
        have hXl : X.length = l := by rw [HX.out.1, L2.out]
        have hXq := HX.out.2.1 (X.getD q 0) (by simp [show q < X.length by omega])
        obtain ⟨o, ho⟩ : ∃ o : Nat, X.getD q 0 = o := ⟨(X.getD q 0).toNat, by omega⟩
        obtain ⟨c, hc⟩ : ∃ c : Nat, m % 256 = c := ⟨(m % 256).toNat, by omega⟩
        have c1 : w4.cell? ⟨g, q, none⟩ = some (.int .u8 (o : Int)) := by
          rw [HOX.out.cellAt q (by omega), ← ho]
          simp [show q < X.length by omega]
        have f1 := HOX.out.frozenAt q
        have hv := xor_byte (o := o) (c := c) (by omega) (by omega)
        obtain ⟨v, hvv⟩ : ∃ v, bits .xor .u8 (o : Int) (c : Int) = v := ⟨_, rfl⟩
        rw [hvv] at hv
        have HNX : Hid (C.near (8 * (f + j)) (X.set q v) (R.bytes (k, B))) := Lib.hid (C.near_set HX.out hq1 hq2 hv)
        have HNO : Hid ((w4.setCell ⟨g, q, none⟩ (.int .u8 v)).ownsRow w2.heap.size 5 1 (.slice (some ⟨g, 0, none⟩) l cp) l ((X.set q v).map (Value.int .u8))) := Lib.hid (by
          rw [List.map_set]
          exact (HOX.out.stored q (.int .u8 v)).1)
        have hgw := HOX.out.lt g rfl
        have HNB : Hid (Below w2.heap.size w2 (w4.setCell ⟨g, q, none⟩ (.int .u8 v))) := Lib.hid (HBX3.out.setCell (p := ⟨g, q, none⟩) hgw.1 _)
        have hq0 : (0 : Int) ≤ (q : Int) := by omega
        have hq3 : (q : Int) < (l : Int) := by omega
        have hm3 : 0 ≤ m / 256 := by omega
        have hm4 : m / 256 ≤ 4294967295 := by omega
        clear hgw hXq hXl ho hq hv
        go_wp2
        go_roundg (4 - (i + 1))
        case rel => exact ⟨i + 1, m / 256, X.set q v, by go_num, by omega, rfl, hm3, hm4, HNX, HNO, HNB⟩
        case measure => omega
      · have d6 : decide ((q : Int) < (l : Int)) = false := by simp; omega
        clear hq
        go_wp2
        go_roundg (4 - (i + 1))
        case rel => exact ⟨i + 1, m / 256, X, by go_num, by omega, rfl, by omega, by omega, HX, HOX, HBX3⟩
        case measure => omega
    · have d5 : decide ((i : Int) < 4) = false := by simp; omega
      have hxl : X.length = l := by rw [HX.out.1, L2.out]
      have HXL := Lib.hid hxl
      have RX := Lib.hid (row3_like HOX.out (C.wf_lit HX.out.2.1))
      have ZX : Hid (x = none → l = 0 ∧ cp = 0) := Lib.hid (fun h => by
        obtain ⟨g, cp', he⟩ := ownsRow_some HOX.out (by omega)
        rw [h] at he
        cases he)
      obtain ⟨er, her⟩ : ∃ e, (R.get X 0).1 = e := ⟨_, rfl⟩
      obtain ⟨t, ht⟩ : ∃ e, (R.get X 0).2.2 = e := ⟨_, rfl⟩
      obtain ⟨sx, hsx⟩ : ∃ s, strOf X = s := ⟨_, rfl⟩
      obtain ⟨same, hsame⟩ : ∃ b, decide (X = R.bytes (k, B)) = b := ⟨_, rfl⟩
      have hstr : (sx.toList == sp.toList) = same := by rw [← hsx, ← KSP.out, str_beq (C.wf_lit HX.out.2.1) (C.wf_lit HWP.out), hsame]
      have HE3 : Hid (same = false → er = 3) := Lib.hid (fun h => by
        rw [← her]
        have := R.get_err (L := X) (p := 0) (e := 3) (by omega) (by decide) (by rw [List.drop_zero]; exact HSP.out X HX.out (of_decide_eq_false (by rw [hsame]; exact h)))
        exact congrArg Prod.fst this)
      have KE := Lib.hid her
      have KT := Lib.hid ht
      have KSX := Lib.hid hsx
      have HBX4 := Lib.hid HBX3.out
      clear her ht hsx hsame hxl
      go_wp2_with fail
      refine (recGet_any x l cp 0 X _ h9 HXL.out RX.out ZX.out).mono ?_
      rintro e w5 hget
      obtain ⟨⟨k5, a5, n5, c5, B5⟩, rfl, _, _, _, hb5⟩ := hget.place
      rw [KE.out, KT.out]
      have hb5' := hb5.trans ((recBox_below w5 k5 a5 n5 c5).mono hb5.size)
      have cx := conv_row (RX.out.below hb5') HXL.out
      have cp' := conv_row ((R2.out.below HBX4.out).below hb5') L2.out
      rw [KSX.out] at cx
      rw [KSP.out] at cp'
      have W5 := Lib.hid (W2.out.trans ((HBX4.out.trans (hb5'.mono HBX4.out.size)).mono W2.out.size))
      unfold recBox at cx cp' W5
      clear hget hb5 hb5'
      cases same with
      | true =>
        go_wp2
        go_ret
        exact ⟨rfl, W5.out⟩
      | false =>
        obtain rfl : er = 3 := HE3.out rfl
        go_wp2
        go_ret
        exact ⟨rfl, W5.out⟩

theorem spoil_law (k : Int) (a : Option Addr) (n cap : Nat) (z : List Int) (j : Int) (m0 : Int) (w : World) (h : IsRow .u8 w a n cap z) (hm : 0 ≤ m0 ∧ m0 ≤ 4294967295) :
    Calls Try.prog 6 #[.agg #[.int .i64 k, .slice a n cap], .int .i64 j, .int .u32 m0] w fun e w' => e = .returned (.bool true) ∧ Below w.heap.size w w' := by
  by_cases hok : R.ok (k, z.take n)
  · have h1 : (R.put (k, z.take n)).isSome = true := by rw [R.put_yes hok]; rfl
    by_cases hn : 400 < n
    · exact spoil_out k a n cap j m0 _ true w h.rowIn.2 h.rowIn.1 h.nil hm h1 (.inr (.inl ⟨rfl, hn⟩))
    · by_cases hj : j < 0
      · exact spoil_out k a n cap j m0 _ true w h.rowIn.2 h.rowIn.1 h.nil hm h1 (.inr (.inr (.inl ⟨rfl, by omega, hj⟩)))
      · by_cases hj2 : (n : Int) + 4 ≤ j
        · exact spoil_out k a n cap j m0 _ true w h.rowIn.2 h.rowIn.1 h.nil hm h1 (.inr (.inr (.inr (.inl ⟨rfl, by omega, by omega, hj2⟩))))
        · by_cases h0 : m0 = 0
          · exact spoil_out k a n cap j m0 _ true w h.rowIn.2 h.rowIn.1 h.nil hm h1 (.inr (.inr (.inr (.inr ⟨rfl, by omega, by omega, by omega, h0⟩))))
          · obtain ⟨i, rfl⟩ : ∃ i : Nat, j = i := ⟨j.toNat, by omega⟩
            exact spoil_in k a n cap i m0 _ w h.rowIn.2 h.rowIn.1 h.nil hm hok (by omega) (by omega) h0
  · exact spoil_out k a n cap j m0 _ false w h.rowIn.2 h.rowIn.1 h.nil hm (by rw [R.put_no hok]; rfl) (.inl rfl)
end Go.Proofs.Ytnpgjndhkmpciaa
