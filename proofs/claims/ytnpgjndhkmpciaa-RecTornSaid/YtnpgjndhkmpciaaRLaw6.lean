/-
  Walk of moorings/mooringslaw05.RecTorn: for every input it returns true.
-/
import Derived.Test.YtnpgjndhkmpciaaRLaw1
import Derived.Test.YtnpgjndhkmpciaaRLists
import Derived.Test.YtnpgjndhkmpciaaRRefScan
import Derived.Test.YtnpgjndhkmpciaaReg
import Derived.Test.YtnpgjndhkmpciaaRLaw3
import Derived.Test.YtnpgjndhkmpciaaRTwo
namespace Go.Proofs.Ytnpgjndhkmpciaa
open Go.RowKit

theorem wpOp_append_row {P : Program} {ops : Array Oper} {Q : Exit → Act → World → Prop} {j : Nat} {o : Oper} {K : Act → World → Prop} {a : Act} {w : World} (ho : ops[j]? = some o) (hw : Region.wanted o (yielded ops a.tmps) = true) (s x : Operand) (t : TypeId)
    (hop : o.op = .call { callee := .builtin .append, args := #[s, x], argTypes := #[t, t] })
    (base : Nat) (e : TypeId) (i : TypeInfo) (z : Value) (bytes : Nat) (ht : P.underlying t = some (.slice e)) (hi : P.info? e = some i) (hz : i.zero = some z)
    (hsize : i.size = 1) (hby : i.bytes = bytes) (hzs : z.cells.size = 1)
    (v : Value) (n : Nat) (xs : List Value) (hs : a.eval s = v) (hown : w.ownsRow base e 1 v n xs)
    (k : IntKind) (ad : Option Addr) (m c : Nat) (L : List Int) (hx : a.eval x = .slice ad m c) (hr : RowIn k w ad c L) (hm : L.length = m) (hn : ad = none → m = 0 ∧ c = 0)
    (h63 : n + m ≤ maxLen) (hbytes : (n + m) * bytes ≤ 140737488355328) (hbase : base ≤ w.heap.size)
    (h : ∀ v' w', w'.ownsRow base e 1 v' (n + m) (xs ++ L.map (Value.int k)) → w.grownBy w' v.ownBlock → K (a.put o.dst v') w') : wpOp P ops Q j K a w := by
  cases ad with
  | some ad => exact wpOp_append ho hw s x t hop base e i z bytes ht hi hz hsize hby hzs v n xs hs hown k ad m c L hx hr hm h63 hbytes hbase h
  | none =>
    obtain ⟨rfl, rfl⟩ := hn rfl
    obtain rfl : L = [] := List.eq_nil_of_length_eq_zero hm
    refine wpOp_step ho fun K' hK' => ?_
    rw [if_pos hw]
    have hrun := run_append_owned_none (P := P) (w := w) base t o.type e i 1 ht hi v n xs hown
    unfold Oper.wp
    simp [execOp, hop, resolve, invoke, builtin, hs, hx, hrun, Result.andThen]
    exact hK' _ _ (h v w (by simpa using hown) ⟨rfl, rfl, rfl, Nat.le_refl _, fun _ _ _ => rfl⟩)

set_option maxRecDepth 100000 in
set_option maxHeartbeats 1000000 in
theorem torn_big (al : Option Addr) (nl cl : Nat) (k : Int) (a : Option Addr) (n cap : Nat) (j : Int) (xs : List RP) (B : List Int) (w : World) (hx : xs.length = nl) (hxr : RecsIn w al cl xs) (hl : B.length = n) (hr : RowIn .u8 w a cap B) (hz : a = none → n = 0 ∧ cap = 0) (h : ¬ ((∀ x ∈ xs, x.2.2.1 ≤ 1100) ∧ (nl : Int) ≤ 5) ∨ ¬ n ≤ 1100) :
    Calls Try.prog 5 #[.slice al nl cl, .agg #[.int .i64 k, .slice a n cap], .int .i64 j] w fun e w' => e = .returned (.bool true) ∧ Below w.heap.size w w' := by
  have HBX := Lib.hid (recBox_below w k a n cap)
  have HL := Lib.hid hl
  have UL := Lib.hid hx
  have HR := Lib.hid (hr.below (recBox_below w k a n cap))
  have RX := Lib.hid (hxr.below (recBox_below w k a n cap))
  have HZ := Lib.hid hz
  obtain ⟨s2, hs2⟩ : ∃ b, decide (n ≤ 1100) = b := ⟨_, rfl⟩
  by_cases hf : (∀ x ∈ xs, x.2.2.1 ≤ 1100) ∧ (nl : Int) ≤ 5
  · have HF1 := Lib.hid (decide_eq_true hf)
    have HF2 : Hid (decide (n ≤ 1100) = false) := Lib.hid (decide_eq_false (by rcases h with h | h; exact absurd hf h; exact h))
    clear hx hxr hl hr hz hf h hs2
    go_enter Try.func5, Try.ntmps5
    go_wp2_with fail
    refine (awake_any (recBox w k a n cap)).mono ?_
    rintro e w1 ⟨rfl, hb1⟩
    have B1 : Hid (Below (recBox w k a n cap).heap.size (recBox w k a n cap) w1) := Lib.hid hb1
    have W1 : Hid (Below w.heap.size w w1) := Lib.hid (HBX.out.trans (hb1.mono HBX.out.size))
    clear hb1
    have k0 := recBox_kind w k a n cap B1.out
    have k1 := recBox_body w k a n cap B1.out
    go_wp2_with fail
    refine (fewB_any al nl cl 5 xs true _ UL.out (RX.out.below B1.out) HF1.out).mono ?_
    rintro e w2 ⟨rfl, hb2⟩
    have C2 := Lib.hid hb2
    have B2 := Lib.hid (B1.out.trans (hb2.mono B1.out.size))
    have W2 := Lib.hid (W1.out.trans (hb2.mono W1.out.size))
    clear hb2
    clear k0 k1
    have k0 := recBox_kind w k a n cap B2.out
    have k1 := recBox_body w k a n cap B2.out
    go_wp2_with fail
    refine (few1_any k a n cap B false _ ⟨HL.out, HR.out.below B2.out, HZ.out⟩ HF2.out).mono ?_
    rintro e w3 ⟨rfl, hb3⟩
    have C3 := Lib.hid hb3
    have B3 := Lib.hid (B2.out.trans (hb3.mono B2.out.size))
    have W3 := Lib.hid (W2.out.trans (hb3.mono W2.out.size))
    clear hb3
    clear k0 k1
    have k0 := recBox_kind w k a n cap B3.out
    have k1 := recBox_body w k a n cap B3.out
    go_wp2
    go_ret
    exact ⟨rfl, W3.out⟩
  · have HF1 := Lib.hid (decide_eq_false hf)
    have HF2 := Lib.hid hs2
    clear hx hxr hl hr hz hf h hs2
    go_enter Try.func5, Try.ntmps5
    go_wp2_with fail
    refine (awake_any (recBox w k a n cap)).mono ?_
    rintro e w1 ⟨rfl, hb1⟩
    have B1 : Hid (Below (recBox w k a n cap).heap.size (recBox w k a n cap) w1) := Lib.hid hb1
    have W1 : Hid (Below w.heap.size w w1) := Lib.hid (HBX.out.trans (hb1.mono HBX.out.size))
    clear hb1
    have k0 := recBox_kind w k a n cap B1.out
    have k1 := recBox_body w k a n cap B1.out
    go_wp2_with fail
    refine (fewB_any al nl cl 5 xs false _ UL.out (RX.out.below B1.out) HF1.out).mono ?_
    rintro e w2 ⟨rfl, hb2⟩
    have C2 := Lib.hid hb2
    have B2 := Lib.hid (B1.out.trans (hb2.mono B1.out.size))
    have W2 := Lib.hid (W1.out.trans (hb2.mono W1.out.size))
    clear hb2
    clear k0 k1
    have k0 := recBox_kind w k a n cap B2.out
    have k1 := recBox_body w k a n cap B2.out
    go_wp2_with fail
    refine (few1_any k a n cap B s2 _ ⟨HL.out, HR.out.below B2.out, HZ.out⟩ HF2.out).mono ?_
    rintro e w3 ⟨rfl, hb3⟩
    have C3 := Lib.hid hb3
    have B3 := Lib.hid (B2.out.trans (hb3.mono B2.out.size))
    have W3 := Lib.hid (W2.out.trans (hb3.mono W2.out.size))
    clear hb3
    clear k0 k1
    have k0 := recBox_kind w k a n cap B3.out
    have k1 := recBox_body w k a n cap B3.out
    go_wp2
    go_ret
    exact ⟨rfl, W3.out⟩

set_option maxRecDepth 100000 in
set_option maxHeartbeats 1000000 in
theorem torn_out (al : Option Addr) (nl cl : Nat) (k : Int) (a : Option Addr) (n cap : Nat) (j : Int) (xs : List RP) (B : List Int) (w : World) (hx : xs.length = nl) (hxr : RecsIn w al cl xs) (hl : B.length = n) (hr : RowIn .u8 w a cap B) (hz : a = none → n = 0 ∧ cap = 0) (hf1 : (∀ x ∈ xs, x.2.2.1 ≤ 1100) ∧ (nl : Int) ≤ 5) (hf2 : n ≤ 1100) (oj o : Bool) (hoj : (R.join (RP.recs xs)).isSome = oj) (ho : (R.put (k, B)).isSome = o)
    (h : oj = false ∨ (oj = true ∧ o = false) ∨ (oj = true ∧ o = true ∧ (j < 0 ∨ (0 ≤ j ∧ (((R.put (k, B)).getD []).length : Int) ≤ j)))) :
    Calls Try.prog 5 #[.slice al nl cl, .agg #[.int .i64 k, .slice a n cap], .int .i64 j] w fun e w' => e = .returned (.bool true) ∧ Below w.heap.size w w' := by
  have HBX := Lib.hid (recBox_below w k a n cap)
  have HL := Lib.hid hl
  have UL := Lib.hid hx
  have HR := Lib.hid (hr.below (recBox_below w k a n cap))
  have RX := Lib.hid (hxr.below (recBox_below w k a n cap))
  have HZ := Lib.hid hz
  have HF1 := Lib.hid (decide_eq_true hf1)
  have HF2 := Lib.hid (decide_eq_true hf2)
  have hn5 : nl ≤ 1000 := by have := hf1.2; omega
  have KJ := Lib.hid hoj
  have KO := Lib.hid ho
  clear hx hxr hl hr hz hf1 hf2 hoj ho
  rcases h with rfl | ⟨rfl, rfl⟩ | ⟨rfl, rfl, h | ⟨h, h'⟩⟩
  · go_enter Try.func5, Try.ntmps5
    go_wp2_with fail
    refine (awake_any (recBox w k a n cap)).mono ?_
    rintro e w1 ⟨rfl, hb1⟩
    have B1 : Hid (Below (recBox w k a n cap).heap.size (recBox w k a n cap) w1) := Lib.hid hb1
    have W1 : Hid (Below w.heap.size w w1) := Lib.hid (HBX.out.trans (hb1.mono HBX.out.size))
    clear hb1
    have k0 := recBox_kind w k a n cap B1.out
    have k1 := recBox_body w k a n cap B1.out
    go_wp2_with fail
    refine (fewB_any al nl cl 5 xs true _ UL.out (RX.out.below B1.out) HF1.out).mono ?_
    rintro e w2 ⟨rfl, hb2⟩
    have C2 := Lib.hid hb2
    have B2 := Lib.hid (B1.out.trans (hb2.mono B1.out.size))
    have W2 := Lib.hid (W1.out.trans (hb2.mono W1.out.size))
    clear hb2
    clear k0 k1
    have k0 := recBox_kind w k a n cap B2.out
    have k1 := recBox_body w k a n cap B2.out
    go_wp2_with fail
    refine (few1_any k a n cap B true _ ⟨HL.out, HR.out.below B2.out, HZ.out⟩ HF2.out).mono ?_
    rintro e w3 ⟨rfl, hb3⟩
    have C3 := Lib.hid hb3
    have B3 := Lib.hid (B2.out.trans (hb3.mono B2.out.size))
    have W3 := Lib.hid (W2.out.trans (hb3.mono W2.out.size))
    clear hb3
    clear k0 k1
    have k0 := recBox_kind w k a n cap B3.out
    have k1 := recBox_body w k a n cap B3.out
    go_wp2_with fail
    refine (joined_any al nl cl xs _ hn5 UL.out (RX.out.below B3.out)).mono ?_
    rintro e w4 ⟨a4, n4, c4, rfl, l4, r4, z4, hb4⟩
    have C4 := Lib.hid hb4
    have B4 := Lib.hid (B3.out.trans (hb4.mono B3.out.size))
    have W4 := Lib.hid (W3.out.trans (hb4.mono W3.out.size))
    clear hb4
    rw [KJ.out]
    clear k0 k1
    have k0 := recBox_kind w k a n cap B4.out
    have k1 := recBox_body w k a n cap B4.out
    go_wp2_with fail
    refine (recPut_any k a n cap B _ HL.out (HR.out.below B4.out) HZ.out).mono ?_
    rintro e w5 ⟨a5, c5, n5, rfl, l5, r5, z5, hb5⟩
    have C5 := Lib.hid hb5
    have B5 := Lib.hid (B4.out.trans (hb5.mono B4.out.size))
    have W5 := Lib.hid (W4.out.trans (hb5.mono W4.out.size))
    clear hb5
    rw [KO.out]
    clear k0 k1
    have k0 := recBox_kind w k a n cap B5.out
    have k1 := recBox_body w k a n cap B5.out
    go_wp2
    go_ret
    exact ⟨rfl, W5.out⟩
  · go_enter Try.func5, Try.ntmps5
    go_wp2_with fail
    refine (awake_any (recBox w k a n cap)).mono ?_
    rintro e w1 ⟨rfl, hb1⟩
    have B1 : Hid (Below (recBox w k a n cap).heap.size (recBox w k a n cap) w1) := Lib.hid hb1
    have W1 : Hid (Below w.heap.size w w1) := Lib.hid (HBX.out.trans (hb1.mono HBX.out.size))
    clear hb1
    have k0 := recBox_kind w k a n cap B1.out
    have k1 := recBox_body w k a n cap B1.out
    go_wp2_with fail
    refine (fewB_any al nl cl 5 xs true _ UL.out (RX.out.below B1.out) HF1.out).mono ?_
    rintro e w2 ⟨rfl, hb2⟩
    have C2 := Lib.hid hb2
    have B2 := Lib.hid (B1.out.trans (hb2.mono B1.out.size))
    have W2 := Lib.hid (W1.out.trans (hb2.mono W1.out.size))
    clear hb2
    clear k0 k1
    have k0 := recBox_kind w k a n cap B2.out
    have k1 := recBox_body w k a n cap B2.out
    go_wp2_with fail
    refine (few1_any k a n cap B true _ ⟨HL.out, HR.out.below B2.out, HZ.out⟩ HF2.out).mono ?_
    rintro e w3 ⟨rfl, hb3⟩
    have C3 := Lib.hid hb3
    have B3 := Lib.hid (B2.out.trans (hb3.mono B2.out.size))
    have W3 := Lib.hid (W2.out.trans (hb3.mono W2.out.size))
    clear hb3
    clear k0 k1
    have k0 := recBox_kind w k a n cap B3.out
    have k1 := recBox_body w k a n cap B3.out
    go_wp2_with fail
    refine (joined_any al nl cl xs _ hn5 UL.out (RX.out.below B3.out)).mono ?_
    rintro e w4 ⟨a4, n4, c4, rfl, l4, r4, z4, hb4⟩
    have C4 := Lib.hid hb4
    have B4 := Lib.hid (B3.out.trans (hb4.mono B3.out.size))
    have W4 := Lib.hid (W3.out.trans (hb4.mono W3.out.size))
    clear hb4
    rw [KJ.out]
    clear k0 k1
    have k0 := recBox_kind w k a n cap B4.out
    have k1 := recBox_body w k a n cap B4.out
    go_wp2_with fail
    refine (recPut_any k a n cap B _ HL.out (HR.out.below B4.out) HZ.out).mono ?_
    rintro e w5 ⟨a5, c5, n5, rfl, l5, r5, z5, hb5⟩
    have C5 := Lib.hid hb5
    have B5 := Lib.hid (B4.out.trans (hb5.mono B4.out.size))
    have W5 := Lib.hid (W4.out.trans (hb5.mono W4.out.size))
    clear hb5
    rw [KO.out]
    clear k0 k1
    have k0 := recBox_kind w k a n cap B5.out
    have k1 := recBox_body w k a n cap B5.out
    go_wp2
    go_ret
    exact ⟨rfl, W5.out⟩
  · go_enter Try.func5, Try.ntmps5
    go_wp2_with fail
    refine (awake_any (recBox w k a n cap)).mono ?_
    rintro e w1 ⟨rfl, hb1⟩
    have B1 : Hid (Below (recBox w k a n cap).heap.size (recBox w k a n cap) w1) := Lib.hid hb1
    have W1 : Hid (Below w.heap.size w w1) := Lib.hid (HBX.out.trans (hb1.mono HBX.out.size))
    clear hb1
    have k0 := recBox_kind w k a n cap B1.out
    have k1 := recBox_body w k a n cap B1.out
    go_wp2_with fail
    refine (fewB_any al nl cl 5 xs true _ UL.out (RX.out.below B1.out) HF1.out).mono ?_
    rintro e w2 ⟨rfl, hb2⟩
    have C2 := Lib.hid hb2
    have B2 := Lib.hid (B1.out.trans (hb2.mono B1.out.size))
    have W2 := Lib.hid (W1.out.trans (hb2.mono W1.out.size))
    clear hb2
    clear k0 k1
    have k0 := recBox_kind w k a n cap B2.out
    have k1 := recBox_body w k a n cap B2.out
    go_wp2_with fail
    refine (few1_any k a n cap B true _ ⟨HL.out, HR.out.below B2.out, HZ.out⟩ HF2.out).mono ?_
    rintro e w3 ⟨rfl, hb3⟩
    have C3 := Lib.hid hb3
    have B3 := Lib.hid (B2.out.trans (hb3.mono B2.out.size))
    have W3 := Lib.hid (W2.out.trans (hb3.mono W2.out.size))
    clear hb3
    clear k0 k1
    have k0 := recBox_kind w k a n cap B3.out
    have k1 := recBox_body w k a n cap B3.out
    go_wp2_with fail
    refine (joined_any al nl cl xs _ hn5 UL.out (RX.out.below B3.out)).mono ?_
    rintro e w4 ⟨a4, n4, c4, rfl, l4, r4, z4, hb4⟩
    have C4 := Lib.hid hb4
    have B4 := Lib.hid (B3.out.trans (hb4.mono B3.out.size))
    have W4 := Lib.hid (W3.out.trans (hb4.mono W3.out.size))
    clear hb4
    rw [KJ.out]
    clear k0 k1
    have k0 := recBox_kind w k a n cap B4.out
    have k1 := recBox_body w k a n cap B4.out
    go_wp2_with fail
    refine (recPut_any k a n cap B _ HL.out (HR.out.below B4.out) HZ.out).mono ?_
    rintro e w5 ⟨a5, c5, n5, rfl, l5, r5, z5, hb5⟩
    have C5 := Lib.hid hb5
    have B5 := Lib.hid (B4.out.trans (hb5.mono B4.out.size))
    have W5 := Lib.hid (W4.out.trans (hb5.mono W4.out.size))
    clear hb5
    rw [KO.out]
    clear k0 k1
    have k0 := recBox_kind w k a n cap B5.out
    have k1 := recBox_body w k a n cap B5.out
    go_wp2
    go_ret
    exact ⟨rfl, W5.out⟩
  · have d1 : decide (j < 0) = false := by simp; omega
    have HJ := Lib.hid h'
    clear h h'
    go_enter Try.func5, Try.ntmps5
    go_wp2_with fail
    refine (awake_any (recBox w k a n cap)).mono ?_
    rintro e w1 ⟨rfl, hb1⟩
    have B1 : Hid (Below (recBox w k a n cap).heap.size (recBox w k a n cap) w1) := Lib.hid hb1
    have W1 : Hid (Below w.heap.size w w1) := Lib.hid (HBX.out.trans (hb1.mono HBX.out.size))
    clear hb1
    have k0 := recBox_kind w k a n cap B1.out
    have k1 := recBox_body w k a n cap B1.out
    go_wp2_with fail
    refine (fewB_any al nl cl 5 xs true _ UL.out (RX.out.below B1.out) HF1.out).mono ?_
    rintro e w2 ⟨rfl, hb2⟩
    have C2 := Lib.hid hb2
    have B2 := Lib.hid (B1.out.trans (hb2.mono B1.out.size))
    have W2 := Lib.hid (W1.out.trans (hb2.mono W1.out.size))
    clear hb2
    clear k0 k1
    have k0 := recBox_kind w k a n cap B2.out
    have k1 := recBox_body w k a n cap B2.out
    go_wp2_with fail
    refine (few1_any k a n cap B true _ ⟨HL.out, HR.out.below B2.out, HZ.out⟩ HF2.out).mono ?_
    rintro e w3 ⟨rfl, hb3⟩
    have C3 := Lib.hid hb3
    have B3 := Lib.hid (B2.out.trans (hb3.mono B2.out.size))
    have W3 := Lib.hid (W2.out.trans (hb3.mono W2.out.size))
    clear hb3
    clear k0 k1
    have k0 := recBox_kind w k a n cap B3.out
    have k1 := recBox_body w k a n cap B3.out
    go_wp2_with fail
    refine (joined_any al nl cl xs _ hn5 UL.out (RX.out.below B3.out)).mono ?_
    rintro e w4 ⟨a4, n4, c4, rfl, l4, r4, z4, hb4⟩
    have C4 := Lib.hid hb4
    have B4 := Lib.hid (B3.out.trans (hb4.mono B3.out.size))
    have W4 := Lib.hid (W3.out.trans (hb4.mono W3.out.size))
    clear hb4
    rw [KJ.out]
    clear k0 k1
    have k0 := recBox_kind w k a n cap B4.out
    have k1 := recBox_body w k a n cap B4.out
    go_wp2_with fail
    refine (recPut_any k a n cap B _ HL.out (HR.out.below B4.out) HZ.out).mono ?_
    rintro e w5 ⟨a5, c5, n5, rfl, l5, r5, z5, hb5⟩
    have C5 := Lib.hid hb5
    have B5 := Lib.hid (B4.out.trans (hb5.mono B4.out.size))
    have W5 := Lib.hid (W4.out.trans (hb5.mono W4.out.size))
    clear hb5
    rw [KO.out]
    have d2 : decide ((n5 : Int) ≤ j) = true := by have h1 := HJ.out; rw [l5.out] at h1; exact decide_eq_true h1
    clear k0 k1
    have k0 := recBox_kind w k a n cap B5.out
    have k1 := recBox_body w k a n cap B5.out
    go_wp2
    go_ret
    exact ⟨rfl, W5.out⟩

theorem R.torn_get {l : List R.T} {r : R.T} {i m : Nat} (hr : R.ok r) (hi : i < (R.bytes r).length) (hm : (R.all l).length = m) : R.get (R.all l ++ (R.bytes r).take i) m = (4, (0, []), 0) :=
  R.get_err (by simp; omega) (by decide) (by rw [List.drop_left' hm]; exact R.head_torn hr hi)
theorem R.all_len : ∀ l : List R.T, (∀ r ∈ l, R.ok r) → (R.all l).length ≤ l.length * 1007
  | [], _ => by simp [R.all]
  | r :: l, h => by
    have h1 := R.all_len l (fun x hx => h x (by simp [hx]))
    have h2 := (R.bytes_big (h r (by simp))).2
    have e : R.all (r :: l) = R.bytes r ++ R.all l := by simp [R.all]
    rw [e, List.length_append, List.length_cons]; omega

set_option maxRecDepth 100000 in
set_option maxHeartbeats 4000000 in
theorem torn_in (al : Option Addr) (nl cl : Nat) (k : Int) (a : Option Addr) (n cap : Nat) (j : Nat) (xs : List RP) (B : List Int) (w : World) (hx : xs.length = nl) (hxr : RecsIn w al cl xs) (hl : B.length = n) (hr : RowIn .u8 w a cap B) (hz : a = none → n = 0 ∧ cap = 0) (hf1 : (∀ x ∈ xs, x.2.2.1 ≤ 1100) ∧ (nl : Int) ≤ 5) (hf2 : n ≤ 1100) (hoj : ∀ r ∈ RP.recs xs, R.ok r) (ho : R.ok (k, B)) (hj : j < (R.bytes (k, B)).length) :
    Calls Try.prog 5 #[.slice al nl cl, .agg #[.int .i64 k, .slice a n cap], .int .i64 (j : Int)] w fun e w' => e = .returned (.bool true) ∧ Below w.heap.size w w' := by
  obtain ⟨i0, hi, hz0, hz1, hz2⟩ := info_parts info5
  have HBX := Lib.hid (recBox_below w k a n cap)
  have HL := Lib.hid hl
  have UL := Lib.hid hx
  have HR := Lib.hid (hr.below (recBox_below w k a n cap))
  have RX := Lib.hid (hxr.below (recBox_below w k a n cap))
  have HZ := Lib.hid hz
  have HF1 := Lib.hid (decide_eq_true hf1)
  have HF2 := Lib.hid (decide_eq_true hf2)
  have hn5 : nl ≤ 1000 := by have := hf1.2; omega
  have HJ : Hid (R.join (RP.recs xs) = some (R.all (RP.recs xs))) := Lib.hid (by unfold R.join; rw [if_pos hoj])
  have HP := Lib.hid (R.put_yes ho)
  have hal := R.all_len _ hoj
  rw [RP.recs_len, hx] at hal
  have hnl : nl ≤ 5 := by have := hf1.2; omega
  have hbig := (R.bytes_big ho).2
  have HDN := Lib.hid (R.torn_done hoj ho hj).eq
  have HGT := Lib.hid (fun m hm => R.torn_get (l := RP.recs xs) (r := (k, B)) (i := j) (m := m) ho hj hm)
  have HWD : Hid (∀ c ∈ R.all (RP.recs xs) ++ (R.bytes (k, B)).take j, (Lit.int .u8 c).wf = true) := Lib.hid (by
    refine C.wf_lit fun c hc => ?_
    rcases List.mem_append.1 hc with hc | hc
    · obtain ⟨r, hr1, hc⟩ := List.mem_flatMap.1 hc
      obtain ⟨x, hx1, rfl⟩ := List.mem_map.1 hr1
      exact R.bytes_wf (hoj _ hr1) (C.lit_wf (hxr.2.1 x hx1).2.1.2.1) c hc
    · exact R.bytes_wf ho (C.lit_wf hr.2.1) c (List.mem_of_mem_take hc))
  have HLP : Hid (((R.bytes (k, B)).take j).length = j) := Lib.hid (by simp; omega)
  have HB0 := Lib.hid hj
  have d1 : decide ((j : Int) < 0) = false := by simp
  clear hx hxr hl hr hz hf1 hf2 hoj ho
  go_enter Try.func5, Try.ntmps5
  go_wp2_with fail
  refine (awake_any (recBox w k a n cap)).mono ?_
  rintro e w1 ⟨rfl, hb1⟩
  have B1 : Hid (Below (recBox w k a n cap).heap.size (recBox w k a n cap) w1) := Lib.hid hb1
  have W1 : Hid (Below w.heap.size w w1) := Lib.hid (HBX.out.trans (hb1.mono HBX.out.size))
  clear hb1
  have k0 := recBox_kind w k a n cap B1.out
  have k1 := recBox_body w k a n cap B1.out
  go_wp2_with fail
  refine (fewB_any al nl cl 5 xs true _ UL.out (RX.out.below B1.out) HF1.out).mono ?_
  rintro e w2 ⟨rfl, hb2⟩
  have C2 := Lib.hid hb2
  have B2 := Lib.hid (B1.out.trans (hb2.mono B1.out.size))
  have W2 := Lib.hid (W1.out.trans (hb2.mono W1.out.size))
  clear hb2
  clear k0 k1
  have k0 := recBox_kind w k a n cap B2.out
  have k1 := recBox_body w k a n cap B2.out
  go_wp2_with fail
  refine (few1_any k a n cap B true _ ⟨HL.out, HR.out.below B2.out, HZ.out⟩ HF2.out).mono ?_
  rintro e w3 ⟨rfl, hb3⟩
  have C3 := Lib.hid hb3
  have B3 := Lib.hid (B2.out.trans (hb3.mono B2.out.size))
  have W3 := Lib.hid (W2.out.trans (hb3.mono W2.out.size))
  clear hb3
  clear k0 k1
  have k0 := recBox_kind w k a n cap B3.out
  have k1 := recBox_body w k a n cap B3.out
  go_wp2_with fail
  refine (joined_any al nl cl xs _ hn5 UL.out (RX.out.below B3.out)).mono ?_
  rintro e w4 ⟨a4, n4, c4, rfl, l4, r4, z4, hb4⟩
  have C4 := Lib.hid hb4
  have B4 := Lib.hid (B3.out.trans (hb4.mono B3.out.size))
  have W4 := Lib.hid (W3.out.trans (hb4.mono W3.out.size))
  clear hb4
  rw [HJ.out] at l4 r4 ⊢
  have L4 := Lib.hid (show (R.all (RP.recs xs)).length = n4 from l4.out)
  have hn4 : n4 ≤ 5035 := by rw [← L4.out]; omega
  have hs4 : (some (R.all (RP.recs xs))).isSome = true := rfl
  clear k0 k1
  have k0 := recBox_kind w k a n cap B4.out
  have k1 := recBox_body w k a n cap B4.out
  go_wp2_with fail
  refine (recPut_any k a n cap B _ HL.out (HR.out.below B4.out) HZ.out).mono ?_
  rintro e w5 ⟨a5, c5, n5, rfl, l5, r5, z5, hb5⟩
  have C5 := Lib.hid hb5
  have B5 := Lib.hid (B4.out.trans (hb5.mono B4.out.size))
  have W5 := Lib.hid (W4.out.trans (hb5.mono W4.out.size))
  clear hb5
  rw [HP.out] at l5 r5 ⊢
  have L5 := Lib.hid (show (R.bytes (k, B)).length = n5 from l5.out)
  have hjn : j < n5 := by rw [← L5.out]; exact HB0.out
  have hn5' : n5 ≤ 1007 := by rw [← L5.out]; exact hbig
  have hs5 : (some (R.bytes (k, B))).isSome = true := rfl
  have d2 : decide ((n5 : Int) ≤ (j : Int)) = false := by simp; omega
  clear k0 k1
  have k0 := recBox_kind w k a n cap B5.out
  have k1 := recBox_body w k a n cap B5.out
  have R4 := Lib.hid (show RowIn .u8 w5 a4 c4 (R.all (RP.recs xs)) from r4.out.below C5.out)
  have R5 := Lib.hid (show RowIn .u8 w5 a5 c5 (R.bytes (k, B)) from r5.out)
  obtain ⟨bb, off, rfl, _⟩ := row_at R5.out (i := 0) (by rw [L5.out]; omega)
  have hc5 : n5 ≤ c5 ∧ c5 ≤ maxLen := by have := R5.out.1; rw [L5.out] at this; exact this
  have R6 := Lib.hid (show RowIn .u8 w5 (sl (some ⟨bb, off, none⟩) 0 c5) c5 ((R.bytes (k, B)).take j) from by have := row_sliced R5.out (l := 0) (h := j) (m := c5) (by omega) (by rw [L5.out]; omega) (by omega) hc5.2; simpa using this)
  have Z6 : Hid (sl (some ⟨bb, off, none⟩) 0 c5 = none → j = 0 ∧ c5 = 0) := Lib.hid (fun h => by have := sl_none h; cases this)
  have hsn : n4 + j ≤ 10000 := by omega
  have hjc : j ≤ c5 := by omega
  clear hal hbig hs4 hs5 r4 r5 l4 l5
  go_wp2_with fail
  refine wp_region_held (S := fun w' => Below w5.heap.size w5 w') (by kernel_rfl) ?_
  change wpAnyH _ _ _ _ _ _ _ _ (World.drew w5)
  have HS0 : (fun w' => Below w5.heap.size w5 w') (World.drew w5) := below_drew w5
  refine wpAnyH_take (i := 0) (v := (.slice a4 n4 c4)) rfl (by kernel_rfl) (by kernel_rfl) (by kernel_rfl) (fun _ _ _ h => h) (.inl ⟨by kernel_rfl, fun w9 hS => by kernel_rfl⟩) HS0 ?_
  refine wpAnyH_take (i := 2) (v := (.slice (some ⟨bb, off, none⟩) n5 c5)) rfl (by kernel_rfl) (by kernel_rfl) (by kernel_rfl) (fun _ _ _ h => h) (.inl ⟨by kernel_rfl, fun w9 hS => by kernel_rfl⟩) HS0 ?_
  refine wpAnyH_take (i := 3) (v := (.int .i64 (j : Int))) rfl (by kernel_rfl) (by kernel_rfl) (by kernel_rfl) (fun _ _ _ h => h) (.inl ⟨by kernel_rfl, fun w9 hS => by kernel_rfl⟩) HS0 ?_
  refine wpAnyH_take (i := 4) (v := (.slice (sl (some ⟨bb, off, none⟩) 0 c5) j c5)) rfl (by kernel_rfl) (by kernel_rfl) (by kernel_rfl) (fun _ _ _ h => h) (.inl ⟨by kernel_rfl, fun w9 hS => exec_slice0 (a := some ⟨bb, off, none⟩) (len := n5) (cap := c5) (h := j) rfl (by kernel_rfl) (by kernel_rfl) hjc w9⟩) HS0 ?_
  refine wpAnyH_one (i := 1) (by kernel_rfl) (wpOp_append_row rfl (by kernel_rfl) _ _ 22 (by rfl) w5.heap.size 5 i0 (.int .u8 0) 1 Try.underlying22 hi hz0 hz1 hz2 rfl (.slice none 0 0) 0 [] (by kernel_rfl) (World.ownsRow_nil _ _ _ _) .u8 a4 n4 c4 (R.all (RP.recs xs)) (by kernel_rfl) R4.out.drew L4.out z4.out (by unfold maxLen; omega) (by omega) (Nat.le_refl _) ?_)
  intro vA wA hownA hgrowA
  rw [Nat.zero_add, List.nil_append] at hownA
  have HSA : (fun w' => Below w5.heap.size w5 w') wA := (below_drew w5).grown hgrowA (Nat.le_refl _) (fun k ek => by cases ek)
  refine ⟨HSA, ?_⟩
  refine wpAnyH_one (i := 5) (by kernel_rfl) (wpOp_append_row rfl (by kernel_rfl) _ _ 22 (by rfl) w5.heap.size 5 i0 (.int .u8 0) 1 Try.underlying22 hi hz0 hz1 hz2 rfl vA n4 ((R.all (RP.recs xs)).map (Value.int .u8)) (by kernel_rfl) hownA .u8 (sl (some ⟨bb, off, none⟩) 0 c5) j c5 ((R.bytes (k, B)).take j) (by kernel_rfl) (R6.out.below HSA) HLP.out Z6.out (by unfold maxLen; omega) (by omega) (Below.size HSA) ?_)
  intro vB w6 hownB hgrowB
  have hb6 : Below w5.heap.size w5 w6 := below_appended0 hownA (Below.size HSA) HSA hgrowB
  obtain ⟨a6, c6, rfl, r6, z6⟩ := own_row3 (k := .u8) (L := R.all (RP.recs xs) ++ (R.bytes (k, B)).take j) (by simpa using hownB) HWD.out
  have R7 := Lib.hid r6
  have Z7 := Lib.hid z6
  refine ⟨hb6, ?_⟩
  refine wpAnyH_take (i := 6) (v := (.slice a6 (n4 + j) c6)) rfl (by kernel_rfl) (by kernel_rfl) (by kernel_rfl) (fun _ _ _ h => h) (.inl ⟨by kernel_rfl, fun w9 hS => by kernel_rfl⟩) hb6 ?_
  refine wpAnyH_done (by kernel_rfl) ?_ _
  clear hownA hgrowA hownB hgrowB r6 z6 HSA HS0
  have C6 := Lib.hid hb6
  have B6 := Lib.hid (B5.out.trans (hb6.mono B5.out.size))
  have W6 := Lib.hid (W5.out.trans (hb6.mono W5.out.size))
  clear hb6
  clear k0 k1
  have k0 := recBox_kind w k a n cap B6.out
  have k1 := recBox_body w k a n cap B6.out
  have LD : Hid ((R.all (RP.recs xs) ++ (R.bytes (k, B)).take j).length = n4 + j) := Lib.hid (by rw [List.length_append, L4.out, HLP.out])
  have HST : Hid (R.stop (R.all (RP.recs xs) ++ (R.bytes (k, B)).take j) = n4) := Lib.hid (by rw [← HDN.out.2, L4.out])
  have KT : Hid ((R.get (R.all (RP.recs xs) ++ (R.bytes (k, B)).take j) (n4 : Int)).2.2 = 0) := Lib.hid (by rw [HGT.out n4 L4.out])
  have KE : Hid ((R.get (R.all (RP.recs xs) ++ (R.bytes (k, B)).take j) (n4 : Int)).1 = 4) := Lib.hid (by rw [HGT.out n4 L4.out])
  have h9 : n4 + j ≤ 90000 := by omega
  go_wp2_with fail
  refine (scan_any a6 (n4 + j) c6 _ _ h9 LD.out R7.out Z7.out).mono ?_
  rintro e w7 ⟨a7, n7, c7, ys, rfl, l7, x7, r7, hb7⟩
  rw [HST.out]
  have C7 := Lib.hid hb7
  have B7 := Lib.hid (B6.out.trans (hb7.mono B6.out.size))
  have W7 := Lib.hid (W6.out.trans (hb7.mono W6.out.size))
  clear hb7
  clear k0 k1
  have k0 := recBox_kind w k a n cap B7.out
  have k1 := recBox_body w k a n cap B7.out
  go_wp2_with fail
  refine (recGet_any a6 (n4 + j) c6 n4 _ _ h9 LD.out (R7.out.below C7.out) Z7.out).mono ?_
  rintro e w8 hget
  obtain ⟨⟨k8', a8', n8', c8', b8'⟩, rfl, HX8, ho8, _, hb8'⟩ := hget.place
  rw [KT.out]
  rw [KE.out]
  have hb8 := hb8'.trans ((recBox_below w8 k8' a8' n8' c8').mono hb8'.size)
  have HO8 := Lib.hid (ho8.out.below (recBox_below w8 k8' a8' n8' c8'))
  clear hget ho8 hb8'
  have C8 := Lib.hid hb8
  have B8 := Lib.hid (B7.out.trans (hb8.mono B7.out.size))
  have W8 := Lib.hid (W7.out.trans (hb8.mono W7.out.size))
  clear hb8
  clear k0 k1
  have k0 := recBox_kind w k a n cap B8.out
  have k1 := recBox_body w k a n cap B8.out
  have EL : Hid (decide (RP.recs ys = RP.recs xs) = true) := Lib.hid (decide_eq_true (x7.out.trans HDN.out.1.symm))
  go_wp2_with fail
  refine (lists_any a7 al n7 nl c7 cl ys xs true _ l7.out UL.out (r7.out.below C8.out) (RX.out.below B8.out) EL.out).mono ?_
  rintro e w9 ⟨rfl, hb9⟩
  have C9 := Lib.hid hb9
  have B9 := Lib.hid (B8.out.trans (hb9.mono B8.out.size))
  have W9 := Lib.hid (W8.out.trans (hb9.mono W8.out.size))
  clear hb9
  clear k0 k1
  have k0 := recBox_kind w k a n cap B9.out
  have k1 := recBox_body w k a n cap B9.out
  go_wp2
  go_ret
  exact ⟨rfl, W9.out⟩

theorem torn_law (al : Option Addr) (nl cl : Nat) (xs : List RP) (k : Int) (a : Option Addr) (n cap : Nat) (z : List Int) (j : Int) (w : World) (h0 : RecsIn w al cl xs) (hu : xs.length = nl) (h1 : IsRow .u8 w a n cap z) :
    Calls Try.prog 5 #[.slice al nl cl, .agg #[.int .i64 k, .slice a n cap], .int .i64 j] w fun e w' => e = .returned (.bool true) ∧ Below w.heap.size w w' := by
  by_cases hf1 : (∀ x ∈ xs, x.2.2.1 ≤ 1100) ∧ (nl : Int) ≤ 5
  · by_cases hf2 : n ≤ 1100
    · by_cases hoj : ∀ r ∈ RP.recs xs, R.ok r
      · have hj : R.join (RP.recs xs) = some (R.all (RP.recs xs)) := by unfold R.join; rw [if_pos hoj]
        by_cases ho : R.ok (k, z.take n)
        · by_cases h3 : j < 0
          · exact torn_out al nl cl k a n cap j xs _ w hu h0 h1.rowIn.2 h1.rowIn.1 h1.nil hf1 hf2 true true (by rw [hj]; rfl) (by rw [R.put_yes ho]; rfl) (.inr (.inr ⟨rfl, rfl, .inl h3⟩))
          · obtain ⟨i, rfl⟩ : ∃ i : Nat, j = i := ⟨j.toNat, by omega⟩
            by_cases h4 : i < (R.bytes (k, z.take n)).length
            · exact torn_in al nl cl k a n cap i xs _ w hu h0 h1.rowIn.2 h1.rowIn.1 h1.nil hf1 hf2 hoj ho h4
            · exact torn_out al nl cl k a n cap i xs _ w hu h0 h1.rowIn.2 h1.rowIn.1 h1.nil hf1 hf2 true true (by rw [hj]; rfl) (by rw [R.put_yes ho]; rfl) (.inr (.inr ⟨rfl, rfl, .inr ⟨by omega, by rw [R.put_yes ho]; show ((R.bytes (k, z.take n)).length : Int) ≤ i; omega⟩⟩))
        · exact torn_out al nl cl k a n cap j xs _ w hu h0 h1.rowIn.2 h1.rowIn.1 h1.nil hf1 hf2 true false (by rw [hj]; rfl) (by rw [R.put_no ho]; rfl) (.inr (.inl ⟨rfl, rfl⟩))
      · exact torn_out al nl cl k a n cap j xs _ w hu h0 h1.rowIn.2 h1.rowIn.1 h1.nil hf1 hf2 false _ (by unfold R.join; rw [if_neg hoj]; rfl) rfl (.inl rfl)
    · exact torn_big al nl cl k a n cap j xs _ w hu h0 h1.rowIn.2 h1.rowIn.1 h1.nil (.inr hf2)
  · exact torn_big al nl cl k a n cap j xs _ w hu h0 h1.rowIn.2 h1.rowIn.1 h1.nil (.inl hf1)
end Go.Proofs.Ytnpgjndhkmpciaa
