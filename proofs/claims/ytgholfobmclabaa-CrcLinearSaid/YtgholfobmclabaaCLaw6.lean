/-
  Walk of moorings/mooringslaw04.CrcLinear: for every input it returns true.
-/
import Derived.Test.YtgholfobmclabaaCTurn
import Derived.Test.YtgholfobmclabaaCLaw2
namespace Go.Proofs.Ytgholfobmclabaa
open Go.RowKit

theorem linear_no (a0 a1 : Option Addr) (l0 l1 c0 c1 : Nat) (n : Int) (w : World) (h : 300 < l0 ∨ (l0 ≤ 300 ∧ l0 ≠ l1) ∨ (l0 ≤ 300 ∧ l0 = l1 ∧ n < 0) ∨ (l0 ≤ 300 ∧ l0 = l1 ∧ 0 ≤ n ∧ 8 * (l0 : Int) ≤ n)) :
    Calls Try.prog 8 #[.slice a0 l0 c0, .slice a1 l1 c1, .int .i64 n] w fun e w' => e = .returned (.bool true) ∧ Below w.heap.size w w' := by
  rcases h with h1 | ⟨h1, h2⟩ | ⟨h1, rfl, h3⟩ | ⟨h1, rfl, h3, h4⟩
  · have d1 : decide (300 < (l0 : Int)) = true := by simp; omega
    go_enter Try.func8, Try.ntmps8
    go_wp2_with fail
    refine (awake_any _).mono ?_
    rintro e w1 ⟨rfl, hb1⟩
    have W1 := Lib.hid hb1
    clear hb1
    go_wp2
    go_ret
    exact ⟨rfl, W1.out⟩
  · have d1 : decide (300 < (l0 : Int)) = false := by simp; omega
    have d2 : ((l0 : Int) != l1) = true := by simp; omega
    clear h2
    go_enter Try.func8, Try.ntmps8
    go_wp2_with fail
    refine (awake_any _).mono ?_
    rintro e w1 ⟨rfl, hb1⟩
    have W1 := Lib.hid hb1
    clear hb1
    go_wp2
    go_ret
    exact ⟨rfl, W1.out⟩
  · have d1 : decide (300 < (l0 : Int)) = false := by simp; omega
    go_enter Try.func8, Try.ntmps8
    go_wp2_with fail
    refine (awake_any _).mono ?_
    rintro e w1 ⟨rfl, hb1⟩
    have W1 := Lib.hid hb1
    clear hb1
    go_wp2
    go_ret
    exact ⟨rfl, W1.out⟩
  · have d1 : decide (300 < (l0 : Int)) = false := by simp; omega
    go_enter Try.func8, Try.ntmps8
    go_wp2_with fail
    refine (awake_any _).mono ?_
    rintro e w1 ⟨rfl, hb1⟩
    have W1 := Lib.hid hb1
    clear hb1
    go_wp2
    go_ret
    exact ⟨rfl, W1.out⟩

theorem C.xor_n (x y : BitVec 32) : bits .xor .u32 (C.n x) (C.n y) = C.n (x ^^^ y) := by
  unfold C.n
  rw [BitVec.toNat_xor]
  exact u32_xor_nat x.toNat y.toNat x.isLt y.isLt

/-- A byte of a slice of the call's own of which one bit is turned. -/
theorem own_flip {w : World} {base g cap l j q r o : Nat} {L : List Int} (h : w.ownsRow base 5 1 (.slice (some ⟨g, 0, none⟩) l cap) l (L.map (Value.int .u8))) (hq : j / 8 = q) (hr : j % 8 = r) (ho : L.getD q 0 = (o : Int)) (ho8 : o < 256) :
    (w.setCell ⟨g, q, none⟩ (.int .u8 (bits .xor .u8 (o : Int) (128 / 2 ^ r)))).drew.ownsRow base 5 1 (.slice (some ⟨g, 0, none⟩) l cap) l ((C.flip L j).map (Value.int .u8)) := by
  have h1 := (h.stored q (.int .u8 (bits .xor .u8 (o : Int) (128 / 2 ^ r)))).1
  have h2 : (C.flip L j).map (Value.int .u8) = (L.map (Value.int .u8)).set q (.int .u8 (bits .xor .u8 (o : Int) (128 / 2 ^ r))) := by
    unfold C.flip
    rw [hq, hr, ho, List.map_set, C.xor_lit ho8, Int.toNat_natCast]
  rw [h2]
  exact h1
theorem own_at {w : World} {base g cap l q o : Nat} {L : List Int} (h : w.ownsRow base 5 1 (.slice (some ⟨g, 0, none⟩) l cap) l (L.map (Value.int .u8))) (hl : L.length = l) (hq : q < l) (ho : L.getD q 0 = (o : Int)) : w.cell? ⟨g, q, none⟩ = some (.int .u8 (o : Int)) := by
  rw [h.cellAt q (by omega), ← ho]
  simp [show q < L.length by omega]
theorem own_byte {L : List Int} {q : Nat} (h : ∀ n ∈ L, (Lit.int .u8 n).wf = true) (hq : q < L.length) : ∃ o : Nat, L.getD q 0 = o ∧ o < 256 := by
  have := byte_of h (L.getD q 0) (by simp [hq])
  exact ⟨(L.getD q 0).toNat, by omega, by omega⟩

set_option maxRecDepth 100000 in
set_option maxHeartbeats 4000000 in
theorem linear_in (a0 a1 : Option Addr) (l c0 c1 j : Nat) (A B : List Int) (w : World) (h0 : A.length = l) (h1 : B.length = l) (r0 : RowIn .u8 w a0 c0 A) (r1 : RowIn .u8 w a1 c1 B) (n0 : a0 = none → l = 0 ∧ c0 = 0) (n1 : a1 = none → l = 0 ∧ c1 = 0) (hl0 : l ≤ 300) (hj : j < 8 * l) :
    Calls Try.prog 8 #[.slice a0 l c0, .slice a1 l c1, .int .i64 j] w fun e w' => e = .returned (.bool true) ∧ Below w.heap.size w w' := by
  obtain ⟨i0, hi, hz0, hz1, hz2⟩ := info_parts info5
  have d1 : decide (300 < (l : Int)) = false := by simp; omega
  have d2 : decide ((j : Int) < 0) = false := by simp
  have d3 : decide (8 * (l : Int) ≤ (j : Int)) = false := by simp; omega
  obtain ⟨q, hq⟩ : ∃ q, j / 8 = q := ⟨_, rfl⟩
  obtain ⟨r, hr⟩ : ∃ r, j % 8 = r := ⟨_, rfl⟩
  have hqi : (j : Int) / 8 = (q : Int) := by omega
  have hri : (j : Int) % 8 = (r : Int) := by omega
  have hql : q < l := by omega
  obtain ⟨oa, hoa, oa8⟩ := own_byte (q := q) r0.2.1 (by omega)
  obtain ⟨ob, hob, ob8⟩ := own_byte (q := q) r1.2.1 (by omega)
  obtain ⟨sa, hsa⟩ : ∃ t, C.n (C.sum A) = t := ⟨_, rfl⟩
  obtain ⟨sb, hsb⟩ : ∃ t, C.n (C.sum B) = t := ⟨_, rfl⟩
  obtain ⟨sx, hsx⟩ : ∃ t, C.n (C.sum (C.flip A j)) = t := ⟨_, rfl⟩
  obtain ⟨sy, hsy⟩ : ∃ t, C.n (C.sum (C.flip B j)) = t := ⟨_, rfl⟩
  have E1 : (bits .xor .u32 sx sa == bits .xor .u32 sy sb) = true := by
    rw [← hsx, ← hsa, ← hsy, ← hsb, C.xor_n, C.xor_n, C.flip_diff (by omega), C.flip_diff (by omega), h0, h1]
    exact beq_self_eq_true _
  have E2 : (sx == sa) = false := by
    rw [← hsx, ← hsa]
    simp only [beq_eq_false_iff_ne, ne_eq, C.n_inj]
    exact C.flip_sum (C.lit_wf r0.2.1) (by omega)
  have E3 : (sx != sa) = true := by rw [bne, E2]; rfl
  have WX := Lib.hid (C.wf_lit (C.flip_wf (C.lit_wf r0.2.1) j (by omega)))
  have WY := Lib.hid (C.wf_lit (C.flip_wf (C.lit_wf r1.2.1) j (by omega)))
  have LX : Hid ((C.flip A j).length = l) := Lib.hid (by rw [C.flip_len, h0])
  have LY : Hid ((C.flip B j).length = l) := Lib.hid (by rw [C.flip_len, h1])
  have Kq := Lib.hid hq
  have Kr := Lib.hid hr
  have Koa := Lib.hid hoa
  have Kob := Lib.hid hob
  have Ksa := Lib.hid hsa
  have Ksb := Lib.hid hsb
  have Ksx := Lib.hid hsx
  have Ksy := Lib.hid hsy
  have L0 := Lib.hid h0
  have L1 := Lib.hid h1
  have R0 := Lib.hid r0
  have R1 := Lib.hid r1
  have N0 := Lib.hid n0
  have N1 := Lib.hid n1
  clear hq hr hoa hob hsa hsb hsx hsy h0 h1 r0 r1 n0 n1
  go_enter Try.func8, Try.ntmps8
  go_wp2_with fail
  refine (awake_any _).mono ?_
  rintro e w1 ⟨rfl, hb1⟩
  have W1 := Lib.hid hb1
  clear hb1
  go_wp2_with (first
    | (at_builtin; refine wpList_append_row _ rfl _ _ 22 rfl w.heap.size 5 i0 (.int .u8 0) 1 Try.underlying22 hi hz0 hz1 hz2 rfl _ 0 [] rfl (World.ownsRow_nil _ _ _ _) .u8 a0 l c0 A rfl (R0.out.below W1.out) L0.out N0.out (by unfold maxLen; omega) (by omega) W1.out.size ?_; intro va wa owna ga; have OA : Hid (wa.ownsRow w.heap.size 5 1 va l (A.map (Value.int .u8))) := Lib.hid (by simpa using owna); have WA : Hid (Below w.heap.size w wa) := Lib.hid (W1.out.grown ga W1.out.size (fun k ek => by cases ek)); clear owna ga; obtain ⟨g, cx, rfl⟩ := ownsRow_some OA.out (by omega))
    | (at_builtin; refine wpList_append_row _ rfl _ _ 22 rfl wa.heap.size 5 i0 (.int .u8 0) 1 Try.underlying22 hi hz0 hz1 hz2 rfl _ 0 [] rfl (World.ownsRow_nil _ _ _ _) .u8 a1 l c1 B rfl (R1.out.below WA.out) L1.out N1.out (by unfold maxLen; omega) (by omega) (Nat.le_refl _) ?_; intro vb wb ownb gb; have OB : Hid (wb.ownsRow wa.heap.size 5 1 vb l (B.map (Value.int .u8))) := Lib.hid (by simpa using ownb); have WB : Hid (Below wa.heap.size wa wb) := Lib.hid ((Below.refl _ wa).grown gb (Nat.le_refl _) (fun k ek => by cases ek)); clear ownb gb; obtain ⟨g', cy, rfl⟩ := ownsRow_some OB.out (by omega); have OA2 := Lib.hid (ownsRow_below OA.out WB.out); have W2 : Hid (Below w.heap.size w wb) := Lib.hid (WA.out.trans (WB.out.mono WA.out.size)); have k1 := own_at OA2.out L0.out hql Koa.out; have k2 := OA2.out.frozenAt q))
  go_region
  have HGX := Lib.hid (OA2.out.lt g rfl)
  have OX3 := Lib.hid (own_flip OA2.out Kq.out Kr.out Koa.out oa8)
  have OB3 : Hid ((wb.setCell ⟨g, q, none⟩ (.int .u8 (bits .xor .u8 (oa : Int) (128 / 2 ^ r)))).drew.ownsRow wa.heap.size 5 1 (.slice (some ⟨g', 0, none⟩) l cy) l (B.map (Value.int .u8))) := Lib.hid ((OB.out.kept (OA2.out.stored q _).2 (.inr (by have h1 := (OB.out.lt g' rfl).1; have h2 := (OA.out.lt g rfl).2; simp [Value.ownBlock]; omega))).drew)
  have W3 : Hid (Below w.heap.size w (wb.setCell ⟨g, q, none⟩ (.int .u8 (bits .xor .u8 (oa : Int) (128 / 2 ^ r)))).drew) := Lib.hid ((W2.out.setCell (p := ⟨g, q, none⟩) HGX.out.1 _).drew)
  obtain ⟨w3, hw3⟩ : ∃ w3, (wb.setCell ⟨g, q, none⟩ (.int .u8 (bits .xor .u8 (oa : Int) (128 / 2 ^ r)))).drew = w3 := ⟨_, rfl⟩
  rw [hw3] at OX3 OB3 W3 ⊢
  clear hw3 k1 k2
  have k3 := own_at OB3.out L1.out hql Kob.out
  have k4 := OB3.out.frozenAt q
  go_wp2
  go_region
  have OY4 := Lib.hid (own_flip OB3.out Kq.out Kr.out Kob.out ob8)
  have OX4 : Hid ((w3.setCell ⟨g', q, none⟩ (.int .u8 (bits .xor .u8 (ob : Int) (128 / 2 ^ r)))).drew.ownsRow w.heap.size 5 1 (.slice (some ⟨g, 0, none⟩) l cx) l ((C.flip A j).map (Value.int .u8))) := Lib.hid ((OX3.out.kept (OB3.out.stored q _).2 (.inr (by have h1 := (OB.out.lt g' rfl).1; have h2 := (OA.out.lt g rfl).2; simp [Value.ownBlock]; omega))).drew)
  have W4 : Hid (Below w.heap.size w (w3.setCell ⟨g', q, none⟩ (.int .u8 (bits .xor .u8 (ob : Int) (128 / 2 ^ r)))).drew) := Lib.hid ((W3.out.setCell (p := ⟨g', q, none⟩) (Nat.le_trans WA.out.size (OB.out.lt g' rfl).1) _).drew)
  obtain ⟨w4, hw4⟩ : ∃ w4, (w3.setCell ⟨g', q, none⟩ (.int .u8 (bits .xor .u8 (ob : Int) (128 / 2 ^ r)))).drew = w4 := ⟨_, rfl⟩
  rw [hw4] at OX4 OY4 W4 ⊢
  clear hw4 k3 k4
  have RX := Lib.hid (row3_of OX4.out WX.out)
  have RY := Lib.hid (row3_of OY4.out WY.out)
  have B4 : Hid (Below w4.heap.size w4 w4) := Lib.hid (Below.refl _ _)
  go_wp2_with fail
  refine (sum_v _ l _ (C.flip A j) sx Ksx.out _ LX.out (RX.out.below B4.out)).mono ?_
  rintro e w5 ⟨rfl, hb5⟩
  have B5 := Lib.hid (B4.out.trans (hb5.mono B4.out.size))
  have W5 := Lib.hid (W4.out.trans (hb5.mono W4.out.size))
  clear hb5
  go_wp2_with fail
  refine (sum_v _ l _ A sa Ksa.out _ L0.out (R0.out.below W5.out)).mono ?_
  rintro e w6 ⟨rfl, hb6⟩
  have B6 := Lib.hid (B5.out.trans (hb6.mono B5.out.size))
  have W6 := Lib.hid (W5.out.trans (hb6.mono W5.out.size))
  clear hb6
  go_wp2_with fail
  refine (sum_v _ l _ (C.flip B j) sy Ksy.out _ LY.out (RY.out.below B6.out)).mono ?_
  rintro e w7 ⟨rfl, hb7⟩
  have B7 := Lib.hid (B6.out.trans (hb7.mono B6.out.size))
  have W7 := Lib.hid (W6.out.trans (hb7.mono W6.out.size))
  clear hb7
  go_wp2_with fail
  refine (sum_v _ l _ B sb Ksb.out _ L1.out (R1.out.below W7.out)).mono ?_
  rintro e w8 ⟨rfl, hb8⟩
  have B8 := Lib.hid (B7.out.trans (hb8.mono B7.out.size))
  have W8 := Lib.hid (W7.out.trans (hb8.mono W7.out.size))
  clear hb8
  go_wp2_with fail
  refine (sum_v _ l _ (C.flip A j) sx Ksx.out _ LX.out (RX.out.below B8.out)).mono ?_
  rintro e w9 ⟨rfl, hb9⟩
  have B9 := Lib.hid (B8.out.trans (hb9.mono B8.out.size))
  have W9 := Lib.hid (W8.out.trans (hb9.mono W8.out.size))
  clear hb9
  go_wp2_with fail
  refine (sum_v _ l _ A sa Ksa.out _ L0.out (R0.out.below W9.out)).mono ?_
  rintro e w10 ⟨rfl, hb10⟩
  have B10 := Lib.hid (B9.out.trans (hb10.mono B9.out.size))
  have W10 := Lib.hid (W9.out.trans (hb10.mono W9.out.size))
  clear hb10
  go_wp2
  go_ret
  exact ⟨rfl, W10.out⟩

theorem linear_law (a0 a1 : Option Addr) (l0 l1 c0 c1 : Nat) (z0 z1 : List Int) (n : Int) (w : World) (w0 : IsRow .u8 w a0 l0 c0 z0) (w1 : IsRow .u8 w a1 l1 c1 z1) :
    Calls Try.prog 8 #[.slice a0 l0 c0, .slice a1 l1 c1, .int .i64 n] w fun e w' => e = .returned (.bool true) ∧ Below w.heap.size w w' := by
  by_cases h : l0 ≤ 300 ∧ l0 = l1 ∧ 0 ≤ n ∧ n < 8 * (l0 : Int)
  · obtain ⟨h1, rfl, h3, h4⟩ := h
    obtain ⟨k, rfl⟩ : ∃ k : Nat, n = k := ⟨n.toNat, by omega⟩
    exact linear_in a0 a1 l0 c0 c1 k _ _ w w0.rowIn.2 w1.rowIn.2 w0.rowIn.1 w1.rowIn.1 w0.nil w1.nil h1 (by omega)
  · exact linear_no a0 a1 l0 l1 c0 c1 n w (by omega)
end Go.Proofs.Ytgholfobmclabaa
