/-
  Walks of moorings/mooringslaw04.CrcMore and CrcNoughts: for every input they return true.
-/
import Derived.Test.YtgholfobmclabaaCLaw1
namespace Go.Proofs.Ytgholfobmclabaa
open Go.RowKit

theorem sum_v (a : Option Addr) (len cap : Nat) (L : List Int) (t : Int) (h : C.n (C.sum L) = t) (w : World) (hl : L.length = len) (hr : RowIn .u8 w a cap L) : Calls Try.prog 12 #[.slice a len cap] w fun e w' => e = .returned (.int .u32 t) ∧ Below w.heap.size w w' := by
  rw [← h]; exact sum_any a len cap L w hl hr
theorem more_v (a : Option Addr) (len cap : Nat) (L : List Int) (s : BitVec 32) (v t : Int) (hs : C.n s = v) (h : C.n (C.more s L) = t) (w : World) (hl : L.length = len) (hr : RowIn .u8 w a cap L) : Calls Try.prog 14 #[.int .u32 v, .slice a len cap] w fun e w' => e = .returned (.int .u32 t) ∧ Below w.heap.size w w' := by
  rw [← h, ← hs]; exact more_any a len cap L s w hl hr
theorem C.of_u32 {x : Int} (h : (Lit.int .u32 x).wf = true) : ∃ s : BitVec 32, C.n s = x := by
  have : 0 ≤ x ∧ x ≤ 4294967295 := by
    simp [Lit.wf, IntKind.bits, IntKind.signed, IntKind.min, IntKind.max] at h
    omega
  refine ⟨BitVec.ofNat 32 x.toNat, ?_⟩
  unfold C.n
  rw [BitVec.toNat_ofNat]
  omega

theorem crcmore_short (a0 a1 : Option Addr) (l0 l1 c0 c1 : Nat) (x : Int) (w : World) (h : 300 < l0 ∨ (l0 ≤ 300 ∧ 300 < l1)) :
    Calls Try.prog 4 #[.slice a0 l0 c0, .slice a1 l1 c1, .int .u32 x] w fun e w' => e = .returned (.bool true) ∧ Below w.heap.size w w' := by
  rcases h with h1 | ⟨h1, h2⟩
  · have d1 : decide (300 < (l0 : Int)) = true := by simp; omega
    go_enter Try.func4, Try.ntmps4
    go_wp2_with fail
    refine (awake_any _).mono ?_
    rintro e w1 ⟨rfl, hb1⟩
    have W1 := Lib.hid hb1
    clear hb1
    go_wp2
    go_ret
    exact ⟨rfl, W1.out⟩
  · have d1 : decide (300 < (l0 : Int)) = false := by simp; omega
    have d2 : decide (300 < (l1 : Int)) = true := by simp; omega
    go_enter Try.func4, Try.ntmps4
    go_wp2_with fail
    refine (awake_any _).mono ?_
    rintro e w1 ⟨rfl, hb1⟩
    have W1 := Lib.hid hb1
    clear hb1
    go_wp2
    go_ret
    exact ⟨rfl, W1.out⟩

set_option maxRecDepth 100000 in
set_option maxHeartbeats 4000000 in
theorem crcmore_in (a0 a1 : Option Addr) (l0 l1 c0 c1 : Nat) (A B : List Int) (s : BitVec 32) (x : Int) (w : World) (hx : C.n s = x) (h0 : A.length = l0) (h1 : B.length = l1) (r0 : RowIn .u8 w a0 c0 A) (r1 : RowIn .u8 w a1 c1 B) (n0 : a0 = none → l0 = 0 ∧ c0 = 0) (n1 : a1 = none → l1 = 0 ∧ c1 = 0) (hl0 : l0 ≤ 300) (hl1 : l1 ≤ 300) :
    Calls Try.prog 4 #[.slice a0 l0 c0, .slice a1 l1 c1, .int .u32 x] w fun e w' => e = .returned (.bool true) ∧ Below w.heap.size w w' := by
  obtain ⟨i0, hi, hz0, hz1, hz2⟩ := info_parts info5
  have d1 : decide (300 < (l0 : Int)) = false := by simp; omega
  have d2 : decide (300 < (l1 : Int)) = false := by simp; omega
  obtain ⟨u, hu⟩ : ∃ t, C.n (C.sum A) = t := ⟨_, rfl⟩
  obtain ⟨t, ht⟩ : ∃ t, C.n (C.sum (A ++ B)) = t := ⟨_, rfl⟩
  obtain ⟨y, hy⟩ : ∃ t, C.n (C.more s A) = t := ⟨_, rfl⟩
  obtain ⟨z, hz⟩ : ∃ t, C.n (C.more s (A ++ B)) = t := ⟨_, rfl⟩
  have KX := Lib.hid hx
  have KU := Lib.hid hu
  have KT := Lib.hid ht
  have KT2 : Hid (C.n (C.more (C.sum A) B) = t) := Lib.hid (by rw [← ht, C.sum_append])
  have KY := Lib.hid hy
  have KZ := Lib.hid hz
  have KZ2 : Hid (C.n (C.more (C.more s A) B) = z) := Lib.hid (by rw [← hz, C.more_more])
  have KN : Hid (C.n (C.more s []) = x) := Lib.hid (by rw [C.more_nil, hx])
  have KU2 : Hid (C.n (C.more 0 A) = u) := Lib.hid hu
  have LAB : Hid ((A ++ B).length = l0 + l1) := Lib.hid (by simp; omega)
  have WAB : Hid (∀ n ∈ A ++ B, (Lit.int .u8 n).wf = true) := Lib.hid (fun n hn => (List.mem_append.1 hn).elim (r0.2.1 n) (r1.2.1 n))
  have L0 := Lib.hid h0
  have L1 := Lib.hid h1
  have R0 := Lib.hid r0
  have R1 := Lib.hid r1
  have N0 := Lib.hid n0
  have N1 := Lib.hid n1
  clear hx hu ht hy hz h0 h1 r0 r1 n0 n1
  go_enter Try.func4, Try.ntmps4
  go_wp2_with fail
  refine (awake_any _).mono ?_
  rintro e w1 ⟨rfl, hb1⟩
  have W1 := Lib.hid hb1
  clear hb1
  go_wp2_with (first
    | (at_builtin; refine wpList_append_row _ rfl _ _ 22 rfl w.heap.size 5 i0 (.int .u8 0) 1 Try.underlying22 hi hz0 hz1 hz2 rfl _ 0 [] rfl (World.ownsRow_nil _ _ _ _) .u8 a0 l0 c0 A rfl (R0.out.below W1.out) L0.out N0.out (by unfold maxLen; omega) (by omega) W1.out.size ?_; intro va wa owna ga; have OA : Hid (wa.ownsRow w.heap.size 5 1 va l0 (A.map (Value.int .u8))) := Lib.hid (by simpa using owna); have WA : Hid (Below w.heap.size w wa) := Lib.hid (W1.out.grown ga W1.out.size (fun k ek => by cases ek)); clear owna ga)
    | (at_builtin; refine wpList_append_row _ rfl _ _ 22 rfl w.heap.size 5 i0 (.int .u8 0) 1 Try.underlying22 hi hz0 hz1 hz2 rfl _ l0 (A.map (Value.int .u8)) rfl OA.out .u8 a1 l1 c1 B rfl (R1.out.below WA.out) L1.out N1.out (by unfold maxLen; omega) (by omega) WA.out.size ?_; intro vb wb ownb gb; obtain ⟨a2, c2, rfl, r2⟩ := own_row (L := A ++ B) (by simpa using ownb) WAB.out; have R2 := Lib.hid r2; have W2 : Hid (Below w.heap.size w wb) := Lib.hid (below_appended0 OA.out WA.out.size WA.out gb); clear ownb gb r2))
  have B2 : Hid (Below wb.heap.size wb wb) := Lib.hid (Below.refl _ _)
  go_wp2_with fail
  refine (sum_v _ (l0 + l1) _ (A ++ B) t KT.out _ LAB.out (R2.out.below B2.out)).mono ?_
  rintro e w3 ⟨rfl, hb3⟩
  have B3 := Lib.hid (B2.out.trans (hb3.mono B2.out.size))
  have W3 := Lib.hid (W2.out.trans (hb3.mono W2.out.size))
  clear hb3
  go_wp2_with fail
  refine (sum_v _ l0 _ A u KU.out _ L0.out (R0.out.below W3.out)).mono ?_
  rintro e w4 ⟨rfl, hb4⟩
  have B4 := Lib.hid (B3.out.trans (hb4.mono B3.out.size))
  have W4 := Lib.hid (W3.out.trans (hb4.mono W3.out.size))
  clear hb4
  go_wp2_with fail
  refine (more_v _ l1 _ B (C.sum A) u t KU.out KT2.out _ L1.out (R1.out.below W4.out)).mono ?_
  rintro e w5 ⟨rfl, hb5⟩
  have B5 := Lib.hid (B4.out.trans (hb5.mono B4.out.size))
  have W5 := Lib.hid (W4.out.trans (hb5.mono W4.out.size))
  clear hb5
  go_wp2_with fail
  refine (more_v none 0 0 [] s x x KX.out KN.out _ rfl (row_nil _ _)).mono ?_
  rintro e w6 ⟨rfl, hb6⟩
  have B6 := Lib.hid (B5.out.trans (hb6.mono B5.out.size))
  have W6 := Lib.hid (W5.out.trans (hb6.mono W5.out.size))
  clear hb6
  go_wp2_with fail
  refine (more_v _ l0 _ A s x y KX.out KY.out _ L0.out (R0.out.below W6.out)).mono ?_
  rintro e w7 ⟨rfl, hb7⟩
  have B7 := Lib.hid (B6.out.trans (hb7.mono B6.out.size))
  have W7 := Lib.hid (W6.out.trans (hb7.mono W6.out.size))
  clear hb7
  go_wp2_with fail
  refine (more_v _ l1 _ B (C.more s A) y z KY.out KZ2.out _ L1.out (R1.out.below W7.out)).mono ?_
  rintro e w8 ⟨rfl, hb8⟩
  have B8 := Lib.hid (B7.out.trans (hb8.mono B7.out.size))
  have W8 := Lib.hid (W7.out.trans (hb8.mono W7.out.size))
  clear hb8
  go_wp2_with fail
  refine (more_v _ (l0 + l1) _ (A ++ B) s x z KX.out KZ.out _ LAB.out (R2.out.below B8.out)).mono ?_
  rintro e w9 ⟨rfl, hb9⟩
  have B9 := Lib.hid (B8.out.trans (hb9.mono B8.out.size))
  have W9 := Lib.hid (W8.out.trans (hb9.mono W8.out.size))
  clear hb9
  go_wp2_with fail
  refine (sum_v _ l0 _ A u KU.out _ L0.out (R0.out.below W9.out)).mono ?_
  rintro e w10 ⟨rfl, hb10⟩
  have B10 := Lib.hid (B9.out.trans (hb10.mono B9.out.size))
  have W10 := Lib.hid (W9.out.trans (hb10.mono W9.out.size))
  clear hb10
  go_wp2_with fail
  refine (more_v _ l0 _ A 0 0 u rfl KU2.out _ L0.out (R0.out.below W10.out)).mono ?_
  rintro e w11 ⟨rfl, hb11⟩
  have B11 := Lib.hid (B10.out.trans (hb11.mono B10.out.size))
  have W11 := Lib.hid (W10.out.trans (hb11.mono W10.out.size))
  clear hb11
  go_wp2
  go_ret
  exact ⟨rfl, W11.out⟩

theorem crcmore_law (a0 a1 : Option Addr) (l0 l1 c0 c1 : Nat) (z0 z1 : List Int) (x : Int) (w : World) (hx : (Lit.int .u32 x).wf = true) (w0 : IsRow .u8 w a0 l0 c0 z0) (w1 : IsRow .u8 w a1 l1 c1 z1) :
    Calls Try.prog 4 #[.slice a0 l0 c0, .slice a1 l1 c1, .int .u32 x] w fun e w' => e = .returned (.bool true) ∧ Below w.heap.size w w' := by
  by_cases h0 : 300 < l0
  · exact crcmore_short a0 a1 l0 l1 c0 c1 x w (.inl h0)
  · by_cases h1 : 300 < l1
    · exact crcmore_short a0 a1 l0 l1 c0 c1 x w (.inr ⟨by omega, h1⟩)
    · obtain ⟨s, hs⟩ := C.of_u32 hx
      exact crcmore_in a0 a1 l0 l1 c0 c1 _ _ s x w hs w0.rowIn.2 w1.rowIn.2 w0.rowIn.1 w1.rowIn.1 w0.nil w1.nil (by omega) (by omega)
end Go.Proofs.Ytgholfobmclabaa
