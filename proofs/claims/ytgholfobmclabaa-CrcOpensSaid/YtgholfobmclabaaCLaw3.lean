/-
  Walks of moorings/mooringslaw04.CrcNoughts and CrcOpens: for every input they return true.
-/
import Derived.Test.YtgholfobmclabaaCLaw2
import Derived.Test.YtgholfobmclabaaReg
namespace Go.Proofs.Ytgholfobmclabaa
open Go.RowKit

theorem noughts_long (a0 : Option Addr) (l0 c0 : Nat) (w : World) (h : 300 < l0) :
    Calls Try.prog 7 #[.slice a0 l0 c0] w fun e w' => e = .returned (.bool true) ∧ Below w.heap.size w w' := by
  have d1 : decide (300 < (l0 : Int)) = true := by simp; omega
  go_enter Try.func7, Try.ntmps7
  go_wp2_with fail
  refine (awake_any _).mono ?_
  rintro e w1 ⟨rfl, hb1⟩
  have W1 := Lib.hid hb1
  clear hb1
  go_wp2
  go_ret
  exact ⟨rfl, W1.out⟩

theorem zero_row (w : World) : RowIn .u8 (w.alloc (.cells #[.int .u8 0] 5)) (some ⟨w.heap.size, 0, none⟩) 1 [0] := (Blok.new w 5 #[.int .u8 0]).row (L := [0]) (by decide) (by decide) (by decide)
theorem sumZero_any (s : Int) (h : C.n (C.sum [0]) = s) (w : World) : Calls Try.prog 12 #[.slice (some ⟨w.heap.size, 0, none⟩) 1 1] (w.alloc (.cells #[.int .u8 0] 5)) fun e w' => e = .returned (.int .u32 s) ∧ Below w.heap.size w w' :=
  (sum_v _ 1 1 [0] s h _ rfl (zero_row w)).mono fun e w' ⟨h1, h2⟩ => ⟨h1, ((Below.refl _ w).alloc (Nat.le_refl _) _).trans (h2.mono (by simp))⟩
theorem moreZero_any (s : BitVec 32) (v t : Int) (hs : C.n s = v) (h : C.n (C.more s [0]) = t) (w : World) : Calls Try.prog 14 #[.int .u32 v, .slice (some ⟨w.heap.size, 0, none⟩) 1 1] (w.alloc (.cells #[.int .u8 0] 5)) fun e w' => e = .returned (.int .u32 t) ∧ Below w.heap.size w w' :=
  (more_v _ 1 1 [0] s v t hs h _ rfl (zero_row w)).mono fun e w' ⟨h1, h2⟩ => ⟨h1, ((Below.refl _ w).alloc (Nat.le_refl _) _).trans (h2.mono (by simp))⟩

set_option maxRecDepth 100000 in
set_option maxHeartbeats 4000000 in
theorem noughts_in (a0 : Option Addr) (l0 c0 : Nat) (A : List Int) (w : World) (h0 : A.length = l0) (r0 : RowIn .u8 w a0 c0 A) (n0 : a0 = none → l0 = 0 ∧ c0 = 0) (hl0 : l0 ≤ 300) :
    Calls Try.prog 7 #[.slice a0 l0 c0] w fun e w' => e = .returned (.bool true) ∧ Below w.heap.size w w' := by
  obtain ⟨i0, hi, hz0, hz1, hz2⟩ := info_parts info5
  have d1 : decide (300 < (l0 : Int)) = false := by simp; omega
  obtain ⟨u, hu⟩ : ∃ t, C.n (C.sum A) = t := ⟨_, rfl⟩
  obtain ⟨t, ht⟩ : ∃ t, C.n (C.sum (A ++ [0])) = t := ⟨_, rfl⟩
  obtain ⟨y, hy⟩ : ∃ t, C.n (C.sum (0 :: A)) = t := ⟨_, rfl⟩
  obtain ⟨z, hz⟩ : ∃ t, C.n (C.sum [0]) = t := ⟨_, rfl⟩
  have hz9 : z ≠ 0 := by rw [← hz]; unfold C.n; have := C.sum_zero; omega
  have e1 : (z == 0) = false := by simpa using hz9
  have e2 : (z != 0) = true := by simpa using hz9
  have KU := Lib.hid hu
  have KT := Lib.hid ht
  have KT2 : Hid (C.n (C.more (C.sum A) [0]) = t) := Lib.hid (by rw [← ht, C.sum_append])
  have KY := Lib.hid hy
  have KZ := Lib.hid hz
  have KY2 : Hid (C.n (C.more (C.sum [0]) A) = y) := Lib.hid (by rw [← hy, ← C.sum_append]; rfl)
  have LT : Hid ((A ++ [0]).length = l0 + 1) := Lib.hid (by simp; omega)
  have LY : Hid ((0 :: A).length = 1 + l0) := Lib.hid (by simp; omega)
  have WT : Hid (∀ n ∈ A ++ [0], (Lit.int .u8 n).wf = true) := Lib.hid (fun n hn => (List.mem_append.1 hn).elim (r0.2.1 n) (fun h => by simp only [List.mem_singleton] at h; rw [h]; decide))
  have WY : Hid (∀ n ∈ 0 :: A, (Lit.int .u8 n).wf = true) := Lib.hid (fun n hn => (List.mem_cons.1 hn).elim (fun h => by rw [h]; decide) (r0.2.1 n))
  have L0 := Lib.hid h0
  have R0 := Lib.hid r0
  have N0 := Lib.hid n0
  clear hu ht hy hz h0 r0 n0 hz9
  go_enter Try.func7, Try.ntmps7
  go_wp2_with fail
  refine (awake_any _).mono ?_
  rintro e w1 ⟨rfl, hb1⟩
  have W1 := Lib.hid hb1
  clear hb1
  have OZ : Hid ((w1.alloc (.cells #[.int .u8 0] 5)).ownsRow w.heap.size 5 1 (.slice (some ⟨w1.heap.size, 0, none⟩) 1 1) 1 [.int .u8 0]) := Lib.hid ((Blok.new w1 5 #[.int .u8 0]).own (xs := [.int .u8 0]) W1.out.size rfl (by decide) (by decide) rfl)
  have WZ : Hid (Below w.heap.size w (w1.alloc (.cells #[.int .u8 0] 5))) := Lib.hid (W1.out.alloc W1.out.size _)
  go_wp2_with (first
    | (at_builtin; refine wpList_append_row _ rfl _ _ 22 rfl w.heap.size 5 i0 (.int .u8 0) 1 Try.underlying22 hi hz0 hz1 hz2 rfl _ 1 [.int .u8 0] rfl OZ.out .u8 a0 l0 c0 A rfl (R0.out.below WZ.out) L0.out N0.out (by unfold maxLen; omega) (by omega) WZ.out.size ?_; intro va wa owna ga; obtain ⟨a2, c2, rfl, r2⟩ := own_row (L := 0 :: A) (by simpa using owna) WY.out; have R2 := Lib.hid r2; have WA : Hid (Below w.heap.size w wa) := Lib.hid (below_appended0 OZ.out WZ.out.size WZ.out ga); clear owna ga r2)
    | (at_builtin; refine wpList_append_row _ rfl _ _ 22 rfl wa.heap.size 5 i0 (.int .u8 0) 1 Try.underlying22 hi hz0 hz1 hz2 rfl _ 0 [] rfl (World.ownsRow_nil _ _ _ _) .u8 a0 l0 c0 A rfl (R0.out.below WA.out) L0.out N0.out (by unfold maxLen; omega) (by omega) (Nat.le_refl _) ?_; intro vb wb ownb gb; have OB : Hid (wb.ownsRow wa.heap.size 5 1 vb l0 (A.map (Value.int .u8))) := Lib.hid (by simpa using ownb); have WB : Hid (Below wa.heap.size wa wb) := Lib.hid ((Below.refl _ wa).grown gb (Nat.le_refl _) (fun k ek => by cases ek)); clear ownb gb)
    | (at_builtin; refine wpList_append_row _ rfl _ _ 22 rfl wa.heap.size 5 i0 (.int .u8 0) 1 Try.underlying22 hi hz0 hz1 hz2 rfl _ l0 (A.map (Value.int .u8)) rfl (OB.out.alloc _) .u8 _ 1 1 [0] rfl (zero_row wb) rfl (fun h => by cases h) (by unfold maxLen; omega) (by omega) (by have := WB.out.size; simp; omega) ?_; intro vc wc ownc gc; obtain ⟨a3, c3, rfl, r3⟩ := own_row (L := A ++ [0]) (by simpa using ownc) WT.out; have R3 := Lib.hid r3; have WC : Hid (Below wa.heap.size wa wc) := Lib.hid (below_appended OB.out WB.out.size WB.out gc); have RY3 := Lib.hid (R2.out.below WC.out); have W2 : Hid (Below w.heap.size w wc) := Lib.hid (WA.out.trans (WC.out.mono WA.out.size)); clear ownc gc r3))
  have B2 : Hid (Below wc.heap.size wc wc) := Lib.hid (Below.refl _ _)
  go_wp2_with fail
  refine (sum_v _ l0 _ A u KU.out _ L0.out (R0.out.below W2.out)).mono ?_
  rintro e w3 ⟨rfl, hb3⟩
  have B3 := Lib.hid (B2.out.trans (hb3.mono B2.out.size))
  have W3 := Lib.hid (W2.out.trans (hb3.mono W2.out.size))
  clear hb3
  go_wp2_with fail
  refine (moreZero_any (C.sum A) u t KU.out KT2.out _).mono ?_
  rintro e w4 ⟨rfl, hb4⟩
  have B4 := Lib.hid (B3.out.trans (hb4.mono B3.out.size))
  have W4 := Lib.hid (W3.out.trans (hb4.mono W3.out.size))
  clear hb4
  go_wp2_with fail
  refine (sum_v _ (l0 + 1) _ (A ++ [0]) t KT.out _ LT.out (R3.out.below B4.out)).mono ?_
  rintro e w5 ⟨rfl, hb5⟩
  have B5 := Lib.hid (B4.out.trans (hb5.mono B4.out.size))
  have W5 := Lib.hid (W4.out.trans (hb5.mono W4.out.size))
  clear hb5
  go_wp2_with fail
  refine (sum_v _ (1 + l0) _ (0 :: A) y KY.out _ LY.out (RY3.out.below B5.out)).mono ?_
  rintro e w6 ⟨rfl, hb6⟩
  have B6 := Lib.hid (B5.out.trans (hb6.mono B5.out.size))
  have W6 := Lib.hid (W5.out.trans (hb6.mono W5.out.size))
  clear hb6
  go_wp2_with fail
  refine (sumZero_any z KZ.out _).mono ?_
  rintro e w7 ⟨rfl, hb7⟩
  have B7 := Lib.hid (B6.out.trans (hb7.mono B6.out.size))
  have W7 := Lib.hid (W6.out.trans (hb7.mono W6.out.size))
  clear hb7
  go_wp2_with fail
  refine (more_v _ l0 _ A (C.sum [0]) z y KZ.out KY2.out _ L0.out (R0.out.below W7.out)).mono ?_
  rintro e w8 ⟨rfl, hb8⟩
  have B8 := Lib.hid (B7.out.trans (hb8.mono B7.out.size))
  have W8 := Lib.hid (W7.out.trans (hb8.mono W7.out.size))
  clear hb8
  go_wp2_with fail
  refine (sumZero_any z KZ.out _).mono ?_
  rintro e w9 ⟨rfl, hb9⟩
  have B9 := Lib.hid (B8.out.trans (hb9.mono B8.out.size))
  have W9 := Lib.hid (W8.out.trans (hb9.mono W8.out.size))
  clear hb9
  go_wp2_with fail
  refine (sumNil_any _).mono ?_
  rintro e w10 ⟨rfl, hb10⟩
  have B10 := Lib.hid (B9.out.trans (hb10.mono B9.out.size))
  have W10 := Lib.hid (W9.out.trans (hb10.mono W9.out.size))
  clear hb10
  go_wp2
  go_ret
  exact ⟨rfl, W10.out⟩

theorem noughts_law (a0 : Option Addr) (l0 c0 : Nat) (z0 : List Int) (w : World) (w0 : IsRow .u8 w a0 l0 c0 z0) :
    Calls Try.prog 7 #[.slice a0 l0 c0] w fun e w' => e = .returned (.bool true) ∧ Below w.heap.size w w' := by
  by_cases h0 : 300 < l0
  · exact noughts_long a0 l0 c0 w h0
  · exact noughts_in a0 l0 c0 _ w w0.rowIn.2 w0.rowIn.1 w0.nil (by omega)

theorem openSeal_any (a : Option Addr) (m l cap : Nat) (L : List Int) (w : World) (h9 : m ≤ 90000) (hm : l + 4 = m) (hl : L.length = l) (h : RowIn .u8 w a cap (C.seal L)) :
    Calls Try.prog 10 #[.slice a m cap] w fun e w' => ∃ a' cap', e = .returned (.tuple #[.slice a' l cap', .bool true]) ∧ Hid (RowIn .u8 w' a' cap' L) ∧ Below w.heap.size w w' :=
  (open_any a m cap (C.seal L) w h9 (by rw [C.seal_len]; omega) h).mono fun e w' ⟨a', cap', n', h1, h2, h3, h4⟩ => by
    rw [C.open_seal] at h1 h2 h3
    have h2 := h2.out
    rw [Option.getD_some, hl] at h2
    subst h2
    exact ⟨a', cap', h1, h3, h4⟩
theorem openNone_any (a : Option Addr) (m cap : Nat) (L : List Int) (w : World) (h9 : m ≤ 90000) (hl : L.length = m) (hn : C.open L = none) (h : RowIn .u8 w a cap L) :
    Calls Try.prog 10 #[.slice a m cap] w fun e w' => ∃ a' cap', e = .returned (.tuple #[.slice a' 0 cap', .bool false]) ∧ Hid (RowIn .u8 w' a' cap' []) ∧ Below w.heap.size w w' :=
  (open_any a m cap L w h9 hl h).mono fun e w' ⟨a', cap', n', h1, h2, h3, h4⟩ => by
    rw [hn] at h1 h2 h3
    have h2 := h2.out
    rw [Option.getD_none, List.length_nil] at h2
    subst h2
    exact ⟨a', cap', h1, h3, h4⟩

theorem opens_long (a0 : Option Addr) (l0 c0 : Nat) (w : World) (h : 400 < l0) :
    Calls Try.prog 6 #[.slice a0 l0 c0] w fun e w' => e = .returned (.bool true) ∧ Below w.heap.size w w' := by
  have d1 : decide (400 < (l0 : Int)) = true := by simp; omega
  go_enter Try.func6, Try.ntmps6
  go_wp2_with fail
  refine (awake_any _).mono ?_
  rintro e w1 ⟨rfl, hb1⟩
  have W1 := Lib.hid hb1
  clear hb1
  go_wp2
  go_ret
  exact ⟨rfl, W1.out⟩

set_option maxRecDepth 100000 in
set_option maxHeartbeats 4000000 in
theorem opens_none (a0 : Option Addr) (l0 c0 : Nat) (L : List Int) (w : World) (h0 : L.length = l0) (r0 : RowIn .u8 w a0 c0 L) (hl0 : l0 ≤ 400) (hs : C.open L = none) :
    Calls Try.prog 6 #[.slice a0 l0 c0] w fun e w' => e = .returned (.bool true) ∧ Below w.heap.size w w' := by
  have d1 : decide (400 < (l0 : Int)) = false := by simp; omega
  obtain ⟨sb, hsb⟩ : ∃ s, strOf L = s := ⟨_, rfl⟩
  have L0 := Lib.hid h0
  have R0 := Lib.hid r0
  have HS := Lib.hid hs
  have HSB := Lib.hid hsb
  clear h0 r0 hs hsb
  go_enter Try.func6, Try.ntmps6
  go_wp2_with fail
  refine (awake_any _).mono ?_
  rintro e w1 ⟨rfl, hb1⟩
  have W1 := Lib.hid hb1
  clear hb1
  go_wp2_with fail
  refine (sealRow_any _ l0 _ L _ (by omega) L0.out (R0.out.below W1.out)).mono ?_
  rintro e w2 ⟨a2, c2, rfl, r2, hb2⟩
  have B2 := Lib.hid hb2
  have W2 := Lib.hid (W1.out.trans (hb2.mono W1.out.size))
  clear hb2
  go_wp2_with fail
  refine (openSeal_any _ (l0 + 4) l0 _ L _ (by omega) rfl L0.out r2.out).mono ?_
  rintro e w3 ⟨a3, c3, rfl, r3, hb3⟩
  have B3 := Lib.hid hb3
  have W3 := Lib.hid (W2.out.trans (hb3.mono W2.out.size))
  clear hb3
  go_wp2_with fail
  refine (openNone_any _ l0 _ L _ (by omega) L0.out HS.out (R0.out.below W3.out)).mono ?_
  rintro e w4 ⟨a4, c4, rfl, r4, hb4⟩
  have B4 := Lib.hid hb4
  have W4 := Lib.hid (W3.out.trans (hb4.mono W3.out.size))
  clear hb4
  have cx := conv_row (r3.out.below B4.out) L0.out
  have cb := conv_row (R0.out.below W4.out) L0.out
  rw [HSB.out] at cx cb
  go_wp2
  all_goals
    go_quiet (fail)
    go_wp2
    go_ret
    exact ⟨rfl, W4.out.trans (below_drewN _ _ _)⟩

set_option maxRecDepth 100000 in
set_option maxHeartbeats 4000000 in
theorem opens_some (a0 : Option Addr) (l0 c0 : Nat) (L M : List Int) (w : World) (h0 : L.length = l0) (r0 : RowIn .u8 w a0 c0 L) (hl0 : l0 ≤ 400) (hs : C.seal M = L) :
    Calls Try.prog 6 #[.slice a0 l0 c0] w fun e w' => e = .returned (.bool true) ∧ Below w.heap.size w w' := by
  have d1 : decide (400 < (l0 : Int)) = false := by simp; omega
  obtain ⟨sb, hsb⟩ : ∃ s, strOf L = s := ⟨_, rfl⟩
  have L0 := Lib.hid h0
  have R0 := Lib.hid r0
  have HS := Lib.hid hs
  have HSB := Lib.hid hsb
  obtain ⟨m, hm⟩ : ∃ m, M.length = m := ⟨_, rfl⟩
  have hml : m + 4 = l0 := by rw [← hm, ← C.seal_len, hs, h0]
  have HM := Lib.hid hm
  have HL := Lib.hid hml
  have d2 : decide ((l0 : Int) < 4) = false := by simp; omega
  have HSS : Hid (strOf (C.seal M) = sb) := Lib.hid (by rw [hs, hsb])
  clear h0 r0 hs hsb hm hml
  go_enter Try.func6, Try.ntmps6
  go_wp2_with fail
  refine (awake_any _).mono ?_
  rintro e w1 ⟨rfl, hb1⟩
  have W1 := Lib.hid hb1
  clear hb1
  go_wp2_with fail
  refine (sealRow_any _ l0 _ L _ (by omega) L0.out (R0.out.below W1.out)).mono ?_
  rintro e w2 ⟨a2, c2, rfl, r2, hb2⟩
  have B2 := Lib.hid hb2
  have W2 := Lib.hid (W1.out.trans (hb2.mono W1.out.size))
  clear hb2
  go_wp2_with fail
  refine (openSeal_any _ (l0 + 4) l0 _ L _ (by omega) rfl L0.out r2.out).mono ?_
  rintro e w3 ⟨a3, c3, rfl, r3, hb3⟩
  have B3 := Lib.hid hb3
  have W3 := Lib.hid (W2.out.trans (hb3.mono W2.out.size))
  clear hb3
  go_wp2_with fail
  refine (openSeal_any _ l0 m _ M _ (by omega) HL.out HM.out (by rw [HS.out]; exact R0.out.below W3.out)).mono ?_
  rintro e w4 ⟨a4, c4, rfl, r4, hb4⟩
  have B4 := Lib.hid hb4
  have W4 := Lib.hid (W3.out.trans (hb4.mono W3.out.size))
  clear hb4
  have cx := conv_row (r3.out.below B4.out) L0.out
  have cb := conv_row (R0.out.below W4.out) L0.out
  rw [HSB.out] at cx cb
  have hm5 : m ≤ 90000 := by have := HL.out; omega
  go_wp2_with fail
  refine wp_region_held (S := fun w' => Below w4.heap.size w4 w') (by kernel_rfl) ?_
  change wpAnyH _ _ _ _ _ _ _ _ (World.drew _)
  have HS0 : (fun w' => Below w4.heap.size w4 w') (World.drew w4) := below_drew w4
  clear cx cb
  refine wpAnyH_take (i := 0) (v := (.bool true)) rfl (by kernel_rfl) (by kernel_rfl) (by kernel_rfl) (fun _ _ _ h => h) (.inl ⟨by kernel_rfl, fun w9 hS => by kernel_rfl⟩) HS0 ?_
  refine wpAnyH_take (i := 1) (v := (.bool false)) rfl (by kernel_rfl) (by kernel_rfl) (by kernel_rfl) (fun _ _ _ h => h) (.inl ⟨by kernel_rfl, fun w9 hS => by kernel_rfl⟩) HS0 ?_
  refine wpAnyH_take (i := 2) (v := (.bool false)) rfl (by kernel_rfl) (by kernel_rfl) (by kernel_rfl) (fun _ _ _ h => h) (.inl ⟨by kernel_rfl, fun w9 hS => by kernel_rfl⟩) HS0 ?_
  refine wpAnyH_take (i := 3) (v := undef) rfl (by kernel_rfl) (by kernel_rfl) (by kernel_rfl) (fun _ _ _ h => h) (.inr ⟨by kernel_rfl, rfl⟩) HS0 ?_
  refine wpAnyH_take (i := 4) (v := undef) rfl (by kernel_rfl) (by kernel_rfl) (by kernel_rfl) (fun _ _ _ h => h) (.inr ⟨by kernel_rfl, rfl⟩) HS0 ?_
  refine wpAnyH_take (i := 5) (v := undef) rfl (by kernel_rfl) (by kernel_rfl) (by kernel_rfl) (fun _ _ _ h => h) (.inr ⟨by kernel_rfl, rfl⟩) HS0 ?_
  refine wpAnyH_take (i := 6) (v := (.bool false)) rfl (by kernel_rfl) (by kernel_rfl) (by kernel_rfl) (fun _ _ _ h => h) (.inl ⟨by kernel_rfl, fun w9 hS => by kernel_rfl⟩) HS0 ?_
  refine wpAnyH_take (i := 7) (v := (.bool false)) rfl (by kernel_rfl) (by kernel_rfl) (by kernel_rfl) (fun _ _ _ h => h) (.inl ⟨by kernel_rfl, fun w9 hS => by kernel_rfl⟩) HS0 ?_
  refine wpAnyH_take (i := 8) (v := (.bool true)) rfl (by kernel_rfl) (by kernel_rfl) (by kernel_rfl) (fun _ _ _ h => h) (.inl ⟨by kernel_rfl, fun w9 hS => by kernel_rfl⟩) HS0 ?_
  refine wpAnyH_take (i := 9) (v := (.bool true)) rfl (by kernel_rfl) (by kernel_rfl) (by kernel_rfl) (fun _ _ _ h => h) (.inl ⟨by kernel_rfl, fun w9 hS => by kernel_rfl⟩) HS0 ?_
  refine wpAnyH_take (i := 10) (v := (.slice a4 m c4)) rfl (by kernel_rfl) (by kernel_rfl) (by kernel_rfl) (fun _ _ _ h => h) (.inl ⟨by kernel_rfl, fun w9 hS => by kernel_rfl⟩) HS0 ?_
  refine wpAnyH_take (i := 13) (v := (.slice a0 l0 c0)) rfl (by kernel_rfl) (by kernel_rfl) (by kernel_rfl) (fun _ _ _ h => h) (.inl ⟨by kernel_rfl, fun w9 hS => by kernel_rfl⟩) HS0 ?_
  refine wpAnyH_take (i := 14) (v := (.string sb)) rfl (by kernel_rfl) (by kernel_rfl) (by kernel_rfl) (fun _ _ _ h => h) (.inl ⟨by kernel_rfl, fun w9 hS => by have k := conv_row ((R0.out.below W4.out).below hS) L0.out; rw [HSB.out] at k; go_simp⟩) HS0 ?_
  refine wpAnyH_call (i := 11) (f := 16) (args := #[.slice a4 m c4]) (by kernel_rfl) rfl (by kernel_rfl) (by kernel_rfl) (sealRow_any _ m _ M _ hm5 HM.out (r4.out.below (below_drew w4))) ?_
  rintro e w5 ⟨a5, c5, rfl, r5, hbw5⟩
  have HS1 : (fun w' => Below w4.heap.size w4 w') w5 := Below.trans HS0 (hbw5.mono (Below.size HS0))
  refine ⟨_, rfl, HS1, ?_⟩
  have k5 := conv_row r5.out (show _ = m + 4 by rw [C.seal_len, HM.out])
  rw [HSS.out] at k5
  refine wpAnyH_value (i := 12) (v := .string sb) (by kernel_rfl) rfl (by kernel_rfl) (by go_simp) HS1 ?_
  clear k5
  refine wpAnyH_take (i := 15) (v := (.bool true)) rfl (by kernel_rfl) (by kernel_rfl) (by kernel_rfl) (fun _ _ _ h => h) (.inl ⟨by kernel_rfl, fun w9 hS => (show _ = Result.ok (.value (.bool (sb.toList == sb.toList))) w9 by kernel_rfl).trans (by rw [beq_self_eq_true])⟩) HS1 ?_
  refine wpAnyH_take (i := 16) (v := (.bool true)) rfl (by kernel_rfl) (by kernel_rfl) (by kernel_rfl) (fun _ _ _ h => h) (.inl ⟨by kernel_rfl, fun w9 hS => by kernel_rfl⟩) HS1 ?_
  refine wpAnyH_take (i := 17) (v := (.bool true)) rfl (by kernel_rfl) (by kernel_rfl) (by kernel_rfl) (fun _ _ _ h => h) (.inl ⟨by kernel_rfl, fun w9 hS => by kernel_rfl⟩) HS1 ?_
  refine wpAnyH_take (i := 18) (v := (.bool true)) rfl (by kernel_rfl) (by kernel_rfl) (by kernel_rfl) (fun _ _ _ h => h) (.inl ⟨by kernel_rfl, fun w9 hS => by kernel_rfl⟩) HS1 ?_
  refine wpAnyH_done (by kernel_rfl) ?_ _
  go_wp2
  go_ret
  exact ⟨rfl, W4.out.trans (Below.mono HS1 W4.out.size)⟩

theorem opens_law (a0 : Option Addr) (l0 c0 : Nat) (z0 : List Int) (w : World) (w0 : IsRow .u8 w a0 l0 c0 z0) :
    Calls Try.prog 6 #[.slice a0 l0 c0] w fun e w' => e = .returned (.bool true) ∧ Below w.heap.size w w' := by
  by_cases h0 : 400 < l0
  · exact opens_long a0 l0 c0 w h0
  · cases ho : C.open (z0.take l0) with
    | none => exact opens_none a0 l0 c0 _ w w0.rowIn.2 w0.rowIn.1 (by omega) ho
    | some M => exact opens_some a0 l0 c0 _ M w w0.rowIn.2 w0.rowIn.1 (by omega) (C.open_some.1 ho)
end Go.Proofs.Ytgholfobmclabaa
