/-
  Walk of moorings/mooringslaw04.CrcTells: for every input it returns true.
-/
import Derived.Test.YtgholfobmclabaaCRef2
import Derived.Test.YtgholfobmclabaaCLaw2
import Derived.Test.YtgholfobmclabaaReg
namespace Go.Proofs.Ytgholfobmclabaa
open Go.RowKit

theorem refSum_v (a : Option Addr) (len cap : Nat) (L : List Int) (t : Int) (h : C.n (C.sum L) = t) (w : World) (hl : L.length = len) (hr : RowIn .u8 w a cap L) : Calls Try.prog 13 #[.slice a len cap] w fun e w' => e = .returned (.int .u32 t) ∧ Below w.heap.size w w' :=
  (refSum_any a len cap L w hl hr).mono fun e w' ⟨h1, h2⟩ => ⟨by rw [h1, h], by rw [← h2]; exact Below.refl _ _⟩
theorem refMore_v (a : Option Addr) (len cap : Nat) (L : List Int) (s : BitVec 32) (v t : Int) (hs : C.n s = v) (h : C.n (C.more s L) = t) (w : World) (hl : L.length = len) (hr : RowIn .u8 w a cap L) : Calls Try.prog 15 #[.int .u32 v, .slice a len cap] w fun e w' => e = .returned (.int .u32 t) ∧ Below w.heap.size w w' := by
  rw [← hs]
  exact (refMore_any a len cap L s w hl hr).mono fun e w' ⟨h1, h2⟩ => ⟨by rw [h1, h], by rw [← h2]; exact Below.refl _ _⟩

theorem tells_long (a0 : Option Addr) (l0 c0 : Nat) (x : Int) (w : World) (h : 600 < l0) :
    Calls Try.prog 3 #[.slice a0 l0 c0, .int .u32 x] w fun e w' => e = .returned (.bool true) ∧ Below w.heap.size w w' := by
  have d1 : decide (600 < (l0 : Int)) = true := by simp; omega
  go_enter Try.func3, Try.ntmps3
  go_wp2_with fail
  refine (awake_any _).mono ?_
  rintro e w1 ⟨rfl, hb1⟩
  have W1 := Lib.hid hb1
  clear hb1
  go_wp2
  go_ret
  exact ⟨rfl, W1.out⟩

set_option maxRecDepth 100000 in
set_option maxHeartbeats 4000000 in
theorem tells_in (a0 : Option Addr) (l0 c0 : Nat) (L : List Int) (s : BitVec 32) (x : Int) (w : World) (hx : C.n s = x) (h0 : L.length = l0) (r0 : RowIn .u8 w a0 c0 L) (n0 : a0 = none → l0 = 0 ∧ c0 = 0) (hl0 : l0 ≤ 600) :
    Calls Try.prog 3 #[.slice a0 l0 c0, .int .u32 x] w fun e w' => e = .returned (.bool true) ∧ Below w.heap.size w w' := by
  have d1 : decide (600 < (l0 : Int)) = false := by simp; omega
  have hl9 : l0 ≤ 90000 := by omega
  obtain ⟨is, his⟩ : ∃ b, (C.open L).isSome = b := ⟨_, rfl⟩
  obtain ⟨sx, hsx⟩ : ∃ s, strOf ((C.open L).getD []) = s := ⟨_, rfl⟩
  obtain ⟨ss, hss⟩ : ∃ s, strOf (C.seal L) = s := ⟨_, rfl⟩
  obtain ⟨u, hu⟩ : ∃ t, C.n (C.sum L) = t := ⟨_, rfl⟩
  obtain ⟨v, hv⟩ : ∃ t, C.n (C.more s L) = t := ⟨_, rfl⟩
  have KI := Lib.hid his
  have KSX := Lib.hid hsx
  have KSS := Lib.hid hss
  have KU := Lib.hid hu
  have KV := Lib.hid hv
  have KX := Lib.hid hx
  have L0 := Lib.hid h0
  have R0 := Lib.hid r0
  have N0 := Lib.hid n0
  clear his hsx hss hu hv hx h0 r0 n0
  go_enter Try.func3, Try.ntmps3
  go_wp2_with fail
  refine (awake_any _).mono ?_
  rintro e w1 ⟨rfl, hb1⟩
  have W1 := Lib.hid hb1
  clear hb1
  go_wp2_with fail
  refine (open_any _ l0 _ L _ hl9 L0.out (R0.out.below W1.out)).mono ?_
  rintro e w2 ⟨a2, c2, n2, rfl, l2, r2, hb2⟩
  rw [KI.out]
  have B2 := Lib.hid hb2
  have W2 := Lib.hid (W1.out.trans (hb2.mono W1.out.size))
  clear hb2
  go_wp2_with fail
  refine (refOpen_any _ l0 _ L _ hl9 L0.out (R0.out.below W2.out)).mono ?_
  rintro e w3 ⟨a3, c3, n3, rfl, l3, r3, hb3⟩
  rw [KI.out]
  have B3 := Lib.hid hb3
  have W3 := Lib.hid (W2.out.trans (hb3.mono W2.out.size))
  clear hb3
  have RX := Lib.hid (r2.out.below B3.out)
  have RB := Lib.hid (R0.out.below W3.out)
  clear hl0 d1
  go_wp2_with fail
  refine wp_region_held (S := fun w' => Below w3.heap.size w3 w') (by kernel_rfl) ?_
  change wpAnyH _ _ _ _ _ _ _ _ (World.drew _)
  have HS0 : (fun w' => Below w3.heap.size w3 w') (World.drew w3) := below_drew w3
  refine wpAnyH_take (i := 0) (v := (.slice a0 l0 c0)) rfl (by kernel_rfl) (by kernel_rfl) (by kernel_rfl) (fun _ _ _ h => h) (.inl ⟨by kernel_rfl, fun w9 hS => by kernel_rfl⟩) HS0 ?_
  refine wpAnyH_take (i := 2) (v := (.slice a0 l0 c0)) rfl (by kernel_rfl) (by kernel_rfl) (by kernel_rfl) (fun _ _ _ h => h) (.inl ⟨by kernel_rfl, fun w9 hS => by kernel_rfl⟩) HS0 ?_
  refine wpAnyH_call (i := 1) (f := 12) (args := #[.slice a0 l0 c0]) (by kernel_rfl) rfl (by kernel_rfl) (by kernel_rfl) (sum_v _ l0 _ L u KU.out _ L0.out (RB.out.below HS0)) ?_
  rintro e w4 ⟨rfl, hbw4⟩
  have HS1 : (fun w' => Below w3.heap.size w3 w') w4 := Below.trans HS0 (hbw4.mono (Below.size HS0))
  refine ⟨_, rfl, HS1, ?_⟩
  refine wpAnyH_call (i := 3) (f := 13) (args := #[.slice a0 l0 c0]) (by kernel_rfl) rfl (by kernel_rfl) (by kernel_rfl) (refSum_v _ l0 _ L u KU.out _ L0.out (RB.out.below HS1)) ?_
  rintro e w5 ⟨rfl, hbw5⟩
  have HS2 : (fun w' => Below w3.heap.size w3 w') w5 := Below.trans HS1 (hbw5.mono (Below.size HS1))
  refine ⟨_, rfl, HS2, ?_⟩
  refine wpAnyH_take (i := 4) (v := (.bool true)) rfl (by kernel_rfl) (by kernel_rfl) (by kernel_rfl) (fun _ _ _ h => h) (.inl ⟨by kernel_rfl, fun w9 hS => (show _ = Result.ok (.value (.bool (u == u))) w9 by kernel_rfl).trans (by rw [beq_self_eq_true])⟩) HS2 ?_
  refine wpAnyH_take (i := 5) (v := (.bool true)) rfl (by kernel_rfl) (by kernel_rfl) (by kernel_rfl) (fun _ _ _ h => h) (.inl ⟨by kernel_rfl, fun w9 hS => by kernel_rfl⟩) HS2 ?_
  refine wpAnyH_take (i := 6) (v := (.int .u32 x)) rfl (by kernel_rfl) (by kernel_rfl) (by kernel_rfl) (fun _ _ _ h => h) (.inl ⟨by kernel_rfl, fun w9 hS => by kernel_rfl⟩) HS2 ?_
  refine wpAnyH_take (i := 7) (v := (.slice a0 l0 c0)) rfl (by kernel_rfl) (by kernel_rfl) (by kernel_rfl) (fun _ _ _ h => h) (.inl ⟨by kernel_rfl, fun w9 hS => by kernel_rfl⟩) HS2 ?_
  refine wpAnyH_take (i := 9) (v := (.int .u32 x)) rfl (by kernel_rfl) (by kernel_rfl) (by kernel_rfl) (fun _ _ _ h => h) (.inl ⟨by kernel_rfl, fun w9 hS => by kernel_rfl⟩) HS2 ?_
  refine wpAnyH_take (i := 10) (v := (.slice a0 l0 c0)) rfl (by kernel_rfl) (by kernel_rfl) (by kernel_rfl) (fun _ _ _ h => h) (.inl ⟨by kernel_rfl, fun w9 hS => by kernel_rfl⟩) HS2 ?_
  refine wpAnyH_call (i := 8) (f := 14) (args := #[.int .u32 x, .slice a0 l0 c0]) (by kernel_rfl) rfl (by kernel_rfl) (by kernel_rfl) (more_v _ l0 _ L s x v KX.out KV.out _ L0.out (RB.out.below HS2)) ?_
  rintro e w6 ⟨rfl, hbw6⟩
  have HS3 : (fun w' => Below w3.heap.size w3 w') w6 := Below.trans HS2 (hbw6.mono (Below.size HS2))
  refine ⟨_, rfl, HS3, ?_⟩
  refine wpAnyH_call (i := 11) (f := 15) (args := #[.int .u32 x, .slice a0 l0 c0]) (by kernel_rfl) rfl (by kernel_rfl) (by kernel_rfl) (refMore_v _ l0 _ L s x v KX.out KV.out _ L0.out (RB.out.below HS3)) ?_
  rintro e w7 ⟨rfl, hbw7⟩
  have HS4 : (fun w' => Below w3.heap.size w3 w') w7 := Below.trans HS3 (hbw7.mono (Below.size HS3))
  refine ⟨_, rfl, HS4, ?_⟩
  refine wpAnyH_take (i := 12) (v := (.bool true)) rfl (by kernel_rfl) (by kernel_rfl) (by kernel_rfl) (fun _ _ _ h => h) (.inl ⟨by kernel_rfl, fun w9 hS => (show _ = Result.ok (.value (.bool (v == v))) w9 by kernel_rfl).trans (by rw [beq_self_eq_true])⟩) HS4 ?_
  refine wpAnyH_take (i := 13) (v := (.bool true)) rfl (by kernel_rfl) (by kernel_rfl) (by kernel_rfl) (fun _ _ _ h => h) (.inl ⟨by kernel_rfl, fun w9 hS => by kernel_rfl⟩) HS4 ?_
  refine wpAnyH_take (i := 14) (v := (.bool true)) rfl (by kernel_rfl) (by kernel_rfl) (by kernel_rfl) (fun _ _ _ h => h) (.inl ⟨by kernel_rfl, fun w9 hS => by kernel_rfl⟩) HS4 ?_
  refine wpAnyH_take (i := 15) (v := (.slice a0 l0 c0)) rfl (by kernel_rfl) (by kernel_rfl) (by kernel_rfl) (fun _ _ _ h => h) (.inl ⟨by kernel_rfl, fun w9 hS => by kernel_rfl⟩) HS4 ?_
  refine wpAnyH_take (i := 18) (v := (.slice a0 l0 c0)) rfl (by kernel_rfl) (by kernel_rfl) (by kernel_rfl) (fun _ _ _ h => h) (.inl ⟨by kernel_rfl, fun w9 hS => by kernel_rfl⟩) HS4 ?_
  refine wpAnyH_call (i := 16) (f := 16) (args := #[.slice a0 l0 c0]) (by kernel_rfl) rfl (by kernel_rfl) (by kernel_rfl) (sealRow_any _ l0 _ L _ hl9 L0.out (RB.out.below HS4)) ?_
  rintro e w8 ⟨a8, c8, rfl, r8, hbw8⟩
  have HS5 : (fun w' => Below w3.heap.size w3 w') w8 := Below.trans HS4 (hbw8.mono (Below.size HS4))
  refine ⟨_, rfl, HS5, ?_⟩
  have RB8 := Lib.hid (RB.out.below HS5)
  have RX8 := Lib.hid (RX.out.below HS5)
  have RY8 := Lib.hid (r3.out.below HS5)
  have W8 := Lib.hid (W3.out.trans (Below.mono HS5 W3.out.size))
  have L8 : Hid ((C.seal L).length = l0 + 4) := Lib.hid (by rw [C.seal_len, L0.out])
  refine wpAnyH_mono (S' := fun w' => Below w8.heap.size w8 w') (fun w' h => Below.trans HS5 (h.mono (Below.size HS5))) _ _ _ _ ?_
  have HS6 : (fun w' => Below w8.heap.size w8 w') w8 := Below.refl _ _
  refine wpAnyH_take (i := 17) (v := (.string ss)) rfl (by kernel_rfl) (by kernel_rfl) (by kernel_rfl) (fun _ _ _ h => h) (.inl ⟨by kernel_rfl, fun w9 hS => by have k := conv_row (r8.out.below hS) L8.out; rw [KSS.out] at k; go_simp⟩) HS6 ?_
  refine wpAnyH_call (i := 19) (f := 17) (args := #[.slice a0 l0 c0]) (by kernel_rfl) rfl (by kernel_rfl) (by kernel_rfl) (refSealRow_any _ l0 _ L _ hl9 L0.out (RB8.out.below HS6) N0.out) ?_
  rintro e w9 ⟨a9, c9, rfl, r9, hbw9⟩
  have HS7 : (fun w' => Below w8.heap.size w8 w') w9 := Below.trans HS6 (hbw9.mono (Below.size HS6))
  refine ⟨_, rfl, HS7, ?_⟩
  have k9 := conv_row r9.out L8.out
  rw [KSS.out] at k9
  refine wpAnyH_value (i := 20) (v := .string ss) (by kernel_rfl) rfl (by kernel_rfl) (by go_simp) HS7 ?_
  clear k9
  refine wpAnyH_take (i := 21) (v := (.bool true)) rfl (by kernel_rfl) (by kernel_rfl) (by kernel_rfl) (fun _ _ _ h => h) (.inl ⟨by kernel_rfl, fun w9 hS => (show _ = Result.ok (.value (.bool (ss.toList == ss.toList))) w9 by kernel_rfl).trans (by rw [beq_self_eq_true])⟩) HS7 ?_
  refine wpAnyH_take (i := 22) (v := (.bool true)) rfl (by kernel_rfl) (by kernel_rfl) (by kernel_rfl) (fun _ _ _ h => h) (.inl ⟨by kernel_rfl, fun w9 hS => by kernel_rfl⟩) HS7 ?_
  refine wpAnyH_take (i := 23) (v := (.bool true)) rfl (by kernel_rfl) (by kernel_rfl) (by kernel_rfl) (fun _ _ _ h => h) (.inl ⟨by kernel_rfl, fun w9 hS => by kernel_rfl⟩) HS7 ?_
  refine wpAnyH_take (i := 24) (v := (.slice a2 n2 c2)) rfl (by kernel_rfl) (by kernel_rfl) (by kernel_rfl) (fun _ _ _ h => h) (.inl ⟨by kernel_rfl, fun w9 hS => by kernel_rfl⟩) HS7 ?_
  refine wpAnyH_take (i := 25) (v := (.string sx)) rfl (by kernel_rfl) (by kernel_rfl) (by kernel_rfl) (fun _ _ _ h => h) (.inl ⟨by kernel_rfl, fun w9 hS => by have k := conv_row (RX8.out.below hS) l2.out; rw [KSX.out] at k; go_simp⟩) HS7 ?_
  refine wpAnyH_take (i := 26) (v := (.slice a3 n3 c3)) rfl (by kernel_rfl) (by kernel_rfl) (by kernel_rfl) (fun _ _ _ h => h) (.inl ⟨by kernel_rfl, fun w9 hS => by kernel_rfl⟩) HS7 ?_
  refine wpAnyH_take (i := 27) (v := (.string sx)) rfl (by kernel_rfl) (by kernel_rfl) (by kernel_rfl) (fun _ _ _ h => h) (.inl ⟨by kernel_rfl, fun w9 hS => by have k := conv_row (RY8.out.below hS) l3.out; rw [KSX.out] at k; go_simp⟩) HS7 ?_
  refine wpAnyH_take (i := 28) (v := (.bool true)) rfl (by kernel_rfl) (by kernel_rfl) (by kernel_rfl) (fun _ _ _ h => h) (.inl ⟨by kernel_rfl, fun w9 hS => (show _ = Result.ok (.value (.bool (sx.toList == sx.toList))) w9 by kernel_rfl).trans (by rw [beq_self_eq_true])⟩) HS7 ?_
  refine wpAnyH_take (i := 29) (v := (.bool true)) rfl (by kernel_rfl) (by kernel_rfl) (by kernel_rfl) (fun _ _ _ h => h) (.inl ⟨by kernel_rfl, fun w9 hS => by kernel_rfl⟩) HS7 ?_
  refine wpAnyH_take (i := 30) (v := (.bool true)) rfl (by kernel_rfl) (by kernel_rfl) (by kernel_rfl) (fun _ _ _ h => h) (.inl ⟨by kernel_rfl, fun w9 hS => by kernel_rfl⟩) HS7 ?_
  refine wpAnyH_take (i := 31) (v := (.bool is)) rfl (by kernel_rfl) (by kernel_rfl) (by kernel_rfl) (fun _ _ _ h => h) (.inl ⟨by kernel_rfl, fun w9 hS => by kernel_rfl⟩) HS7 ?_
  refine wpAnyH_take (i := 32) (v := (.bool is)) rfl (by kernel_rfl) (by kernel_rfl) (by kernel_rfl) (fun _ _ _ h => h) (.inl ⟨by kernel_rfl, fun w9 hS => by kernel_rfl⟩) HS7 ?_
  refine wpAnyH_take (i := 33) (v := (.bool true)) rfl (by kernel_rfl) (by kernel_rfl) (by kernel_rfl) (fun _ _ _ h => h) (.inl ⟨by kernel_rfl, fun w9 hS => (show _ = Result.ok (.value (.bool (is == is))) w9 by kernel_rfl).trans (by rw [beq_self_eq_true])⟩) HS7 ?_
  refine wpAnyH_take (i := 34) (v := (.bool true)) rfl (by kernel_rfl) (by kernel_rfl) (by kernel_rfl) (fun _ _ _ h => h) (.inl ⟨by kernel_rfl, fun w9 hS => by kernel_rfl⟩) HS7 ?_
  refine wpAnyH_take (i := 35) (v := (.bool true)) rfl (by kernel_rfl) (by kernel_rfl) (by kernel_rfl) (fun _ _ _ h => h) (.inl ⟨by kernel_rfl, fun w9 hS => by kernel_rfl⟩) HS7 ?_
  refine wpAnyH_done (by kernel_rfl) ?_ _
  go_wp2
  go_ret
  exact ⟨rfl, W8.out.trans (Below.mono HS7 W8.out.size)⟩

theorem tells_law (a0 : Option Addr) (l0 c0 : Nat) (z0 : List Int) (x : Int) (w : World) (hx : (Lit.int .u32 x).wf = true) (w0 : IsRow .u8 w a0 l0 c0 z0) :
    Calls Try.prog 3 #[.slice a0 l0 c0, .int .u32 x] w fun e w' => e = .returned (.bool true) ∧ Below w.heap.size w w' := by
  by_cases h0 : 600 < l0
  · exact tells_long a0 l0 c0 x w h0
  · obtain ⟨s, hs⟩ := C.of_u32 hx
    exact tells_in a0 l0 c0 _ s x w hs w0.rowIn.2 w0.rowIn.1 w0.nil (by omega)
end Go.Proofs.Ytgholfobmclabaa
