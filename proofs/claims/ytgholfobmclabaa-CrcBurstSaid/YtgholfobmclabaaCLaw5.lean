/-
  Walk of moorings/mooringslaw04.CrcBurst: for every input it returns true.
-/
import Derived.Test.YtgholfobmclabaaCTurn
import Derived.Test.YtgholfobmclabaaCLaw2
import Derived.Test.YtgholfobmclabaaReg
namespace Go.Proofs.Ytgholfobmclabaa
open Go.RowKit

theorem burst_no (a0 : Option Addr) (l0 c0 : Nat) (n x : Int) (w : World) (h : 300 < l0 ∨ (l0 ≤ 300 ∧ n < 0) ∨ (l0 ≤ 300 ∧ 0 ≤ n ∧ 2400 < n)) :
    Calls Try.prog 5 #[.slice a0 l0 c0, .int .i64 n, .int .u32 x] w fun e w' => e = .returned (.bool true) ∧ Below w.heap.size w w' := by
  rcases h with h1 | ⟨h1, h2⟩ | ⟨h1, h2, h3⟩
  · have d1 : decide (300 < (l0 : Int)) = true := by simp; omega
    go_enter Try.func5, Try.ntmps5
    go_wp2_with fail
    refine (awake_any _).mono ?_
    rintro e w1 ⟨rfl, hb1⟩
    have W1 := Lib.hid hb1
    clear hb1
    go_wp2
    go_ret
    exact ⟨rfl, W1.out⟩
  · have d1 : decide (300 < (l0 : Int)) = false := by simp; omega
    go_enter Try.func5, Try.ntmps5
    go_wp2_with fail
    refine (awake_any _).mono ?_
    rintro e w1 ⟨rfl, hb1⟩
    have W1 := Lib.hid hb1
    clear hb1
    go_wp2
    go_ret
    exact ⟨rfl, W1.out⟩
  · have d1 : decide (300 < (l0 : Int)) = false := by simp; omega
    go_enter Try.func5, Try.ntmps5
    go_wp2_with fail
    refine (awake_any _).mono ?_
    rintro e w1 ⟨rfl, hb1⟩
    have W1 := Lib.hid hb1
    clear hb1
    go_wp2
    go_ret
    exact ⟨rfl, W1.out⟩

/-- Open of what is near a seal. -/
theorem openNear_any (a : Option Addr) (len cap at_ : Nat) (Y L : List Int) (is : Bool) (w : World) (h9 : len ≤ 90000) (hl : Y.length = len) (h : RowIn .u8 w a cap Y) (hw : C.wf L) (hn : C.near at_ Y (C.seal L)) (hi : decide (Y = C.seal L) = is) :
    Calls Try.prog 10 #[.slice a len cap] w fun e w' => ∃ a' cap' n', e = .returned (.tuple #[.slice a' n' cap', .bool is]) ∧ Below w.heap.size w w' :=
  (open_any a len cap Y w h9 hl h).mono fun e w' ⟨a', cap', n', h1, _, _, h4⟩ => ⟨a', cap', n', by rw [h1, C.open_near hw hn, hi], h4⟩

set_option maxRecDepth 100000 in
set_option maxHeartbeats 4000000 in
theorem burst_in (a0 : Option Addr) (l0 c0 n : Nat) (L : List Int) (x : Int) (w : World) (hx : 0 ≤ x ∧ x ≤ 4294967295) (h0 : L.length = l0) (r0 : RowIn .u8 w a0 c0 L) (n0 : a0 = none → l0 = 0 ∧ c0 = 0) (hl0 : l0 ≤ 300) (hn : n ≤ 2400) :
    Calls Try.prog 5 #[.slice a0 l0 c0, .int .i64 n, .int .u32 x] w fun e w' => e = .returned (.bool true) ∧ Below w.heap.size w w' := by
  have d1 : decide (300 < (l0 : Int)) = false := by simp; omega
  have d2 : decide ((n : Int) < 0) = false := by simp
  have d3 : decide (2400 < (n : Int)) = false := by simp; omega
  have hl9 : l0 ≤ 90000 := by omega
  have hl94 : l0 + 4 ≤ 90000 := by omega
  obtain ⟨sb, hsb⟩ : ∃ s, strOf L = s := ⟨_, rfl⟩
  obtain ⟨ss, hss⟩ : ∃ s, strOf (C.seal L) = s := ⟨_, rfl⟩
  obtain ⟨tb, htb⟩ : ∃ t, C.n (C.sum L) = t := ⟨_, rfl⟩
  have KB := Lib.hid hsb
  have KS := Lib.hid hss
  have KT := Lib.hid htb
  have WF := Lib.hid (C.lit_wf r0.2.1)
  have LS : Hid ((C.seal L).length = l0 + 4) := Lib.hid (by rw [C.seal_len, h0])
  have L0 := Lib.hid h0
  have R0 := Lib.hid r0
  have N0 := Lib.hid n0
  have HX := Lib.hid hx
  have HN := Lib.hid hn
  clear hsb hss htb h0 r0 n0 hx hn
  go_enter Try.func5, Try.ntmps5
  go_wp2_with fail
  refine (awake_any _).mono ?_
  rintro e w1 ⟨rfl, hb1⟩
  have W1 := Lib.hid hb1
  clear hb1
  go_wp2_with fail
  refine (turned_any _ l0 _ n L x _ L0.out (R0.out.below W1.out) N0.out hl9 HN.out HX.out).mono ?_
  rintro e w2 ⟨a2, c2, X, rfl, nx, r2, hb2⟩
  have B2 := Lib.hid hb2
  have W2 := Lib.hid (W1.out.trans (hb2.mono W1.out.size))
  clear hb2
  obtain ⟨same, hsame⟩ : ∃ b, decide (X = L) = b := ⟨_, rfl⟩
  obtain ⟨sx, hsx⟩ : ∃ s, strOf X = s := ⟨_, rfl⟩
  obtain ⟨tx, htx⟩ : ∃ t, C.n (C.sum X) = t := ⟨_, rfl⟩
  have LX : Hid (X.length = l0) := Lib.hid (by rw [nx.out.1, L0.out])
  have KX := Lib.hid hsx
  have KTX := Lib.hid htx
  have E1 : Hid ((tx == tb) = same) := Lib.hid (by
    rw [← hsame, ← htx, ← KT.out, Bool.eq_iff_iff, beq_iff_eq, decide_eq_true_iff, C.n_inj]
    exact C.near_sum nx.out WF.out)
  have E2 : Hid ((sx.toList == sb.toList) = same) := Lib.hid (by
    rw [← hsame, ← hsx, ← KB.out]
    exact str_beq (C.wf_lit nx.out.2.1) (C.wf_lit WF.out))
  clear hsame hsx htx
  go_wp2_with fail
  refine (sealRow_any _ l0 _ L _ hl9 L0.out (R0.out.below W2.out)).mono ?_
  rintro e w3 ⟨a3, c3, rfl, r3, hb3⟩
  have B3 := Lib.hid hb3
  have W3 := Lib.hid (W2.out.trans (hb3.mono W2.out.size))
  clear hb3
  go_wp2_with fail
  refine (turned_any _ (l0 + 4) _ n (C.seal L) x _ LS.out r3.out (fun h => by subst h; rcases r3.out.2.2 with h | ⟨_, _, h, _⟩; (have := LS.out; rw [h] at this; simp at this); cases h) hl94 HN.out HX.out).mono ?_
  rintro e w4 ⟨a4, c4, Y, rfl, ny, r4, hb4⟩
  have B4 := Lib.hid hb4
  have W4 := Lib.hid (W3.out.trans (hb4.mono W3.out.size))
  clear hb4
  obtain ⟨is, his⟩ : ∃ b, decide (Y = C.seal L) = b := ⟨_, rfl⟩
  obtain ⟨sy, hsy⟩ : ∃ s, strOf Y = s := ⟨_, rfl⟩
  have LY : Hid (Y.length = l0 + 4) := Lib.hid (by rw [ny.out.1, LS.out])
  have KI := Lib.hid his
  have KY := Lib.hid hsy
  have E3 : Hid ((sy.toList == ss.toList) = is) := Lib.hid (by
    rw [← his, ← hsy, ← KS.out]
    exact str_beq (C.wf_lit ny.out.2.1) (C.wf_lit (C.seal_wf WF.out)))
  clear his hsy
  go_wp2_with fail
  refine (openNear_any _ (l0 + 4) _ n Y L is _ hl94 LY.out r4.out WF.out ny.out KI.out).mono ?_
  rintro e w5 ⟨a5, c5, n5, rfl, hb5⟩
  have B5 := Lib.hid hb5
  have W5 := Lib.hid (W4.out.trans (hb5.mono W4.out.size))
  clear hb5
  have RX := Lib.hid (((r2.out.below B3.out).below B4.out).below B5.out)
  have RS := Lib.hid ((r3.out.below B4.out).below B5.out)
  have RY := Lib.hid (r4.out.below B5.out)
  have RB := Lib.hid (R0.out.below W5.out)
  clear d1 d2 d3 hl0
  go_wp2_with fail
  refine wp_region_held (S := fun w' => Below w5.heap.size w5 w') (by kernel_rfl) ?_
  change wpAnyH _ _ _ _ _ _ _ _ (World.drew _)
  have HS0 : (fun w' => Below w5.heap.size w5 w') (World.drew w5) := below_drew w5
  refine wpAnyH_take (i := 0) (v := (.slice a2 l0 c2)) rfl (by kernel_rfl) (by kernel_rfl) (by kernel_rfl) (fun _ _ _ h => h) (.inl ⟨by kernel_rfl, fun w9 hS => by kernel_rfl⟩) HS0 ?_
  refine wpAnyH_take (i := 2) (v := (.slice a0 l0 c0)) rfl (by kernel_rfl) (by kernel_rfl) (by kernel_rfl) (fun _ _ _ h => h) (.inl ⟨by kernel_rfl, fun w9 hS => by kernel_rfl⟩) HS0 ?_
  refine wpAnyH_take (i := 5) (v := (.slice a2 l0 c2)) rfl (by kernel_rfl) (by kernel_rfl) (by kernel_rfl) (fun _ _ _ h => h) (.inl ⟨by kernel_rfl, fun w9 hS => by kernel_rfl⟩) HS0 ?_
  refine wpAnyH_take (i := 6) (v := (.string sx)) rfl (by kernel_rfl) (by kernel_rfl) (by kernel_rfl) (fun _ _ _ h => h) (.inl ⟨by kernel_rfl, fun w9 hS => by have k := conv_row (RX.out.below hS) LX.out; rw [KX.out] at k; go_simp⟩) HS0 ?_
  refine wpAnyH_take (i := 7) (v := (.slice a0 l0 c0)) rfl (by kernel_rfl) (by kernel_rfl) (by kernel_rfl) (fun _ _ _ h => h) (.inl ⟨by kernel_rfl, fun w9 hS => by kernel_rfl⟩) HS0 ?_
  refine wpAnyH_take (i := 8) (v := (.string sb)) rfl (by kernel_rfl) (by kernel_rfl) (by kernel_rfl) (fun _ _ _ h => h) (.inl ⟨by kernel_rfl, fun w9 hS => by have k := conv_row (RB.out.below hS) L0.out; rw [KB.out] at k; go_simp⟩) HS0 ?_
  refine wpAnyH_take (i := 9) (v := (.bool same)) rfl (by kernel_rfl) (by kernel_rfl) (by kernel_rfl) (fun _ _ _ h => h) (.inl ⟨by kernel_rfl, fun w9 hS => (show _ = Result.ok (.value (.bool (sx.toList == sb.toList))) w9 by kernel_rfl).trans (by rw [E2.out])⟩) HS0 ?_
  refine wpAnyH_call (i := 1) (f := 12) (args := #[.slice a2 l0 c2]) (by kernel_rfl) rfl (by kernel_rfl) (by kernel_rfl) (sum_v _ l0 _ X tx KTX.out _ LX.out (RX.out.below HS0)) ?_
  rintro e w6 ⟨rfl, hbw6⟩
  have HS1 : (fun w' => Below w5.heap.size w5 w') w6 := Below.trans HS0 (hbw6.mono (Below.size HS0))
  refine ⟨_, rfl, HS1, ?_⟩
  refine wpAnyH_call (i := 3) (f := 12) (args := #[.slice a0 l0 c0]) (by kernel_rfl) rfl (by kernel_rfl) (by kernel_rfl) (sum_v _ l0 _ L tb KT.out _ L0.out (RB.out.below HS1)) ?_
  rintro e w7 ⟨rfl, hbw7⟩
  have HS2 : (fun w' => Below w5.heap.size w5 w') w7 := Below.trans HS1 (hbw7.mono (Below.size HS1))
  refine ⟨_, rfl, HS2, ?_⟩
  refine wpAnyH_take (i := 4) (v := (.bool same)) rfl (by kernel_rfl) (by kernel_rfl) (by kernel_rfl) (fun _ _ _ h => h) (.inl ⟨by kernel_rfl, fun w9 hS => (show _ = Result.ok (.value (.bool (tx == tb))) w9 by kernel_rfl).trans (by rw [E1.out])⟩) HS2 ?_
  refine wpAnyH_take (i := 10) (v := (.bool true)) rfl (by kernel_rfl) (by kernel_rfl) (by kernel_rfl) (fun _ _ _ h => h) (.inl ⟨by kernel_rfl, fun w9 hS => (show _ = Result.ok (.value (.bool (same == same))) w9 by kernel_rfl).trans (by rw [beq_self_eq_true])⟩) HS2 ?_
  refine wpAnyH_take (i := 11) (v := (.bool true)) rfl (by kernel_rfl) (by kernel_rfl) (by kernel_rfl) (fun _ _ _ h => h) (.inl ⟨by kernel_rfl, fun w9 hS => by kernel_rfl⟩) HS2 ?_
  refine wpAnyH_take (i := 12) (v := (.bool is)) rfl (by kernel_rfl) (by kernel_rfl) (by kernel_rfl) (fun _ _ _ h => h) (.inl ⟨by kernel_rfl, fun w9 hS => by kernel_rfl⟩) HS2 ?_
  refine wpAnyH_take (i := 13) (v := (.slice a4 (l0 + 4) c4)) rfl (by kernel_rfl) (by kernel_rfl) (by kernel_rfl) (fun _ _ _ h => h) (.inl ⟨by kernel_rfl, fun w9 hS => by kernel_rfl⟩) HS2 ?_
  refine wpAnyH_take (i := 14) (v := (.string sy)) rfl (by kernel_rfl) (by kernel_rfl) (by kernel_rfl) (fun _ _ _ h => h) (.inl ⟨by kernel_rfl, fun w9 hS => by have k := conv_row (RY.out.below hS) LY.out; rw [KY.out] at k; go_simp⟩) HS2 ?_
  refine wpAnyH_take (i := 15) (v := (.slice a3 (l0 + 4) c3)) rfl (by kernel_rfl) (by kernel_rfl) (by kernel_rfl) (fun _ _ _ h => h) (.inl ⟨by kernel_rfl, fun w9 hS => by kernel_rfl⟩) HS2 ?_
  refine wpAnyH_take (i := 16) (v := (.string ss)) rfl (by kernel_rfl) (by kernel_rfl) (by kernel_rfl) (fun _ _ _ h => h) (.inl ⟨by kernel_rfl, fun w9 hS => by have k := conv_row (RS.out.below hS) LS.out; rw [KS.out] at k; go_simp⟩) HS2 ?_
  refine wpAnyH_take (i := 17) (v := (.bool is)) rfl (by kernel_rfl) (by kernel_rfl) (by kernel_rfl) (fun _ _ _ h => h) (.inl ⟨by kernel_rfl, fun w9 hS => (show _ = Result.ok (.value (.bool (sy.toList == ss.toList))) w9 by kernel_rfl).trans (by rw [E3.out])⟩) HS2 ?_
  refine wpAnyH_take (i := 18) (v := (.bool true)) rfl (by kernel_rfl) (by kernel_rfl) (by kernel_rfl) (fun _ _ _ h => h) (.inl ⟨by kernel_rfl, fun w9 hS => (show _ = Result.ok (.value (.bool (is == is))) w9 by kernel_rfl).trans (by rw [beq_self_eq_true])⟩) HS2 ?_
  refine wpAnyH_take (i := 19) (v := (.bool true)) rfl (by kernel_rfl) (by kernel_rfl) (by kernel_rfl) (fun _ _ _ h => h) (.inl ⟨by kernel_rfl, fun w9 hS => by kernel_rfl⟩) HS2 ?_
  refine wpAnyH_take (i := 20) (v := (.bool true)) rfl (by kernel_rfl) (by kernel_rfl) (by kernel_rfl) (fun _ _ _ h => h) (.inl ⟨by kernel_rfl, fun w9 hS => by kernel_rfl⟩) HS2 ?_
  refine wpAnyH_done (by kernel_rfl) ?_ _
  go_wp2
  go_ret
  exact ⟨rfl, W5.out.trans (Below.mono HS2 W5.out.size)⟩

theorem burst_law (a0 : Option Addr) (l0 c0 : Nat) (z0 : List Int) (n x : Int) (w : World) (hx : (Lit.int .u32 x).wf = true) (w0 : IsRow .u8 w a0 l0 c0 z0) :
    Calls Try.prog 5 #[.slice a0 l0 c0, .int .i64 n, .int .u32 x] w fun e w' => e = .returned (.bool true) ∧ Below w.heap.size w w' := by
  by_cases h0 : 300 < l0
  · exact burst_no a0 l0 c0 n x w (.inl h0)
  · by_cases h1 : 0 ≤ n ∧ n ≤ 2400
    · obtain ⟨k, rfl⟩ : ∃ k : Nat, n = k := ⟨n.toNat, by omega⟩
      obtain ⟨s, hs⟩ := C.of_u32 hx
      exact burst_in a0 l0 c0 k _ x w (by rw [← hs]; exact C.n_bd s) w0.rowIn.2 w0.rowIn.1 w0.nil (by omega) (by omega)
    · exact burst_no a0 l0 c0 n x w (by omega)
end Go.Proofs.Ytgholfobmclabaa
