/-
  Walk of moorings/mooringslaw01.VariTells: for every input it returns true.
-/
import Derived.Test.YthedkcbkalifgaaVAll
import Derived.Test.YthedkcbkalifgaaRefAll
import Derived.Deep.RegionHeld3
import Derived.Deep.DrawnRows
namespace Go.Proofs.Ythedkcbkalifgaa
open Go.RowKit
attribute [local go_sem ↓] Go.wp_at_zero Go.wp_at_succ

theorem refAllRow_any (a : Option Addr) (len cap : Nat) (L : List Int) (w : World) (hl : L.length = len) (h : RowIn .i64 w a cap L) : Calls Try.prog 13 #[.slice a len cap] w fun e w' =>
    ∃ a' cap' n', e = .returned (.tuple #[.slice a' n' cap', .bool (M.all L).isSome]) ∧ Hid (((M.all L).getD []).length = n') ∧ Hid (RowIn .u8 w' a' cap' ((M.all L).getD [])) ∧ Below w.heap.size w w' :=
  (refAll_any a len cap L w hl h).mono fun e w' ⟨v, ok, he, hok, ho, hb⟩ => by
    obtain ⟨a', cap', rfl, _, hr⟩ := ownsRow_rowIn ho (all_wf L)
    exact ⟨a', cap', _, by rw [he, hok], rfl, hr, hb⟩
theorem refReadRow_any (a : Option Addr) (len cap : Nat) (L : List Int) (w : World) (hl : L.length = len) (h : RowIn .u8 w a cap L) (h5 : len ≤ 1000000) : Calls Try.prog 15 #[.slice a len cap] w fun e w' =>
    ∃ a' cap' n', e = .returned (.tuple #[.slice a' n' cap', .bool (M.read L).isSome]) ∧ Hid (((M.read L).getD []).length = n') ∧ Hid (RowIn .i64 w' a' cap' ((M.read L).getD [])) ∧ Below w.heap.size w w' :=
  (refRead_any a len cap L w hl h h5).mono fun e w' ⟨v, ok, he, hok, ho, hb⟩ => by
    obtain ⟨a', cap', rfl, _, hr⟩ := ownsRow_rowIn ho (read_wf L)
    exact ⟨a', cap', _, by rw [he, hok], rfl, hr, hb⟩
theorem putRow_any (n : Int) (w : World) : Calls Try.prog 17 #[.int .i64 n] w fun e w' => ∃ a cap n', e = .returned (.slice a n' cap) ∧ Hid ((M.put n).length = n') ∧ Hid (RowIn .u8 w' a cap (M.put n)) ∧ Below w.heap.size w w' :=
  (put_any n w).mono fun e w' ⟨v, he, ho, hb⟩ => by
    obtain ⟨a', cap', rfl, _, hr⟩ := ownsRow_rowIn ho (put_wf n)
    exact ⟨a', cap', _, he, rfl, hr, hb⟩
theorem refPutRow_any (n : Int) (w : World) : Calls Try.prog 18 #[.int .i64 n] w fun e w' => ∃ a cap n', e = .returned (.slice a n' cap) ∧ Hid ((M.put n).length = n') ∧ Hid (RowIn .u8 w' a cap (M.put n)) ∧ Below w.heap.size w w' :=
  (refPut_any n w).mono fun e w' ⟨v, he, ho, hb⟩ => by
    obtain ⟨a', cap', rfl, _, hr⟩ := ownsRow_rowIn ho (put_wf n)
    exact ⟨a', cap', _, he, rfl, hr, hb⟩

theorem below_drew (w : World) : Below w.heap.size w w.drew := (Below.refl _ _).drew

set_option maxRecDepth 100000 in
set_option maxHeartbeats 4000000 in
theorem tells_in (n p : Int) (a1 a3 : Option Addr) (l1 l3 c1 c3 : Nat) (B L : List Int) (w : World) (h1 : B.length = l1) (h3 : L.length = l3) (r1 : RowIn .u8 w a1 c1 B) (r3 : RowIn .i64 w a3 c3 L) (hl1 : l1 ≤ 500) (hl3 : l3 ≤ 500) :
    Calls Try.prog 3 #[.int .i64 n, .slice a1 l1 c1, .int .i64 p, .slice a3 l3 c3] w fun e w' => e = .returned (.bool true) ∧ Below w.heap.size w w' := by
  have d1 : decide (500 < (l1 : Int)) = false := by simp; omega
  have d3 : decide (500 < (l3 : Int)) = false := by simp; omega
  have L1 := Lib.hid h1
  have L3 := Lib.hid h3
  have R1 := Lib.hid r1
  have R3 := Lib.hid r3
  clear h1 h3 r1 r3
  obtain ⟨gn, gq, hg⟩ : ∃ x y, M.get B p = (x, y) := ⟨_, _, rfl⟩
  obtain ⟨okL, hokL⟩ : ∃ b, (M.all L).isSome = b := ⟨_, rfl⟩
  obtain ⟨okB, hokB⟩ : ∃ b, (M.read B).isSome = b := ⟨_, rfl⟩
  obtain ⟨sx, hsx⟩ : ∃ s, strOf ((M.all L).getD []) = s := ⟨_, rfl⟩
  obtain ⟨sp, hsp⟩ : ∃ s, strOf (M.put n) = s := ⟨_, rfl⟩
  have KG := Lib.hid hg
  have KL := Lib.hid hokL
  have KB := Lib.hid hokB
  have SX := Lib.hid hsx
  have SP := Lib.hid hsp
  clear hg hokL hokB hsx hsp
  go_enter Try.func3, Try.ntmps3
  go_wp2_with fail
  refine (awake_any _).mono ?_
  rintro e w1 ⟨rfl, hb1⟩
  have W1 := Lib.hid hb1
  clear hb1
  go_wp2_with fail
  refine (getIs_of KG.out (get_any a1 l1 c1 _ B _ L1.out (R1.out.below W1.out))).mono ?_
  rintro e w1' ⟨rfl, rfl⟩
  go_wp2_with fail
  refine (getIs_of KG.out (refGet_any a1 l1 c1 _ B _ L1.out (R1.out.below W1.out))).mono ?_
  rintro e w1' ⟨rfl, rfl⟩
  go_wp2_with fail
  refine (allRow_any _ l3 _ L _ L3.out (R3.out.below W1.out)).mono ?_
  rintro e w2 ⟨a2, c2, n2, rfl, l2, r2, hb2⟩
  rw [KL.out]
  have B2 := Lib.hid hb2
  have W2 := Lib.hid (W1.out.trans (hb2.mono W1.out.size))
  clear hb2
  go_wp2_with fail
  refine (refAllRow_any _ l3 _ L _ L3.out (R3.out.below W2.out)).mono ?_
  rintro e w3 ⟨a4, c4, n4, rfl, l4, r4, hb3⟩
  rw [KL.out]
  have B3 := Lib.hid hb3
  have W3 := Lib.hid (W2.out.trans (hb3.mono W2.out.size))
  clear hb3
  go_wp2_with fail
  refine (readRow_any _ l1 _ B _ L1.out (R1.out.below W3.out)).mono ?_
  rintro e w4 ⟨a5, c5, n5, rfl, l5, r5, hb4⟩
  rw [KB.out]
  have B4 := Lib.hid hb4
  have W4 := Lib.hid (W3.out.trans (hb4.mono W3.out.size))
  clear hb4
  go_wp2_with fail
  refine (refReadRow_any _ l1 _ B _ L1.out (R1.out.below W4.out) (by omega)).mono ?_
  rintro e w5 ⟨a6, c6, n6, rfl, l6, r6, hb5⟩
  rw [KB.out]
  have B5 := Lib.hid hb5
  have W5 := Lib.hid (W4.out.trans (hb5.mono W4.out.size))
  clear hb5
  go_wp2_with fail
  refine (ints_any _ _ n5 n6 _ _ _ _ _ l5.out l6.out (r5.out.below B5.out) r6.out).mono ?_
  rintro e w6 ⟨rfl, hb6⟩
  rw [decide_eq_true rfl]
  have B6 := Lib.hid hb6
  have W6 := Lib.hid (W5.out.trans (hb6.mono W5.out.size))
  clear hb6
  have RX : Hid _ := Lib.hid ((((r2.out.below B3.out).below B4.out).below B5.out).below B6.out)
  have RY : Hid _ := Lib.hid (((r4.out.below B4.out).below B5.out).below B6.out)
  go_wp2_with fail
  refine wp_region_any (by kernel_rfl) ?_
  change wpAny _ _ _ _ _ _ _ (World.drew _)
  refine wpAny_take (i := 0) (v := .int .i64 n) rfl (by kernel_rfl) (by kernel_rfl) (by kernel_rfl) (fun _ _ _ h => h) (.inl ⟨by kernel_rfl, fun w9 => by kernel_rfl⟩) ?_
  refine wpAny_take (i := 3) (v := .int .i64 n) rfl (by kernel_rfl) (by kernel_rfl) (by kernel_rfl) (fun _ _ _ h => h) (.inl ⟨by kernel_rfl, fun w9 => by kernel_rfl⟩) ?_
  refine wpAny_ready (rs := [1]) (by kernel_rfl) (by simp) ?_
  refine AllReady.cons rfl (fun K hK => ?_) AllReady.nil
  go_simp
  refine (putRow_any n _).mono ?_
  rintro e w7 ⟨a7, c7, n7, rfl, l7, r7, hb7⟩
  have RX7 : Hid _ := Lib.hid ((RX.out.below (below_drew _)).below hb7)
  have RY7 : Hid _ := Lib.hid ((RY.out.below (below_drew _)).below hb7)
  show K _ w7
  refine hK _ _ ?_
  clear hK K
  refine wpAny_of_held (S := fun w' => Below w7.heap.size w7 w') _ _ _ _ ?_
  have HS : (fun w' => Below w7.heap.size w7 w') w7 := Below.refl _ _
  refine wpAnyH_take (i := 2) (v := (.string sp)) rfl (by kernel_rfl) (by kernel_rfl) (by kernel_rfl) (fun _ _ _ h => h) (.inl ⟨by kernel_rfl, fun w9 hS => by have k := conv_row (r7.out.below hS) l7.out; rw [SP.out] at k; go_simp⟩) HS ?_
  refine wpAnyH_all (rs := [4]) (by kernel_rfl) (by simp) ?_
  intro i hi
  obtain rfl : i = 4 := by simpa using hi
  refine wpOp_step rfl (fun K hK => ?_)
  go_simp
  refine (refPutRow_any n _).mono ?_
  rintro e w8 ⟨a8, c8, n8, rfl, l8, r8, hb8⟩
  show K _ w8
  refine hK _ _ ⟨hb8, ?_⟩
  clear hK K
  have HS8 : (fun w' => Below w7.heap.size w7 w') w8 := hb8
  refine wpAnyH_all (rs := [5]) (by kernel_rfl) (by simp) ?_
  intro i hi
  obtain rfl : i = 5 := by simpa using hi
  refine wpOp_step rfl (fun K hK => ?_)
  have k8 := conv_row r8.out l8.out
  rw [SP.out] at k8
  go_simp
  refine hK _ _ ⟨hb8, ?_⟩
  clear hK K k8
  refine wpAnyH_take (i := 6) (v := (.bool true)) rfl (by kernel_rfl) (by kernel_rfl) (by kernel_rfl) (fun _ _ _ h => h) (.inl ⟨by kernel_rfl, fun w9 hS => (show _ = Result.ok (.value (.bool (sp.toList == sp.toList))) w9 by kernel_rfl).trans (by rw [beq_self_eq_true])⟩) HS8 ?_
  refine wpAnyH_take (i := 7) (v := (.bool true)) rfl (by kernel_rfl) (by kernel_rfl) (by kernel_rfl) (fun _ _ _ h => h) (.inl ⟨by kernel_rfl, fun w9 hS => by kernel_rfl⟩) HS8 ?_
  refine wpAnyH_take (i := 8) (v := (.int .i64 gn)) rfl (by kernel_rfl) (by kernel_rfl) (by kernel_rfl) (fun _ _ _ h => h) (.inl ⟨by kernel_rfl, fun w9 hS => by kernel_rfl⟩) HS8 ?_
  refine wpAnyH_take (i := 9) (v := (.int .i64 gn)) rfl (by kernel_rfl) (by kernel_rfl) (by kernel_rfl) (fun _ _ _ h => h) (.inl ⟨by kernel_rfl, fun w9 hS => by kernel_rfl⟩) HS8 ?_
  refine wpAnyH_take (i := 10) (v := (.bool true)) rfl (by kernel_rfl) (by kernel_rfl) (by kernel_rfl) (fun _ _ _ h => h) (.inl ⟨by kernel_rfl, fun w9 hS => (show _ = Result.ok (.value (.bool (gn == gn))) w9 by kernel_rfl).trans (by rw [beq_self_eq_true])⟩) HS8 ?_
  refine wpAnyH_take (i := 11) (v := (.bool true)) rfl (by kernel_rfl) (by kernel_rfl) (by kernel_rfl) (fun _ _ _ h => h) (.inl ⟨by kernel_rfl, fun w9 hS => by kernel_rfl⟩) HS8 ?_
  refine wpAnyH_take (i := 12) (v := (.bool true)) rfl (by kernel_rfl) (by kernel_rfl) (by kernel_rfl) (fun _ _ _ h => h) (.inl ⟨by kernel_rfl, fun w9 hS => by kernel_rfl⟩) HS8 ?_
  refine wpAnyH_take (i := 13) (v := (.int .i64 gq)) rfl (by kernel_rfl) (by kernel_rfl) (by kernel_rfl) (fun _ _ _ h => h) (.inl ⟨by kernel_rfl, fun w9 hS => by kernel_rfl⟩) HS8 ?_
  refine wpAnyH_take (i := 14) (v := (.int .i64 gq)) rfl (by kernel_rfl) (by kernel_rfl) (by kernel_rfl) (fun _ _ _ h => h) (.inl ⟨by kernel_rfl, fun w9 hS => by kernel_rfl⟩) HS8 ?_
  refine wpAnyH_take (i := 15) (v := (.bool true)) rfl (by kernel_rfl) (by kernel_rfl) (by kernel_rfl) (fun _ _ _ h => h) (.inl ⟨by kernel_rfl, fun w9 hS => (show _ = Result.ok (.value (.bool (gq == gq))) w9 by kernel_rfl).trans (by rw [beq_self_eq_true])⟩) HS8 ?_
  refine wpAnyH_take (i := 16) (v := (.bool true)) rfl (by kernel_rfl) (by kernel_rfl) (by kernel_rfl) (fun _ _ _ h => h) (.inl ⟨by kernel_rfl, fun w9 hS => by kernel_rfl⟩) HS8 ?_
  refine wpAnyH_take (i := 17) (v := (.bool true)) rfl (by kernel_rfl) (by kernel_rfl) (by kernel_rfl) (fun _ _ _ h => h) (.inl ⟨by kernel_rfl, fun w9 hS => by kernel_rfl⟩) HS8 ?_
  refine wpAnyH_take (i := 18) (v := (.slice a2 n2 c2)) rfl (by kernel_rfl) (by kernel_rfl) (by kernel_rfl) (fun _ _ _ h => h) (.inl ⟨by kernel_rfl, fun w9 hS => by kernel_rfl⟩) HS8 ?_
  refine wpAnyH_take (i := 19) (v := (.string sx)) rfl (by kernel_rfl) (by kernel_rfl) (by kernel_rfl) (fun _ _ _ h => h) (.inl ⟨by kernel_rfl, fun w9 hS => by have k := conv_row (RX7.out.below hS) l2.out; rw [SX.out] at k; go_simp⟩) HS8 ?_
  refine wpAnyH_take (i := 20) (v := (.slice a4 n4 c4)) rfl (by kernel_rfl) (by kernel_rfl) (by kernel_rfl) (fun _ _ _ h => h) (.inl ⟨by kernel_rfl, fun w9 hS => by kernel_rfl⟩) HS8 ?_
  refine wpAnyH_take (i := 21) (v := (.string sx)) rfl (by kernel_rfl) (by kernel_rfl) (by kernel_rfl) (fun _ _ _ h => h) (.inl ⟨by kernel_rfl, fun w9 hS => by have k := conv_row (RY7.out.below hS) l4.out; rw [SX.out] at k; go_simp⟩) HS8 ?_
  refine wpAnyH_take (i := 22) (v := (.bool true)) rfl (by kernel_rfl) (by kernel_rfl) (by kernel_rfl) (fun _ _ _ h => h) (.inl ⟨by kernel_rfl, fun w9 hS => (show _ = Result.ok (.value (.bool (sx.toList == sx.toList))) w9 by kernel_rfl).trans (by rw [beq_self_eq_true])⟩) HS8 ?_
  refine wpAnyH_take (i := 23) (v := (.bool true)) rfl (by kernel_rfl) (by kernel_rfl) (by kernel_rfl) (fun _ _ _ h => h) (.inl ⟨by kernel_rfl, fun w9 hS => by kernel_rfl⟩) HS8 ?_
  refine wpAnyH_take (i := 24) (v := (.bool true)) rfl (by kernel_rfl) (by kernel_rfl) (by kernel_rfl) (fun _ _ _ h => h) (.inl ⟨by kernel_rfl, fun w9 hS => by kernel_rfl⟩) HS8 ?_
  refine wpAnyH_take (i := 25) (v := (.bool okL)) rfl (by kernel_rfl) (by kernel_rfl) (by kernel_rfl) (fun _ _ _ h => h) (.inl ⟨by kernel_rfl, fun w9 hS => by kernel_rfl⟩) HS8 ?_
  refine wpAnyH_take (i := 26) (v := (.bool okL)) rfl (by kernel_rfl) (by kernel_rfl) (by kernel_rfl) (fun _ _ _ h => h) (.inl ⟨by kernel_rfl, fun w9 hS => by kernel_rfl⟩) HS8 ?_
  refine wpAnyH_take (i := 27) (v := (.bool true)) rfl (by kernel_rfl) (by kernel_rfl) (by kernel_rfl) (fun _ _ _ h => h) (.inl ⟨by kernel_rfl, fun w9 hS => (show _ = Result.ok (.value (.bool (okL == okL))) w9 by kernel_rfl).trans (by rw [beq_self_eq_true])⟩) HS8 ?_
  refine wpAnyH_take (i := 28) (v := (.bool true)) rfl (by kernel_rfl) (by kernel_rfl) (by kernel_rfl) (fun _ _ _ h => h) (.inl ⟨by kernel_rfl, fun w9 hS => by kernel_rfl⟩) HS8 ?_
  refine wpAnyH_take (i := 29) (v := (.bool true)) rfl (by kernel_rfl) (by kernel_rfl) (by kernel_rfl) (fun _ _ _ h => h) (.inl ⟨by kernel_rfl, fun w9 hS => by kernel_rfl⟩) HS8 ?_
  refine wpAnyH_take (i := 30) (v := (.bool true)) rfl (by kernel_rfl) (by kernel_rfl) (by kernel_rfl) (fun _ _ _ h => h) (.inl ⟨by kernel_rfl, fun w9 hS => by kernel_rfl⟩) HS8 ?_
  refine wpAnyH_take (i := 31) (v := (.bool true)) rfl (by kernel_rfl) (by kernel_rfl) (by kernel_rfl) (fun _ _ _ h => h) (.inl ⟨by kernel_rfl, fun w9 hS => by kernel_rfl⟩) HS8 ?_
  refine wpAnyH_take (i := 32) (v := (.bool true)) rfl (by kernel_rfl) (by kernel_rfl) (by kernel_rfl) (fun _ _ _ h => h) (.inl ⟨by kernel_rfl, fun w9 hS => by kernel_rfl⟩) HS8 ?_
  refine wpAnyH_take (i := 33) (v := (.bool okB)) rfl (by kernel_rfl) (by kernel_rfl) (by kernel_rfl) (fun _ _ _ h => h) (.inl ⟨by kernel_rfl, fun w9 hS => by kernel_rfl⟩) HS8 ?_
  refine wpAnyH_take (i := 34) (v := (.bool okB)) rfl (by kernel_rfl) (by kernel_rfl) (by kernel_rfl) (fun _ _ _ h => h) (.inl ⟨by kernel_rfl, fun w9 hS => by kernel_rfl⟩) HS8 ?_
  refine wpAnyH_take (i := 35) (v := (.bool true)) rfl (by kernel_rfl) (by kernel_rfl) (by kernel_rfl) (fun _ _ _ h => h) (.inl ⟨by kernel_rfl, fun w9 hS => (show _ = Result.ok (.value (.bool (okB == okB))) w9 by kernel_rfl).trans (by rw [beq_self_eq_true])⟩) HS8 ?_
  refine wpAnyH_take (i := 36) (v := (.bool true)) rfl (by kernel_rfl) (by kernel_rfl) (by kernel_rfl) (fun _ _ _ h => h) (.inl ⟨by kernel_rfl, fun w9 hS => by kernel_rfl⟩) HS8 ?_
  refine wpAnyH_take (i := 37) (v := (.bool true)) rfl (by kernel_rfl) (by kernel_rfl) (by kernel_rfl) (fun _ _ _ h => h) (.inl ⟨by kernel_rfl, fun w9 hS => by kernel_rfl⟩) HS8 ?_
  refine wpAnyH_done (by kernel_rfl) ?_ _
  go_wp2
  go_ret
  exact ⟨rfl, (W6.out.trans ((below_drew w6).mono W6.out.size)).trans ((hb7.mono W6.out.size).trans (hb8.mono (Nat.le_trans W6.out.size hb7.size)))⟩

theorem tells_short (n p : Int) (a1 a3 : Option Addr) (l1 l3 c1 c3 : Nat) (w : World) (h : 500 < l1 ∨ (l1 ≤ 500 ∧ 500 < l3)) :
    Calls Try.prog 3 #[.int .i64 n, .slice a1 l1 c1, .int .i64 p, .slice a3 l3 c3] w fun e w' => e = .returned (.bool true) ∧ Below w.heap.size w w' := by
  rcases h with h1 | ⟨h1, h3⟩
  · have d1 : decide (500 < (l1 : Int)) = true := by simp; omega
    go_enter Try.func3, Try.ntmps3
    go_wp2_with fail
    refine (awake_any _).mono ?_
    rintro e w1 ⟨rfl, hb1⟩
    have hb : Hid (Below w.heap.size w w1) := Lib.hid hb1
    clear hb1
    go_wp2
    go_ret
    exact ⟨rfl, hb.out⟩
  · have d1 : decide (500 < (l1 : Int)) = false := by simp; omega
    have d3 : decide (500 < (l3 : Int)) = true := by simp; omega
    go_enter Try.func3, Try.ntmps3
    go_wp2_with fail
    refine (awake_any _).mono ?_
    rintro e w1 ⟨rfl, hb1⟩
    have hb : Hid (Below w.heap.size w w1) := Lib.hid hb1
    clear hb1
    go_wp2
    go_ret
    exact ⟨rfl, hb.out⟩

theorem tells_any (n p : Int) (a1 a3 : Option Addr) (l1 l3 c1 c3 : Nat) (z1 z3 : List Int) (w : World) (w1 : IsRow .u8 w a1 l1 c1 z1) (w3 : IsRow .i64 w a3 l3 c3 z3) :
    Calls Try.prog 3 #[.int .i64 n, .slice a1 l1 c1, .int .i64 p, .slice a3 l3 c3] w fun e w' => e = .returned (.bool true) ∧ Below w.heap.size w w' := by
  by_cases h1 : 500 < l1
  · exact tells_short n p a1 a3 l1 l3 c1 c3 w (.inl h1)
  · by_cases h3 : 500 < l3
    · exact tells_short n p a1 a3 l1 l3 c1 c3 w (.inr ⟨by omega, h3⟩)
    · exact tells_in n p a1 a3 l1 l3 c1 c3 _ _ w w1.rowIn.2 w3.rowIn.2 w1.rowIn.1 w3.rowIn.1 (by omega) (by omega)
end Go.Proofs.Ythedkcbkalifgaa
