/-
  Walk of moorings/mooringslaw05.RecSame: for every input it returns true.
-/
import Derived.Test.YtnpgjndhkmpciaaRLaw1
import Derived.Test.YtnpgjndhkmpciaaRLists
import Derived.Test.YtnpgjndhkmpciaaRRefScan
import Derived.Test.YtnpgjndhkmpciaaReg
import Derived.Test.YtnpgjndhkmpciaaRBox2
namespace Go.Proofs.Ytnpgjndhkmpciaa
open Go.RowKit

theorem same_big (k : Int) (a : Option Addr) (n cap : Nat) (k' : Int) (a' : Option Addr) (n' cap' : Nat) (w : World) (h : 1000 < n ∨ (n ≤ 1000 ∧ 1000 < n')) :
    Calls Try.prog 9 #[.agg #[.int .i64 k, .slice a n cap], .agg #[.int .i64 k', .slice a' n' cap']] w fun e w' => e = .returned (.bool true) ∧ Below w.heap.size w w' := by
  have HBX := Lib.hid (recBox2_below w k a n cap k' a' n' cap')
  rcases h with h | ⟨h, h'⟩
  · have d1 : decide ((1000 : Int) < (n : Int)) = true := by simp; omega
    go_enter Try.func9, Try.ntmps9
    go_wp2_with fail
    refine (awake_any (recBox2 w k a n cap k' a' n' cap')).mono ?_
    rintro e w1 ⟨rfl, hb1⟩
    have B1 : Hid (Below (recBox2 w k a n cap k' a' n' cap').heap.size (recBox2 w k a n cap k' a' n' cap') w1) := Lib.hid hb1
    have W1 : Hid (Below w.heap.size w w1) := Lib.hid (HBX.out.trans (hb1.mono HBX.out.size))
    clear hb1
    have k0 := recBox_kind w k a n cap (recBox2_first w k a n cap k' a' n' cap' B1.out)
    have k1 := recBox_body w k a n cap (recBox2_first w k a n cap k' a' n' cap' B1.out)
    have k2 := recBox2_kind w k a n cap k' a' n' cap' B1.out
    have k3 := recBox2_body w k a n cap k' a' n' cap' B1.out
    go_wp2
    go_ret
    exact ⟨rfl, W1.out⟩
  · have d1 : decide ((1000 : Int) < (n : Int)) = false := by simp; omega
    have d2 : decide ((1000 : Int) < (n' : Int)) = true := by simp; omega
    go_enter Try.func9, Try.ntmps9
    go_wp2_with fail
    refine (awake_any (recBox2 w k a n cap k' a' n' cap')).mono ?_
    rintro e w1 ⟨rfl, hb1⟩
    have B1 : Hid (Below (recBox2 w k a n cap k' a' n' cap').heap.size (recBox2 w k a n cap k' a' n' cap') w1) := Lib.hid hb1
    have W1 : Hid (Below w.heap.size w w1) := Lib.hid (HBX.out.trans (hb1.mono HBX.out.size))
    clear hb1
    have k0 := recBox_kind w k a n cap (recBox2_first w k a n cap k' a' n' cap' B1.out)
    have k1 := recBox_body w k a n cap (recBox2_first w k a n cap k' a' n' cap' B1.out)
    have k2 := recBox2_kind w k a n cap k' a' n' cap' B1.out
    have k3 := recBox2_body w k a n cap k' a' n' cap' B1.out
    go_wp2
    go_ret
    exact ⟨rfl, W1.out⟩

theorem R.put_ok_iff (r : R.T) : (R.put r).isSome = decide (R.ok r) := by
  unfold R.put
  split
  · next h => rw [decide_eq_true h]; rfl
  · next h => rw [decide_eq_false h]; rfl

set_option maxRecDepth 100000 in
set_option maxHeartbeats 1000000 in
theorem same_in (k : Int) (a : Option Addr) (n cap : Nat) (k' : Int) (a' : Option Addr) (n' cap' : Nat) (B B' : List Int) (o o' : Bool) (w : World) (hl : B.length = n) (hl' : B'.length = n') (hr : RowIn .u8 w a cap B) (hr' : RowIn .u8 w a' cap' B') (hz : a = none → n = 0 ∧ cap = 0) (hz' : a' = none → n' = 0 ∧ cap' = 0) (h : n ≤ 1000) (h' : n' ≤ 1000)
    (hp : (R.put (k, B)).isSome = o) (hp' : (R.put (k', B')).isSome = o') (hoo : o = true → o' = true → R.ok (k, B) ∧ R.ok (k', B')) :
    Calls Try.prog 9 #[.agg #[.int .i64 k, .slice a n cap], .agg #[.int .i64 k', .slice a' n' cap']] w fun e w' => e = .returned (.bool true) ∧ Below w.heap.size w w' := by
  have HBX := Lib.hid (recBox2_below w k a n cap k' a' n' cap')
  have d1 : decide ((1000 : Int) < (n : Int)) = false := by simp; omega
  have d2 : decide ((1000 : Int) < (n' : Int)) = false := by simp; omega
  obtain ⟨d, hd⟩ : ∃ d, decide (((k, B) : R.T) = (k', B')) = d := ⟨_, rfl⟩
  obtain ⟨sa, hsa⟩ : ∃ s, strOf ((R.put (k, B)).getD []) = s := ⟨_, rfl⟩
  obtain ⟨sb, hsb⟩ : ∃ s, strOf ((R.put (k', B')).getD []) = s := ⟨_, rfl⟩
  have HEQ : Hid (o = true → o' = true → (sa.toList == sb.toList) = d) := Lib.hid (fun h1 h2 => by
    obtain ⟨o1, o2⟩ := hoo h1 h2
    rw [← hsa, ← hsb, ← hd, R.put_yes o1, R.put_yes o2]
    show ((strOf (R.bytes (k, B))).toList == (strOf (R.bytes (k', B'))).toList) = _
    rw [str_beq (C.wf_lit (R.bytes_wf o1 (C.lit_wf hr.2.1))) (C.wf_lit (R.bytes_wf o2 (C.lit_wf hr'.2.1)))]
    rw [Bool.eq_iff_iff, decide_eq_true_iff, decide_eq_true_iff]
    exact ⟨fun e => R.bytes_inj o1 o2 e, fun e => by rw [e]⟩)
  have HD := Lib.hid hd
  have HSA := Lib.hid hsa
  have HSB := Lib.hid hsb
  have HO := Lib.hid hp
  have HO' := Lib.hid hp'
  have HL := Lib.hid hl
  have HL' := Lib.hid hl'
  have HR := Lib.hid (hr.below (recBox2_below w k a n cap k' a' n' cap'))
  have HR' := Lib.hid (hr'.below (recBox2_below w k a n cap k' a' n' cap'))
  have HZ := Lib.hid hz
  have HZ' := Lib.hid hz'
  clear hl hl' hr hr' hz hz' hp hp' hd hsa hsb hoo h h'
  go_enter Try.func9, Try.ntmps9
  go_wp2_with fail
  refine (awake_any (recBox2 w k a n cap k' a' n' cap')).mono ?_
  rintro e w1 ⟨rfl, hb1⟩
  have B1 : Hid (Below (recBox2 w k a n cap k' a' n' cap').heap.size (recBox2 w k a n cap k' a' n' cap') w1) := Lib.hid hb1
  have W1 : Hid (Below w.heap.size w w1) := Lib.hid (HBX.out.trans (hb1.mono HBX.out.size))
  clear hb1
  have k0 := recBox_kind w k a n cap (recBox2_first w k a n cap k' a' n' cap' B1.out)
  have k1 := recBox_body w k a n cap (recBox2_first w k a n cap k' a' n' cap' B1.out)
  have k2 := recBox2_kind w k a n cap k' a' n' cap' B1.out
  have k3 := recBox2_body w k a n cap k' a' n' cap' B1.out
  go_wp2_with fail
  refine (recPut_any k a n cap B _ HL.out (HR.out.below B1.out) HZ.out).mono ?_
  rintro e w2 ⟨a2, c2, n2, rfl, l2, r2, z2, hb2⟩
  rw [HO.out]
  have C2 := Lib.hid hb2
  have B2 := Lib.hid (B1.out.trans (hb2.mono B1.out.size))
  have W2 := Lib.hid (W1.out.trans (hb2.mono W1.out.size))
  clear hb2
  clear k0 k1 k2 k3
  have k0 := recBox_kind w k a n cap (recBox2_first w k a n cap k' a' n' cap' B2.out)
  have k1 := recBox_body w k a n cap (recBox2_first w k a n cap k' a' n' cap' B2.out)
  have k2 := recBox2_kind w k a n cap k' a' n' cap' B2.out
  have k3 := recBox2_body w k a n cap k' a' n' cap' B2.out
  go_wp2_with fail
  refine (recPut_any k' a' n' cap' B' _ HL'.out (HR'.out.below B2.out) HZ'.out).mono ?_
  rintro e w3 ⟨a3, c3, n3, rfl, l3, r3, z3, hb3⟩
  rw [HO'.out]
  have C3 := Lib.hid hb3
  have B3 := Lib.hid (B2.out.trans (hb3.mono B2.out.size))
  have W3 := Lib.hid (W2.out.trans (hb3.mono W2.out.size))
  clear hb3
  clear k0 k1 k2 k3
  have k0 := recBox_kind w k a n cap (recBox2_first w k a n cap k' a' n' cap' B3.out)
  have k1 := recBox_body w k a n cap (recBox2_first w k a n cap k' a' n' cap' B3.out)
  have k2 := recBox2_kind w k a n cap k' a' n' cap' B3.out
  have k3 := recBox2_body w k a n cap k' a' n' cap' B3.out
  go_wp2_with fail
  refine (refSame_any k k' a a' n n' cap cap' B B' _ HL.out HL'.out (HR.out.below B3.out) (HR'.out.below B3.out)).mono ?_
  rintro e w4 ⟨rfl, hb4⟩
  rw [HD.out]
  have C4 := Lib.hid hb4
  have B4 := Lib.hid (B3.out.trans (hb4.mono B3.out.size))
  have W4 := Lib.hid (W3.out.trans (hb4.mono W3.out.size))
  clear hb4
  clear k0 k1 k2 k3
  have k0 := recBox_kind w k a n cap (recBox2_first w k a n cap k' a' n' cap' B4.out)
  have k1 := recBox_body w k a n cap (recBox2_first w k a n cap k' a' n' cap' B4.out)
  have k2 := recBox2_kind w k a n cap k' a' n' cap' B4.out
  have k3 := recBox2_body w k a n cap k' a' n' cap' B4.out
  have RA := Lib.hid ((r2.out.below C3.out).below C4.out)
  have RB := Lib.hid (r3.out.below C4.out)
  have RR := Lib.hid (HR.out.below B4.out)
  have RR' := Lib.hid (HR'.out.below B4.out)
  have KW := Lib.hid (And.intro k0 (And.intro k1 (And.intro k2 k3)))
  have hz1 : w.heap.size + 1 < w4.heap.size := by have := B4.out.size; have e : (recBox2 w k a n cap k' a' n' cap').heap.size = w.heap.size + 2 := by simp [recBox2, recBox_size]
                                                  omega
  clear k0 k1 k2 k3
  cases o with
  | false =>
    go_wp2_with fail
    refine wp_region_held (S := fun w' => Below w4.heap.size w4 w') (by kernel_rfl) ?_
    change wpAnyH _ _ _ _ _ _ _ _ (World.drew w4)
    have HS0 : (fun w' => Below w4.heap.size w4 w') (World.drew w4) := below_drew w4
    refine wpAnyH_take (i := 0) (v := (.bool false)) rfl (by kernel_rfl) (by kernel_rfl) (by kernel_rfl) (fun _ _ _ h => h) (.inl ⟨by kernel_rfl, fun w9 hS => by kernel_rfl⟩) HS0 ?_
    refine wpAnyH_take (i := 1) (v := (.bool true)) rfl (by kernel_rfl) (by kernel_rfl) (by kernel_rfl) (fun _ _ _ h => h) (.inl ⟨by kernel_rfl, fun w9 hS => by kernel_rfl⟩) HS0 ?_
    refine wpAnyH_take (i := 2) (v := (.bool true)) rfl (by kernel_rfl) (by kernel_rfl) (by kernel_rfl) (fun _ _ _ h => h) (.inl ⟨by kernel_rfl, fun w9 hS => by kernel_rfl⟩) HS0 ?_
    refine wpAnyH_take (i := 3) (v := undef) rfl (by kernel_rfl) (by kernel_rfl) (by kernel_rfl) (fun _ _ _ h => h) (.inr ⟨by kernel_rfl, rfl⟩) HS0 ?_
    refine wpAnyH_take (i := 4) (v := undef) rfl (by kernel_rfl) (by kernel_rfl) (by kernel_rfl) (fun _ _ _ h => h) (.inr ⟨by kernel_rfl, rfl⟩) HS0 ?_
    refine wpAnyH_take (i := 5) (v := (.bool true)) rfl (by kernel_rfl) (by kernel_rfl) (by kernel_rfl) (fun _ _ _ h => h) (.inl ⟨by kernel_rfl, fun w9 hS => by kernel_rfl⟩) HS0 ?_
    refine wpAnyH_take (i := 6) (v := (.bool true)) rfl (by kernel_rfl) (by kernel_rfl) (by kernel_rfl) (fun _ _ _ h => h) (.inl ⟨by kernel_rfl, fun w9 hS => by kernel_rfl⟩) HS0 ?_
    refine wpAnyH_take (i := 7) (v := undef) rfl (by kernel_rfl) (by kernel_rfl) (by kernel_rfl) (fun _ _ _ h => h) (.inr ⟨by kernel_rfl, rfl⟩) HS0 ?_
    refine wpAnyH_take (i := 8) (v := undef) rfl (by kernel_rfl) (by kernel_rfl) (by kernel_rfl) (fun _ _ _ h => h) (.inr ⟨by kernel_rfl, rfl⟩) HS0 ?_
    refine wpAnyH_take (i := 9) (v := undef) rfl (by kernel_rfl) (by kernel_rfl) (by kernel_rfl) (fun _ _ _ h => h) (.inr ⟨by kernel_rfl, rfl⟩) HS0 ?_
    refine wpAnyH_take (i := 10) (v := undef) rfl (by kernel_rfl) (by kernel_rfl) (by kernel_rfl) (fun _ _ _ h => h) (.inr ⟨by kernel_rfl, rfl⟩) HS0 ?_
    refine wpAnyH_take (i := 11) (v := undef) rfl (by kernel_rfl) (by kernel_rfl) (by kernel_rfl) (fun _ _ _ h => h) (.inr ⟨by kernel_rfl, rfl⟩) HS0 ?_
    refine wpAnyH_take (i := 12) (v := undef) rfl (by kernel_rfl) (by kernel_rfl) (by kernel_rfl) (fun _ _ _ h => h) (.inr ⟨by kernel_rfl, rfl⟩) HS0 ?_
    refine wpAnyH_take (i := 13) (v := undef) rfl (by kernel_rfl) (by kernel_rfl) (by kernel_rfl) (fun _ _ _ h => h) (.inr ⟨by kernel_rfl, rfl⟩) HS0 ?_
    refine wpAnyH_take (i := 14) (v := undef) rfl (by kernel_rfl) (by kernel_rfl) (by kernel_rfl) (fun _ _ _ h => h) (.inr ⟨by kernel_rfl, rfl⟩) HS0 ?_
    refine wpAnyH_take (i := 15) (v := undef) rfl (by kernel_rfl) (by kernel_rfl) (by kernel_rfl) (fun _ _ _ h => h) (.inr ⟨by kernel_rfl, rfl⟩) HS0 ?_
    refine wpAnyH_take (i := 16) (v := undef) rfl (by kernel_rfl) (by kernel_rfl) (by kernel_rfl) (fun _ _ _ h => h) (.inr ⟨by kernel_rfl, rfl⟩) HS0 ?_
    refine wpAnyH_take (i := 17) (v := undef) rfl (by kernel_rfl) (by kernel_rfl) (by kernel_rfl) (fun _ _ _ h => h) (.inr ⟨by kernel_rfl, rfl⟩) HS0 ?_
    refine wpAnyH_take (i := 18) (v := undef) rfl (by kernel_rfl) (by kernel_rfl) (by kernel_rfl) (fun _ _ _ h => h) (.inr ⟨by kernel_rfl, rfl⟩) HS0 ?_
    refine wpAnyH_take (i := 19) (v := undef) rfl (by kernel_rfl) (by kernel_rfl) (by kernel_rfl) (fun _ _ _ h => h) (.inr ⟨by kernel_rfl, rfl⟩) HS0 ?_
    refine wpAnyH_take (i := 20) (v := undef) rfl (by kernel_rfl) (by kernel_rfl) (by kernel_rfl) (fun _ _ _ h => h) (.inr ⟨by kernel_rfl, rfl⟩) HS0 ?_
    refine wpAnyH_take (i := 21) (v := undef) rfl (by kernel_rfl) (by kernel_rfl) (by kernel_rfl) (fun _ _ _ h => h) (.inr ⟨by kernel_rfl, rfl⟩) HS0 ?_
    refine wpAnyH_take (i := 22) (v := undef) rfl (by kernel_rfl) (by kernel_rfl) (by kernel_rfl) (fun _ _ _ h => h) (.inr ⟨by kernel_rfl, rfl⟩) HS0 ?_
    refine wpAnyH_take (i := 23) (v := (.bool true)) rfl (by kernel_rfl) (by kernel_rfl) (by kernel_rfl) (fun _ _ _ h => h) (.inl ⟨by kernel_rfl, fun w9 hS => by kernel_rfl⟩) HS0 ?_
    refine wpAnyH_take (i := 24) (v := (.bool true)) rfl (by kernel_rfl) (by kernel_rfl) (by kernel_rfl) (fun _ _ _ h => h) (.inl ⟨by kernel_rfl, fun w9 hS => by kernel_rfl⟩) HS0 ?_
    refine wpAnyH_done (by kernel_rfl) ?_ _
    go_wp2
    go_ret
    exact ⟨rfl, W4.out.trans (Below.mono HS0 W4.out.size)⟩
  | true =>
    cases o' with
    | false =>
      go_wp2_with fail
      refine wp_region_held (S := fun w' => Below w4.heap.size w4 w') (by kernel_rfl) ?_
      change wpAnyH _ _ _ _ _ _ _ _ (World.drew w4)
      have HS0 : (fun w' => Below w4.heap.size w4 w') (World.drew w4) := below_drew w4
      refine wpAnyH_take (i := 0) (v := (.bool true)) rfl (by kernel_rfl) (by kernel_rfl) (by kernel_rfl) (fun _ _ _ h => h) (.inl ⟨by kernel_rfl, fun w9 hS => by kernel_rfl⟩) HS0 ?_
      refine wpAnyH_take (i := 1) (v := (.bool false)) rfl (by kernel_rfl) (by kernel_rfl) (by kernel_rfl) (fun _ _ _ h => h) (.inl ⟨by kernel_rfl, fun w9 hS => by kernel_rfl⟩) HS0 ?_
      refine wpAnyH_take (i := 2) (v := (.bool false)) rfl (by kernel_rfl) (by kernel_rfl) (by kernel_rfl) (fun _ _ _ h => h) (.inl ⟨by kernel_rfl, fun w9 hS => by kernel_rfl⟩) HS0 ?_
      refine wpAnyH_take (i := 3) (v := (.bool false)) rfl (by kernel_rfl) (by kernel_rfl) (by kernel_rfl) (fun _ _ _ h => h) (.inl ⟨by kernel_rfl, fun w9 hS => by kernel_rfl⟩) HS0 ?_
      refine wpAnyH_take (i := 4) (v := (.bool true)) rfl (by kernel_rfl) (by kernel_rfl) (by kernel_rfl) (fun _ _ _ h => h) (.inl ⟨by kernel_rfl, fun w9 hS => by kernel_rfl⟩) HS0 ?_
      refine wpAnyH_take (i := 5) (v := (.bool true)) rfl (by kernel_rfl) (by kernel_rfl) (by kernel_rfl) (fun _ _ _ h => h) (.inl ⟨by kernel_rfl, fun w9 hS => by kernel_rfl⟩) HS0 ?_
      refine wpAnyH_take (i := 6) (v := (.bool true)) rfl (by kernel_rfl) (by kernel_rfl) (by kernel_rfl) (fun _ _ _ h => h) (.inl ⟨by kernel_rfl, fun w9 hS => by kernel_rfl⟩) HS0 ?_
      refine wpAnyH_take (i := 7) (v := undef) rfl (by kernel_rfl) (by kernel_rfl) (by kernel_rfl) (fun _ _ _ h => h) (.inr ⟨by kernel_rfl, rfl⟩) HS0 ?_
      refine wpAnyH_take (i := 8) (v := undef) rfl (by kernel_rfl) (by kernel_rfl) (by kernel_rfl) (fun _ _ _ h => h) (.inr ⟨by kernel_rfl, rfl⟩) HS0 ?_
      refine wpAnyH_take (i := 9) (v := undef) rfl (by kernel_rfl) (by kernel_rfl) (by kernel_rfl) (fun _ _ _ h => h) (.inr ⟨by kernel_rfl, rfl⟩) HS0 ?_
      refine wpAnyH_take (i := 10) (v := undef) rfl (by kernel_rfl) (by kernel_rfl) (by kernel_rfl) (fun _ _ _ h => h) (.inr ⟨by kernel_rfl, rfl⟩) HS0 ?_
      refine wpAnyH_take (i := 11) (v := undef) rfl (by kernel_rfl) (by kernel_rfl) (by kernel_rfl) (fun _ _ _ h => h) (.inr ⟨by kernel_rfl, rfl⟩) HS0 ?_
      refine wpAnyH_take (i := 12) (v := undef) rfl (by kernel_rfl) (by kernel_rfl) (by kernel_rfl) (fun _ _ _ h => h) (.inr ⟨by kernel_rfl, rfl⟩) HS0 ?_
      refine wpAnyH_take (i := 13) (v := undef) rfl (by kernel_rfl) (by kernel_rfl) (by kernel_rfl) (fun _ _ _ h => h) (.inr ⟨by kernel_rfl, rfl⟩) HS0 ?_
      refine wpAnyH_take (i := 14) (v := undef) rfl (by kernel_rfl) (by kernel_rfl) (by kernel_rfl) (fun _ _ _ h => h) (.inr ⟨by kernel_rfl, rfl⟩) HS0 ?_
      refine wpAnyH_take (i := 15) (v := undef) rfl (by kernel_rfl) (by kernel_rfl) (by kernel_rfl) (fun _ _ _ h => h) (.inr ⟨by kernel_rfl, rfl⟩) HS0 ?_
      refine wpAnyH_take (i := 16) (v := undef) rfl (by kernel_rfl) (by kernel_rfl) (by kernel_rfl) (fun _ _ _ h => h) (.inr ⟨by kernel_rfl, rfl⟩) HS0 ?_
      refine wpAnyH_take (i := 17) (v := undef) rfl (by kernel_rfl) (by kernel_rfl) (by kernel_rfl) (fun _ _ _ h => h) (.inr ⟨by kernel_rfl, rfl⟩) HS0 ?_
      refine wpAnyH_take (i := 18) (v := undef) rfl (by kernel_rfl) (by kernel_rfl) (by kernel_rfl) (fun _ _ _ h => h) (.inr ⟨by kernel_rfl, rfl⟩) HS0 ?_
      refine wpAnyH_take (i := 19) (v := undef) rfl (by kernel_rfl) (by kernel_rfl) (by kernel_rfl) (fun _ _ _ h => h) (.inr ⟨by kernel_rfl, rfl⟩) HS0 ?_
      refine wpAnyH_take (i := 20) (v := undef) rfl (by kernel_rfl) (by kernel_rfl) (by kernel_rfl) (fun _ _ _ h => h) (.inr ⟨by kernel_rfl, rfl⟩) HS0 ?_
      refine wpAnyH_take (i := 21) (v := undef) rfl (by kernel_rfl) (by kernel_rfl) (by kernel_rfl) (fun _ _ _ h => h) (.inr ⟨by kernel_rfl, rfl⟩) HS0 ?_
      refine wpAnyH_take (i := 22) (v := undef) rfl (by kernel_rfl) (by kernel_rfl) (by kernel_rfl) (fun _ _ _ h => h) (.inr ⟨by kernel_rfl, rfl⟩) HS0 ?_
      refine wpAnyH_take (i := 23) (v := (.bool true)) rfl (by kernel_rfl) (by kernel_rfl) (by kernel_rfl) (fun _ _ _ h => h) (.inl ⟨by kernel_rfl, fun w9 hS => by kernel_rfl⟩) HS0 ?_
      refine wpAnyH_take (i := 24) (v := (.bool true)) rfl (by kernel_rfl) (by kernel_rfl) (by kernel_rfl) (fun _ _ _ h => h) (.inl ⟨by kernel_rfl, fun w9 hS => by kernel_rfl⟩) HS0 ?_
      refine wpAnyH_done (by kernel_rfl) ?_ _
      go_wp2
      go_ret
      exact ⟨rfl, W4.out.trans (Below.mono HS0 W4.out.size)⟩
    | true =>
      go_wp2_with fail
      refine wp_region_held (S := fun w' => Below w4.heap.size w4 w') (by kernel_rfl) ?_
      change wpAnyH _ _ _ _ _ _ _ _ (World.drew w4)
      have HS0 : (fun w' => Below w4.heap.size w4 w') (World.drew w4) := below_drew w4
      refine wpAnyH_take (i := 0) (v := (.bool true)) rfl (by kernel_rfl) (by kernel_rfl) (by kernel_rfl) (fun _ _ _ h => h) (.inl ⟨by kernel_rfl, fun w9 hS => by kernel_rfl⟩) HS0 ?_
      refine wpAnyH_take (i := 1) (v := (.bool false)) rfl (by kernel_rfl) (by kernel_rfl) (by kernel_rfl) (fun _ _ _ h => h) (.inl ⟨by kernel_rfl, fun w9 hS => by kernel_rfl⟩) HS0 ?_
      refine wpAnyH_take (i := 2) (v := (.bool false)) rfl (by kernel_rfl) (by kernel_rfl) (by kernel_rfl) (fun _ _ _ h => h) (.inl ⟨by kernel_rfl, fun w9 hS => by kernel_rfl⟩) HS0 ?_
      refine wpAnyH_take (i := 3) (v := (.bool true)) rfl (by kernel_rfl) (by kernel_rfl) (by kernel_rfl) (fun _ _ _ h => h) (.inl ⟨by kernel_rfl, fun w9 hS => by kernel_rfl⟩) HS0 ?_
      refine wpAnyH_take (i := 4) (v := (.bool false)) rfl (by kernel_rfl) (by kernel_rfl) (by kernel_rfl) (fun _ _ _ h => h) (.inl ⟨by kernel_rfl, fun w9 hS => by kernel_rfl⟩) HS0 ?_
      refine wpAnyH_take (i := 5) (v := (.bool false)) rfl (by kernel_rfl) (by kernel_rfl) (by kernel_rfl) (fun _ _ _ h => h) (.inl ⟨by kernel_rfl, fun w9 hS => by kernel_rfl⟩) HS0 ?_
      refine wpAnyH_take (i := 6) (v := (.bool false)) rfl (by kernel_rfl) (by kernel_rfl) (by kernel_rfl) (fun _ _ _ h => h) (.inl ⟨by kernel_rfl, fun w9 hS => by kernel_rfl⟩) HS0 ?_
      refine wpAnyH_take (i := 7) (v := (.agg #[.int .i64 k, .slice a n cap])) rfl (by kernel_rfl) (by kernel_rfl) (by kernel_rfl) (fun _ _ _ h => h) (.inl ⟨by kernel_rfl, fun w9 hS => by have e1 := (hS.cell (p := ⟨w.heap.size, 0, none⟩) (Nat.lt_of_succ_lt hz1)).trans KW.out.1; have e2 := (hS.cell (p := ⟨w.heap.size, 1, none⟩) (Nat.lt_of_succ_lt hz1)).trans KW.out.2.1; go_simp⟩) HS0 ?_
      refine wpAnyH_take (i := 8) (v := (.agg #[.int .i64 k', .slice a' n' cap'])) rfl (by kernel_rfl) (by kernel_rfl) (by kernel_rfl) (fun _ _ _ h => h) (.inl ⟨by kernel_rfl, fun w9 hS => by have e1 := (hS.cell (p := ⟨w.heap.size + 1, 0, none⟩) hz1).trans KW.out.2.2.1; have e2 := (hS.cell (p := ⟨w.heap.size + 1, 1, none⟩) hz1).trans KW.out.2.2.2; go_simp⟩) HS0 ?_
      refine wpAnyH_take (i := 10) (v := (.slice a2 n2 c2)) rfl (by kernel_rfl) (by kernel_rfl) (by kernel_rfl) (fun _ _ _ h => h) (.inl ⟨by kernel_rfl, fun w9 hS => by kernel_rfl⟩) HS0 ?_
      refine wpAnyH_take (i := 11) (v := (.string sa)) rfl (by kernel_rfl) (by kernel_rfl) (by kernel_rfl) (fun _ _ _ h => h) (.inl ⟨by kernel_rfl, fun w9 hS => by have k := conv_row (RA.out.below hS) l2.out; rw [HSA.out] at k; go_simp⟩) HS0 ?_
      refine wpAnyH_take (i := 12) (v := (.slice a3 n3 c3)) rfl (by kernel_rfl) (by kernel_rfl) (by kernel_rfl) (fun _ _ _ h => h) (.inl ⟨by kernel_rfl, fun w9 hS => by kernel_rfl⟩) HS0 ?_
      refine wpAnyH_take (i := 13) (v := (.string sb)) rfl (by kernel_rfl) (by kernel_rfl) (by kernel_rfl) (fun _ _ _ h => h) (.inl ⟨by kernel_rfl, fun w9 hS => by have k := conv_row (RB.out.below hS) l3.out; rw [HSB.out] at k; go_simp⟩) HS0 ?_
      refine wpAnyH_take (i := 14) (v := (.bool d)) rfl (by kernel_rfl) (by kernel_rfl) (by kernel_rfl) (fun _ _ _ h => h) (.inl ⟨by kernel_rfl, fun w9 hS => (show _ = Result.ok (.value (.bool (sa.toList == sb.toList))) w9 by kernel_rfl).trans (by rw [show (sa.toList == sb.toList) = d by simpa using HEQ.out])⟩) HS0 ?_
      refine wpAnyH_call (i := 9) (f := 20) (args := #[.agg #[.int .i64 k, .slice a n cap], .agg #[.int .i64 k', .slice a' n' cap']]) (by kernel_rfl) rfl (by kernel_rfl) (by kernel_rfl) (same_any k k' a a' n n' cap cap' B B' _ HL.out HL'.out (RR.out.below HS0) (RR'.out.below HS0)) ?_
      rintro e w5 ⟨rfl, hbw5⟩
      rw [HD.out]
      have HS1 : (fun w' => Below w4.heap.size w4 w') w5 := Below.trans HS0 (hbw5.mono (Below.size HS0))
      refine ⟨_, rfl, HS1, ?_⟩
      refine wpAnyH_take (i := 15) (v := (.bool true)) rfl (by kernel_rfl) (by kernel_rfl) (by kernel_rfl) (fun _ _ _ h => h) (.inl ⟨by kernel_rfl, fun w9 hS => (show _ = Result.ok (.value (.bool (d == d))) w9 by kernel_rfl).trans (by rw [beq_self_eq_true])⟩) HS1 ?_
      refine wpAnyH_take (i := 16) (v := (.bool true)) rfl (by kernel_rfl) (by kernel_rfl) (by kernel_rfl) (fun _ _ _ h => h) (.inl ⟨by kernel_rfl, fun w9 hS => by kernel_rfl⟩) HS1 ?_
      refine wpAnyH_take (i := 17) (v := (.agg #[.int .i64 k, .slice a n cap])) rfl (by kernel_rfl) (by kernel_rfl) (by kernel_rfl) (fun _ _ _ h => h) (.inl ⟨by kernel_rfl, fun w9 hS => by have e1 := (hS.cell (p := ⟨w.heap.size, 0, none⟩) (Nat.lt_of_succ_lt hz1)).trans KW.out.1; have e2 := (hS.cell (p := ⟨w.heap.size, 1, none⟩) (Nat.lt_of_succ_lt hz1)).trans KW.out.2.1; go_simp⟩) HS1 ?_
      refine wpAnyH_take (i := 18) (v := (.agg #[.int .i64 k', .slice a' n' cap'])) rfl (by kernel_rfl) (by kernel_rfl) (by kernel_rfl) (fun _ _ _ h => h) (.inl ⟨by kernel_rfl, fun w9 hS => by have e1 := (hS.cell (p := ⟨w.heap.size + 1, 0, none⟩) hz1).trans KW.out.2.2.1; have e2 := (hS.cell (p := ⟨w.heap.size + 1, 1, none⟩) hz1).trans KW.out.2.2.2; go_simp⟩) HS1 ?_
      refine wpAnyH_take (i := 20) (v := (.bool d)) rfl (by kernel_rfl) (by kernel_rfl) (by kernel_rfl) (fun _ _ _ h => h) (.inl ⟨by kernel_rfl, fun w9 hS => by kernel_rfl⟩) HS1 ?_
      refine wpAnyH_call (i := 19) (f := 20) (args := #[.agg #[.int .i64 k, .slice a n cap], .agg #[.int .i64 k', .slice a' n' cap']]) (by kernel_rfl) rfl (by kernel_rfl) (by kernel_rfl) (same_any k k' a a' n n' cap cap' B B' _ HL.out HL'.out (RR.out.below HS1) (RR'.out.below HS1)) ?_
      rintro e w6 ⟨rfl, hbw6⟩
      rw [HD.out]
      have HS2 : (fun w' => Below w4.heap.size w4 w') w6 := Below.trans HS1 (hbw6.mono (Below.size HS1))
      refine ⟨_, rfl, HS2, ?_⟩
      refine wpAnyH_take (i := 21) (v := (.bool true)) rfl (by kernel_rfl) (by kernel_rfl) (by kernel_rfl) (fun _ _ _ h => h) (.inl ⟨by kernel_rfl, fun w9 hS => (show _ = Result.ok (.value (.bool (d == d))) w9 by kernel_rfl).trans (by rw [beq_self_eq_true])⟩) HS2 ?_
      refine wpAnyH_take (i := 22) (v := (.bool true)) rfl (by kernel_rfl) (by kernel_rfl) (by kernel_rfl) (fun _ _ _ h => h) (.inl ⟨by kernel_rfl, fun w9 hS => by kernel_rfl⟩) HS2 ?_
      refine wpAnyH_take (i := 23) (v := (.bool true)) rfl (by kernel_rfl) (by kernel_rfl) (by kernel_rfl) (fun _ _ _ h => h) (.inl ⟨by kernel_rfl, fun w9 hS => by kernel_rfl⟩) HS2 ?_
      refine wpAnyH_take (i := 24) (v := (.bool true)) rfl (by kernel_rfl) (by kernel_rfl) (by kernel_rfl) (fun _ _ _ h => h) (.inl ⟨by kernel_rfl, fun w9 hS => by kernel_rfl⟩) HS2 ?_
      refine wpAnyH_done (by kernel_rfl) ?_ _
      go_wp2
      go_ret
      exact ⟨rfl, W4.out.trans (Below.mono HS2 W4.out.size)⟩

theorem same_law (k : Int) (a : Option Addr) (n cap : Nat) (z : List Int) (k' : Int) (a' : Option Addr) (n' cap' : Nat) (z' : List Int) (w : World) (h : IsRow .u8 w a n cap z) (h' : IsRow .u8 w a' n' cap' z') :
    Calls Try.prog 9 #[.agg #[.int .i64 k, .slice a n cap], .agg #[.int .i64 k', .slice a' n' cap']] w fun e w' => e = .returned (.bool true) ∧ Below w.heap.size w w' := by
  by_cases hb : 1000 < n
  · exact same_big k a n cap k' a' n' cap' w (.inl hb)
  · by_cases hb' : 1000 < n'
    · exact same_big k a n cap k' a' n' cap' w (.inr ⟨by omega, hb'⟩)
    · exact same_in k a n cap k' a' n' cap' _ _ _ _ w h.rowIn.2 h'.rowIn.2 h.rowIn.1 h'.rowIn.1 h.nil h'.nil (by omega) (by omega) rfl rfl (fun h1 h2 => ⟨of_decide_eq_true (by rw [← R.put_ok_iff]; exact h1), of_decide_eq_true (by rw [← R.put_ok_iff]; exact h2)⟩)
end Go.Proofs.Ytnpgjndhkmpciaa
