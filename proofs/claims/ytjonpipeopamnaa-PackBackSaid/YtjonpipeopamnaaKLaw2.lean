/-
  Walks of moorings/mooringslaw03.PackWidth and moorings/mooringslaw03.PackApart: for every input they return true.
-/
import Derived.Test.YtjonpipeopamnaaKLaw1
namespace Go.Proofs.Ytjonpipeopamnaa
open Go.RowKit

theorem width_v (a : Option Addr) (len cap : Nat) (L : List Int) (t : Int) (h : K.width L = t) (w : World) (hl : L.length = len) (hr : RowIn .i64 w a cap L) : Calls Try.prog 15 #[.slice a len cap] w fun e w' => e = .returned (.int .i64 t) ∧ Below w.heap.size w w' := by
  rw [← h]; exact width_any a len cap L w hl hr

theorem K.pack_not {L : List Int} {v : Int} (h : ¬ K.isd (2 ^ 32) L) : K.pack L v = none := by
  cases hp : K.pack L v with
  | none => rfl
  | some b =>
    obtain ⟨u, rfl, hu, hq⟩ := K.pack_w hp
    exact absurd (K.isd_mono (K.pack_some.1 hq).2.2.1 hu) h
theorem K.pack_below {L : List Int} {u : Nat} (h : K.isd (2 ^ 32) L) (hw : K.width L = u) : K.pack L ((u : Int) - 1) = none := by
  cases hp : K.pack L ((u : Int) - 1) with
  | none => rfl
  | some b =>
    obtain ⟨t, ht, hu, hq⟩ := K.pack_w hp
    have := (K.width_le (w := t) h hu).2 (K.pack_some.1 hq).2.2.1
    omega
theorem K.pack_at {L : List Int} {u : Nat} {v : Int} (h : K.isd (2 ^ 32) L) (hw : K.width L = u) (hl : L.length ≤ 400) : (K.pack L v).isSome = decide ((u : Int) ≤ v ∧ v ≤ 32) := by
  by_cases hv : 0 ≤ v ∧ v ≤ 32
  · obtain ⟨t, rfl⟩ : ∃ t : Nat, v = t := ⟨v.toNat, by omega⟩
    rw [K.pack_isSome, decide_eq_decide]
    have h1 := K.width_le (w := t) h (by omega)
    rw [hw] at h1
    constructor
    · rintro ⟨_, h3, h4⟩; exact ⟨h1.2 h4, by omega⟩
    · rintro ⟨h3, h4⟩; exact ⟨hl, by omega, h1.1 h3⟩
  · rw [K.pack_neg (by omega)]
    exact (decide_eq_false (by omega)).symm

theorem width_long (a0 : Option Addr) (l0 c0 : Nat) (v : Int) (w : World) (h : 400 < l0) :
    Calls Try.prog 5 #[.slice a0 l0 c0, .int .i64 v] w fun e w' => e = .returned (.bool true) ∧ Below w.heap.size w w' := by
  have d1 : decide (400 < (l0 : Int)) = true := by simp; omega
  go_enter Try.func5, Try.ntmps5
  go_wp2_with fail
  refine (awake_any _).mono ?_
  rintro e w1 ⟨rfl, hb1⟩
  have W1 := Lib.hid hb1
  clear hb1
  go_wp2
  go_ret
  exact ⟨rfl, W1.out⟩

set_option maxRecDepth 100000 in
set_option maxHeartbeats 2000000 in
theorem width_bad (a0 : Option Addr) (l0 c0 : Nat) (L : List Int) (v : Int) (w : World) (hl : L.length = l0) (hr : RowIn .i64 w a0 c0 L) (h4 : l0 ≤ 400) (hn : ¬ K.isd (2 ^ 32) L) :
    Calls Try.prog 5 #[.slice a0 l0 c0, .int .i64 v] w fun e w' => e = .returned (.bool true) ∧ Below w.heap.size w w' := by
  have d1 : decide (400 < (l0 : Int)) = false := by simp; omega
  have HW := Lib.hid (K.width_no hn)
  have HP : Hid (∀ v, (K.pack L v).isSome = false) := Lib.hid fun v => by rw [K.pack_not hn]; rfl
  have L0 := Lib.hid hl
  have R0 := Lib.hid hr
  clear hl hr hn
  go_enter Try.func5, Try.ntmps5
  go_wp2_with fail
  refine (awake_any _).mono ?_
  rintro e w1 ⟨rfl, hb1⟩
  have W1 := Lib.hid hb1
  clear hb1
  go_wp2_with fail
  refine (width_v _ l0 _ L (-1) HW.out _ L0.out (R0.out.below W1.out)).mono ?_
  rintro e w2 ⟨rfl, hb2⟩
  have B2 := Lib.hid hb2
  have W2 := Lib.hid (W1.out.trans (hb2.mono W1.out.size))
  clear hb2
  go_wp2_with fail
  refine (packRow_any _ l0 _ L (-1) _ L0.out (R0.out.below W2.out)).mono ?_
  rintro e w3 ⟨a3, c3, n3, rfl, l3, r3, hb3⟩
  rw [HP.out]
  have B3 := Lib.hid hb3
  have W3 := Lib.hid (W2.out.trans (hb3.mono W2.out.size))
  clear hb3
  go_wp2_with fail
  refine (packRow_any _ l0 _ L (-2) _ L0.out (R0.out.below W3.out)).mono ?_
  rintro e w4 ⟨a4, c4, n4, rfl, l4, r4, hb4⟩
  rw [HP.out]
  have B4 := Lib.hid hb4
  have W4 := Lib.hid (W3.out.trans (hb4.mono W3.out.size))
  clear hb4
  go_wp2_with fail
  refine (packRow_any _ l0 _ L v _ L0.out (R0.out.below W4.out)).mono ?_
  rintro e w5 ⟨a5, c5, n5, rfl, l5, r5, hb5⟩
  rw [HP.out]
  have B5 := Lib.hid hb5
  have W5 := Lib.hid (W4.out.trans (hb5.mono W4.out.size))
  clear hb5
  go_wp2
  go_ret
  exact ⟨rfl, W5.out⟩

set_option maxRecDepth 100000 in
set_option maxHeartbeats 2000000 in
theorem width_good (a0 : Option Addr) (l0 c0 : Nat) (L : List Int) (v : Int) (w : World) (hl : L.length = l0) (hr : RowIn .i64 w a0 c0 L) (h4 : l0 ≤ 400) (hn : K.isd (2 ^ 32) L) :
    Calls Try.prog 5 #[.slice a0 l0 c0, .int .i64 v] w fun e w' => e = .returned (.bool true) ∧ Below w.heap.size w w' := by
  have d1 : decide (400 < (l0 : Int)) = false := by simp; omega
  obtain ⟨u, hu, hu32⟩ := K.width_in hn
  have HW := Lib.hid hu
  have HP1 : Hid ((K.pack L u).isSome = true) := Lib.hid (by rw [K.pack_at hn hu (by omega)]; exact decide_eq_true (by omega))
  have HP2 : Hid ((K.pack L ((u : Int) - 1)).isSome = false) := Lib.hid (by rw [K.pack_below hn hu]; rfl)
  obtain ⟨ok, hok⟩ : ∃ ok, (K.pack L v).isSome = ok := ⟨_, rfl⟩
  have HP3 := Lib.hid hok
  rw [K.pack_at hn hu (by omega)] at hok
  have hc : (v < u ∧ ok = false) ∨ ((u : Int) ≤ v ∧ v ≤ 32 ∧ ok = true) ∨ ((u : Int) ≤ v ∧ 32 < v ∧ ok = false) := by
    by_cases h1 : v < u
    · exact .inl ⟨h1, by rw [← hok]; exact decide_eq_false (by omega)⟩
    · by_cases h2 : v ≤ 32
      · exact .inr (.inl ⟨by omega, h2, by rw [← hok]; exact decide_eq_true (by omega)⟩)
      · exact .inr (.inr ⟨by omega, by omega, by rw [← hok]; exact decide_eq_false (by omega)⟩)
  have L0 := Lib.hid hl
  have R0 := Lib.hid hr
  clear hl hr hn hok hu
  go_enter Try.func5, Try.ntmps5
  go_wp2_with fail
  refine (awake_any _).mono ?_
  rintro e w1 ⟨rfl, hb1⟩
  have W1 := Lib.hid hb1
  clear hb1
  go_wp2_with fail
  refine (width_v _ l0 _ L u HW.out _ L0.out (R0.out.below W1.out)).mono ?_
  rintro e w2 ⟨rfl, hb2⟩
  have B2 := Lib.hid hb2
  have W2 := Lib.hid (W1.out.trans (hb2.mono W1.out.size))
  clear hb2
  go_wp2_with fail
  refine (packRow_any _ l0 _ L u _ L0.out (R0.out.below W2.out)).mono ?_
  rintro e w3 ⟨a3, c3, n3, rfl, l3, r3, hb3⟩
  rw [HP1.out]
  have B3 := Lib.hid hb3
  have W3 := Lib.hid (W2.out.trans (hb3.mono W2.out.size))
  clear hb3
  go_wp2_with fail
  refine (packRow_any _ l0 _ L _ _ L0.out (R0.out.below W3.out)).mono ?_
  rintro e w4 ⟨a4, c4, n4, rfl, l4, r4, hb4⟩
  rw [HP2.out]
  have B4 := Lib.hid hb4
  have W4 := Lib.hid (W3.out.trans (hb4.mono W3.out.size))
  clear hb4
  go_wp2_with fail
  refine (packRow_any _ l0 _ L v _ L0.out (R0.out.below W4.out)).mono ?_
  rintro e w5 ⟨a5, c5, n5, rfl, l5, r5, hb5⟩
  rw [HP3.out]
  have B5 := Lib.hid hb5
  have W5 := Lib.hid (W4.out.trans (hb5.mono W4.out.size))
  clear hb5
  rcases hc with ⟨h1, rfl⟩ | ⟨h1, h2, rfl⟩ | ⟨h1, h2, rfl⟩
  all_goals
    try (have d9 : decide (v ≤ 32) = false := by simp; omega)
    go_wp2
    go_ret
    exact ⟨rfl, W5.out⟩

theorem width_law (a0 : Option Addr) (l0 c0 : Nat) (z0 : List Int) (v : Int) (w : World) (w0 : IsRow .i64 w a0 l0 c0 z0) :
    Calls Try.prog 5 #[.slice a0 l0 c0, .int .i64 v] w fun e w' => e = .returned (.bool true) ∧ Below w.heap.size w w' := by
  by_cases h0 : 400 < l0
  · exact width_long a0 l0 c0 v w h0
  · by_cases hn : K.isd (2 ^ 32) (z0.take l0)
    · exact width_good a0 l0 c0 _ v w w0.rowIn.2 w0.rowIn.1 (by omega) hn
    · exact width_bad a0 l0 c0 _ v w w0.rowIn.2 w0.rowIn.1 (by omega) hn

theorem apart_short (a0 a1 : Option Addr) (l0 l1 c0 c1 : Nat) (v : Int) (w : World) (h : 400 < l0 ∨ (l0 ≤ 400 ∧ l0 ≠ l1)) :
    Calls Try.prog 8 #[.slice a0 l0 c0, .slice a1 l1 c1, .int .i64 v] w fun e w' => e = .returned (.bool true) ∧ Below w.heap.size w w' := by
  rcases h with h1 | ⟨h1, h2⟩
  · have d1 : decide (400 < (l0 : Int)) = true := by simp; omega
    go_enter Try.func8, Try.ntmps8
    go_wp2_with fail
    refine (awake_any _).mono ?_
    rintro e w1 ⟨rfl, hb1⟩
    have W1 := Lib.hid hb1
    clear hb1
    go_wp2
    go_ret
    exact ⟨rfl, W1.out⟩
  · have d1 : decide (400 < (l0 : Int)) = false := by simp; omega
    have d2 : ((l0 : Int) != (l1 : Int)) = true := by simp; omega
    go_enter Try.func8, Try.ntmps8
    go_wp2_with fail
    refine (awake_any _).mono ?_
    rintro e w1 ⟨rfl, hb1⟩
    have W1 := Lib.hid hb1
    clear hb1
    go_wp2
    go_ret
    exact ⟨rfl, W1.out⟩

set_option maxRecDepth 100000 in
set_option maxHeartbeats 4000000 in
theorem apart_in (a0 a1 : Option Addr) (l0 c0 c1 : Nat) (L M : List Int) (v : Int) (w : World) (h0 : L.length = l0) (h1 : M.length = l0) (r0 : RowIn .i64 w a0 c0 L) (r1 : RowIn .i64 w a1 c1 M) (hl0 : l0 ≤ 400) :
    Calls Try.prog 8 #[.slice a0 l0 c0, .slice a1 l0 c1, .int .i64 v] w fun e w' => e = .returned (.bool true) ∧ Below w.heap.size w w' := by
  have d1 : decide (400 < (l0 : Int)) = false := by simp; omega
  have d2 : ((l0 : Int) != (l0 : Int)) = false := by simp
  obtain ⟨is, his⟩ : ∃ b, (K.pack L v).isSome = b := ⟨_, rfl⟩
  obtain ⟨can, hcan⟩ : ∃ b, (K.pack M v).isSome = b := ⟨_, rfl⟩
  obtain ⟨same, hsame⟩ : ∃ b, decide (L = M) = b := ⟨_, rfl⟩
  obtain ⟨has, hhas⟩ : ∃ b, (K.pack L 32).isSome = b := ⟨_, rfl⟩
  obtain ⟨fits, hfits⟩ : ∃ b, (K.unpack ((K.pack L 32).getD []) l0 32).isSome = b := ⟨_, rfl⟩
  obtain ⟨back, hback⟩ : ∃ b, decide ((K.unpack ((K.pack L 32).getD []) l0 32).getD [] = L) = b := ⟨_, rfl⟩
  obtain ⟨sa, hsa⟩ : ∃ s, strOf ((K.pack L v).getD []) = s := ⟨_, rfl⟩
  obtain ⟨sb, hsb⟩ : ∃ s, strOf ((K.pack M v).getD []) = s := ⟨_, rfl⟩
  have F : is = false ∨ (is = true ∧ has = true ∧ fits = true ∧ back = true ∧ (can = false ∨ (can = true ∧ (sa.toList == sb.toList) = same ∧ ((sa.toList == sb.toList) == same) = true))) := by
    cases hp : K.pack L v with
    | none => rw [hp] at his; exact .inl his.symm
    | some x =>
      obtain ⟨u, rfl, _, _⟩ := K.pack_w hp
      obtain ⟨c, hc⟩ := K.pack_32 hp
      have hk := K.back hc
      rw [h0] at hk
      have hc' : K.pack L 32 = some c := hc
      have hk' : K.unpack c l0 32 = some L := hk
      refine .inr ⟨by rw [← his, hp]; rfl, by rw [← hhas, hc']; rfl, by rw [← hfits, hc', Option.getD_some, hk']; rfl, by rw [← hback, hc', Option.getD_some, hk', Option.getD_some]; exact decide_eq_true rfl, ?_⟩
      cases hq : K.pack M u with
      | none => rw [hq] at hcan; exact .inl hcan.symm
      | some y =>
        have hwx : ∀ c ∈ x, (Lit.int .u8 c).wf = true := by have := K.pack_wf L u; rwa [hp] at this
        have hwy : ∀ c ∈ y, (Lit.int .u8 c).wf = true := by have := K.pack_wf M u; rwa [hq] at this
        have e : (sa.toList == sb.toList) = same := by
          rw [← hsa, ← hsb, hp, hq, Option.getD_some, Option.getD_some, str_beq hwx hwy, ← hsame, decide_eq_decide]
          constructor
          · intro h; rw [h] at hp; exact K.pack_inj hp hq (by omega)
          · intro h; rw [h] at hp; rw [hp] at hq; exact Option.some.inj hq
        exact .inr ⟨by rw [← hcan, hq]; rfl, e, by rw [e]; simp⟩
  have Kis := Lib.hid his
  have Kcan := Lib.hid hcan
  have Ksame := Lib.hid hsame
  have Khas := Lib.hid hhas
  have Kfits := Lib.hid hfits
  have Kback := Lib.hid hback
  have Ksa := Lib.hid hsa
  have Ksb := Lib.hid hsb
  have L0 := Lib.hid h0
  have L1 := Lib.hid h1
  have R0 := Lib.hid r0
  have R1 := Lib.hid r1
  clear his hcan hsame hhas hfits hback hsa hsb h0 h1 r0 r1
  go_enter Try.func8, Try.ntmps8
  go_wp2_with fail
  refine (awake_any _).mono ?_
  rintro e w1 ⟨rfl, hb1⟩
  have W1 := Lib.hid hb1
  clear hb1
  go_wp2_with fail
  refine (packRow_any _ l0 _ L v _ L0.out (R0.out.below W1.out) ).mono ?_
  rintro e w2 ⟨a2, c2, n2, rfl, l2, r2, hb2⟩
  rw [Kis.out]
  have B2 := Lib.hid hb2
  have W2 := Lib.hid (W1.out.trans (hb2.mono W1.out.size))
  clear hb2
  go_wp2_with fail
  refine (packRow_any _ l0 _ M v _ L1.out (R1.out.below W2.out) ).mono ?_
  rintro e w3 ⟨a3, c3, n3, rfl, l3, r3, hb3⟩
  rw [Kcan.out]
  have B3 := Lib.hid hb3
  have W3 := Lib.hid (W2.out.trans (hb3.mono W2.out.size))
  clear hb3
  go_wp2_with fail
  refine (ints_any _ _ l0 l0 _ _ L M _ L0.out L1.out (R0.out.below W3.out) (R1.out.below W3.out)).mono ?_
  rintro e w4 ⟨rfl, hb4⟩
  rw [Ksame.out]
  have B4 := Lib.hid hb4
  have W4 := Lib.hid (W3.out.trans (hb4.mono W3.out.size))
  clear hb4
  go_wp2_with fail
  refine (packRow_any _ l0 _ L 32 _ L0.out (R0.out.below W4.out) ).mono ?_
  rintro e w5 ⟨a5, c5, n5, rfl, l5, r5, hb5⟩
  rw [Khas.out]
  have B5 := Lib.hid hb5
  have W5 := Lib.hid (W4.out.trans (hb5.mono W4.out.size))
  clear hb5
  go_wp2_with fail
  refine (unpackRow_any _ n5 _ _ l0 32 _ l5.out r5.out).mono ?_
  rintro e w6 ⟨a6, c6, n6, rfl, l6, r6, hb6⟩
  rw [Kfits.out]
  have B6 := Lib.hid hb6
  have W6 := Lib.hid (W5.out.trans (hb6.mono W5.out.size))
  clear hb6
  go_wp2_with fail
  refine (ints_any _ _ n6 l0 _ _ _ L _ l6.out L0.out r6.out (R0.out.below W6.out)).mono ?_
  rintro e w7 ⟨rfl, hb7⟩
  rw [Kback.out]
  have B7 := Lib.hid hb7
  have W7 := Lib.hid (W6.out.trans (hb7.mono W6.out.size))
  clear hb7
  have ca := conv_row (((((r2.out.below B3.out).below B4.out).below B5.out).below B6.out).below B7.out) l2.out
  have cb := conv_row ((((r3.out.below B4.out).below B5.out).below B6.out).below B7.out) l3.out
  rw [Ksa.out] at ca
  rw [Ksb.out] at cb
  rcases F with rfl | ⟨rfl, rfl, rfl, rfl, rfl | ⟨rfl, e1, e2⟩⟩
  all_goals
    go_wp2
    go_ret
    exact ⟨rfl, W7.out⟩

theorem apart_law (a0 a1 : Option Addr) (l0 l1 c0 c1 : Nat) (z0 z1 : List Int) (v : Int) (w : World) (w0 : IsRow .i64 w a0 l0 c0 z0) (w1 : IsRow .i64 w a1 l1 c1 z1) :
    Calls Try.prog 8 #[.slice a0 l0 c0, .slice a1 l1 c1, .int .i64 v] w fun e w' => e = .returned (.bool true) ∧ Below w.heap.size w w' := by
  by_cases h0 : 400 < l0
  · exact apart_short a0 a1 l0 l1 c0 c1 v w (.inl h0)
  · by_cases h1 : l0 = l1
    · subst h1
      exact apart_in a0 a1 l0 c0 c1 _ _ v w w0.rowIn.2 w1.rowIn.2 w0.rowIn.1 w1.rowIn.1 (by omega)
    · exact apart_short a0 a1 l0 l1 c0 c1 v w (.inr ⟨by omega, h1⟩)
end Go.Proofs.Ytjonpipeopamnaa
