/-
  Walks of moorings/mooringslaw03.PackBack and moorings/mooringslaw03.PackJoins: for every input they return true.
-/
import Derived.Test.YtjonpipeopamnaaKLaw2
namespace Go.Proofs.Ytjonpipeopamnaa
open Go.RowKit

theorem back_short (a0 a2 : Option Addr) (l0 l2 c0 c2 : Nat) (v n : Int) (w : World) (h : 400 < l0 ∨ (l0 ≤ 400 ∧ 1700 < l2)) :
    Calls Try.prog 4 #[.slice a0 l0 c0, .int .i64 v, .slice a2 l2 c2, .int .i64 n] w fun e w' => e = .returned (.bool true) ∧ Below w.heap.size w w' := by
  rcases h with h1 | ⟨h1, h2⟩
  · have d1 : decide (400 < (l0 : Int)) = true := by simp; omega
    go_enter Try.func4, Try.ntmps4
    go_wp2_with fail
    refine (awake_any _).mono ?_
    rintro e w1 ⟨rfl, hb1⟩
    have W1 := Lib.hid hb1
    clear hb1
    go_wp2
    go_ret
    exact ⟨rfl, W1.out⟩
  · have d1 : decide (400 < (l0 : Int)) = false := by simp; omega
    have d2 : decide (1700 < (l2 : Int)) = true := by simp; omega
    go_enter Try.func4, Try.ntmps4
    go_wp2_with fail
    refine (awake_any _).mono ?_
    rintro e w1 ⟨rfl, hb1⟩
    have W1 := Lib.hid hb1
    clear hb1
    go_wp2
    go_ret
    exact ⟨rfl, W1.out⟩

theorem K.unpack_more {L b : List Int} {u : Nat} (h : K.pack L u = some b) (hu : 8 ≤ u) : K.unpack b ((L.length : Int) + 1) u = none := by
  cases hp : K.unpack b ((L.length : Int) + 1) u with
  | none => rfl
  | some x =>
    have h1 := K.unpack_size hp
    obtain ⟨m, t, hm, ht, hm4, ht3, _⟩ := K.unpack_w hp
    obtain rfl : u = t := by omega
    obtain rfl : m = L.length + 1 := by omega
    have h2 := K.size_in (n := L.length + 1) (w := u) hm4 ht3
    have h3 : K.size ((L.length : Int) + 1) u = (((L.length + 1) * u + 7) / 8 : Nat) := h2
    rw [h3, K.pack_len h, Nat.add_mul, Nat.one_mul] at h1
    omega

set_option maxRecDepth 100000 in
set_option maxHeartbeats 4000000 in
theorem back_in (a0 a2 : Option Addr) (l0 l2 c0 c2 : Nat) (L D : List Int) (v n : Int) (w : World) (h0 : L.length = l0) (h2 : D.length = l2) (r0 : RowIn .i64 w a0 c0 L) (r2 : RowIn .u8 w a2 c2 D) (hl0 : l0 ≤ 400) (hl2 : l2 ≤ 1700) :
    Calls Try.prog 4 #[.slice a0 l0 c0, .int .i64 v, .slice a2 l2 c2, .int .i64 n] w fun e w' => e = .returned (.bool true) ∧ Below w.heap.size w w' := by
  have d1 : decide (400 < (l0 : Int)) = false := by simp; omega
  have d2 : decide (1700 < (l2 : Int)) = false := by simp; omega
  obtain ⟨is, his⟩ : ∃ b, (K.pack L v).isSome = b := ⟨_, rfl⟩
  obtain ⟨can, hcan⟩ : ∃ b, (K.unpack ((K.pack L v).getD []) l0 v).isSome = b := ⟨_, rfl⟩
  obtain ⟨same, hsame⟩ : ∃ b, decide ((K.unpack ((K.pack L v).getD []) l0 v).getD [] = L) = b := ⟨_, rfl⟩
  obtain ⟨sz, hsz⟩ : ∃ s, K.size l0 v = s := ⟨_, rfl⟩
  obtain ⟨has, hhas⟩ : ∃ b, (K.unpack D n v).isSome = b := ⟨_, rfl⟩
  obtain ⟨fits, hfits⟩ : ∃ b, (K.pack ((K.unpack D n v).getD []) v).isSome = b := ⟨_, rfl⟩
  obtain ⟨more, hmore⟩ : ∃ b, (K.unpack ((K.pack L v).getD []) ((l0 : Int) + 1) v).isSome = b := ⟨_, rfl⟩
  obtain ⟨sq, hsq⟩ : ∃ s, strOf ((K.pack ((K.unpack D n v).getD []) v).getD []) = s := ⟨_, rfl⟩
  obtain ⟨sb, hsb⟩ : ∃ s, strOf D = s := ⟨_, rfl⟩
  have F1 : is = false ∨ (is = true ∧ can = true ∧ same = true ∧ Hid (sz = ((K.pack L v).getD []).length) ∧ (v < 8 ∨ (8 ≤ v ∧ more = false))) := by
    cases hp : K.pack L v with
    | none => rw [hp] at his; exact .inl his.symm
    | some x =>
      obtain ⟨u, rfl, hu, _⟩ := K.pack_w hp
      have hk := K.back hp
      rw [h0] at hk
      refine .inr ⟨by rw [← his, hp]; rfl, by rw [← hcan, hp, Option.getD_some, hk]; rfl, by rw [← hsame, hp, Option.getD_some, hk, Option.getD_some]; exact decide_eq_true rfl, Lib.hid ?_, ?_⟩
      · rw [← hsz, Option.getD_some, K.pack_len hp, h0, K.size_in hl0 hu]
      · by_cases h8 : (u : Int) < 8
        · exact .inl h8
        · refine .inr ⟨by omega, ?_⟩
          have := K.unpack_more hp (by omega)
          rw [h0] at this
          rw [← hmore, hp, Option.getD_some, this]
          rfl
  have F2 : has = false ∨ (has = true ∧ fits = true ∧ (sq.toList == sb.toList) = true ∧ (sq.toList != sb.toList) = false ∧ Hid ((((K.unpack D n v).getD []).length : Int) = n)) := by
    cases hp : K.unpack D n v with
    | none => rw [hp] at hhas; exact .inl hhas.symm
    | some x =>
      obtain ⟨m, u, rfl, rfl, hm, hu, hp'⟩ := K.unpack_w hp
      obtain ⟨h3, h4⟩ := (K.unpack_some (K.isd_byte r2.2.1)).1 hp
      refine .inr ⟨by rw [← hhas, hp]; rfl, by rw [← hfits, hp, Option.getD_some, h3]; rfl, ?_, ?_, Lib.hid (by rw [Option.getD_some, h4])⟩
      · rw [← hsq, ← hsb, hp, Option.getD_some, h3, Option.getD_some]; simp
      · rw [← hsq, ← hsb, hp, Option.getD_some, h3, Option.getD_some]; simp
  have Kis := Lib.hid his
  have Kcan := Lib.hid hcan
  have Ksame := Lib.hid hsame
  have Ksz := Lib.hid hsz
  have Khas := Lib.hid hhas
  have Kfits := Lib.hid hfits
  have Kmore := Lib.hid hmore
  have Ksq := Lib.hid hsq
  have Ksb := Lib.hid hsb
  have L0 := Lib.hid h0
  have L2 := Lib.hid h2
  have R0 := Lib.hid r0
  have R2 := Lib.hid r2
  clear his hcan hsame hsz hhas hfits hmore hsq hsb h0 h2 r0 r2
  go_enter Try.func4, Try.ntmps4
  go_wp2_with fail
  refine (awake_any _).mono ?_
  rintro e w1 ⟨rfl, hb1⟩
  have W1 := Lib.hid hb1
  clear hb1
  go_wp2_with fail
  refine (packRow_any _ l0 _ L v _ L0.out (R0.out.below W1.out)).mono ?_
  rintro e w2 ⟨ap, cp, np, rfl, lp, rp, hb2⟩
  rw [Kis.out]
  have B2 := Lib.hid hb2
  have W2 := Lib.hid (W1.out.trans (hb2.mono W1.out.size))
  clear hb2
  go_wp2_with fail
  refine (unpackRow_any _ np _ _ l0 v _ lp.out rp.out).mono ?_
  rintro e w3 ⟨a3, c3, n3, rfl, l3, r3, hb3⟩
  rw [Kcan.out]
  have B3 := Lib.hid hb3
  have W3 := Lib.hid (W2.out.trans (hb3.mono W2.out.size))
  clear hb3
  go_wp2_with fail
  refine (ints_any _ _ n3 l0 _ _ _ L _ l3.out L0.out r3.out (R0.out.below W3.out)).mono ?_
  rintro e w4 ⟨rfl, hb4⟩
  rw [Ksame.out]
  have B4 := Lib.hid hb4
  have W4 := Lib.hid (W3.out.trans (hb4.mono W3.out.size))
  clear hb4
  rcases F1 with rfl | ⟨rfl, rfl, rfl, e0, e5⟩
  · go_wp2_with fail
    refine (unpackRow_any _ l2 _ D n v _ L2.out (R2.out.below W4.out)).mono ?_
    rintro e w5 ⟨a5, c5, n5, rfl, l5, r5, hb5⟩
    rw [Khas.out]
    have B5 := Lib.hid hb5
    have W5 := Lib.hid (W4.out.trans (hb5.mono W4.out.size))
    clear hb5
    go_wp2_with fail
    refine (packRow_any _ n5 _ _ v _ l5.out r5.out).mono ?_
    rintro e w6 ⟨a6, c6, n6, rfl, l6, r6, hb6⟩
    rw [Kfits.out]
    have B6 := Lib.hid hb6
    have W6 := Lib.hid (W5.out.trans (hb6.mono W5.out.size))
    clear hb6
    have cq := conv_row r6.out l6.out
    have cb := conv_row (R2.out.below W6.out) L2.out
    rw [Ksq.out] at cq
    rw [Ksb.out] at cb
    rcases F2 with rfl | ⟨rfl, rfl, e1, e2, e3⟩
    · go_wp2
      go_ret
      exact ⟨rfl, W6.out⟩
    · have e4 : ((n5 : Int) != n) = false := by have h1 := e3.out; have h2 := l5.out; simp; omega
      go_wp2
      go_ret
      exact ⟨rfl, W6.out⟩
  · have e6 : ((np : Int) != sz) = false := by have h1 := e0.out; have h2 := lp.out; simp; omega
    go_wp2_with fail
    refine (size_v _ _ _ Ksz.out _).mono ?_
    rintro e w5 ⟨rfl, hb5⟩
    have B5 := Lib.hid hb5
    have W5 := Lib.hid (W4.out.trans (hb5.mono W4.out.size))
    clear hb5
    go_wp2_with fail
    refine (unpackRow_any _ l2 _ D n v _ L2.out (R2.out.below W5.out)).mono ?_
    rintro e w6 ⟨a6, c6, n6, rfl, l6, r6, hb6⟩
    rw [Khas.out]
    have B6 := Lib.hid hb6
    have W6 := Lib.hid (W5.out.trans (hb6.mono W5.out.size))
    clear hb6
    go_wp2_with fail
    refine (packRow_any _ n6 _ _ v _ l6.out r6.out).mono ?_
    rintro e w7 ⟨a7, c7, n7, rfl, l7, r7, hb7⟩
    rw [Kfits.out]
    have B7 := Lib.hid hb7
    have W7 := Lib.hid (W6.out.trans (hb7.mono W6.out.size))
    clear hb7
    have cq := conv_row r7.out l7.out
    have cb := conv_row (R2.out.below W7.out) L2.out
    rw [Ksq.out] at cq
    rw [Ksb.out] at cb
    rcases F2 with rfl | ⟨rfl, rfl, e1, e2, e3⟩
    · rcases e5 with h8 | ⟨h8, rfl⟩
      · go_wp2
        go_ret
        exact ⟨rfl, W7.out⟩
      · have h8' : decide (v < 8) = false := by simp; omega
        have RP := Lib.hid (rp.out)
        go_wp2_with fail
        refine (unpackRow_any _ np _ _ _ v _ lp.out (((((RP.out.below B3.out).below B4.out).below B5.out).below B6.out).below B7.out)).mono ?_
        rintro e w8 ⟨a8, c8, n8, rfl, l8, r8, hb8⟩
        rw [Kmore.out]
        have W8 := Lib.hid (W7.out.trans (hb8.mono W7.out.size))
        clear hb8 cq cb
        go_wp2
        go_ret
        exact ⟨rfl, W8.out⟩
    · have e4 : ((n6 : Int) != n) = false := by have h1 := e3.out; have h2 := l6.out; simp; omega
      rcases e5 with h8 | ⟨h8, rfl⟩
      · go_wp2
        go_ret
        exact ⟨rfl, W7.out⟩
      · have h8' : decide (v < 8) = false := by simp; omega
        have RP := Lib.hid (rp.out)
        go_wp2_with fail
        refine (unpackRow_any _ np _ _ _ v _ lp.out (((((RP.out.below B3.out).below B4.out).below B5.out).below B6.out).below B7.out)).mono ?_
        rintro e w8 ⟨a8, c8, n8, rfl, l8, r8, hb8⟩
        rw [Kmore.out]
        have W8 := Lib.hid (W7.out.trans (hb8.mono W7.out.size))
        clear hb8 cq cb
        go_wp2
        go_ret
        exact ⟨rfl, W8.out⟩

theorem back_law (a0 a2 : Option Addr) (l0 l2 c0 c2 : Nat) (z0 z2 : List Int) (v n : Int) (w : World) (w0 : IsRow .i64 w a0 l0 c0 z0) (w2 : IsRow .u8 w a2 l2 c2 z2) :
    Calls Try.prog 4 #[.slice a0 l0 c0, .int .i64 v, .slice a2 l2 c2, .int .i64 n] w fun e w' => e = .returned (.bool true) ∧ Below w.heap.size w w' := by
  by_cases h0 : 400 < l0
  · exact back_short a0 a2 l0 l2 c0 c2 v n w (.inl h0)
  · by_cases h1 : 1700 < l2
    · exact back_short a0 a2 l0 l2 c0 c2 v n w (.inr ⟨by omega, h1⟩)
    · exact back_in a0 a2 l0 l2 c0 c2 _ _ v n w w0.rowIn.2 w2.rowIn.2 w0.rowIn.1 w2.rowIn.1 (by omega) (by omega)
end Go.Proofs.Ytjonpipeopamnaa
