/-
  Walks of moorings/mooringslaw02.ZigLists: for every input it returns true.
-/
import Derived.Test.YtcppffccbecjpaaZLaw1
namespace Go.Proofs.Ytcppffccbecjpaa
open Go.RowKit

theorem RowIn.take {k : IntKind} {w : World} {a : Option Addr} {cap : Nat} {L : List Int} (h : RowIn k w a cap L) (j : Nat) : RowIn k w a cap (L.take j) := by
  refine ⟨⟨?_, h.1.2⟩, fun n hn => h.2.1 n (List.mem_of_mem_take hn), ?_⟩
  · have := h.1.1; simp; omega
  · rcases h.2.2 with rfl | ⟨b, off, rfl, hb, hc⟩
    · exact .inl (by simp)
    · refine .inr ⟨b, off, rfl, hb, fun i hi => ?_⟩
      simp at hi
      rw [hc i (by omega)]
      simp [show i < L.length by omega, show i < j by omega]

theorem lists_short (n : Int) (a0 a1 : Option Addr) (l0 l1 c0 c1 : Nat) (w : World) (h : 300 < l0 ∨ (l0 ≤ 300 ∧ 500 < l1)) :
    Calls Try.prog 4 #[.slice a0 l0 c0, .slice a1 l1 c1, .int .i64 n] w fun e w' => e = .returned (.bool true) ∧ Below w.heap.size w w' := by
  rcases h with h1 | ⟨h1, h2⟩
  · have d1 : decide (300 < (l0 : Int)) = true := by simp; omega
    go_enter Try.func4, Try.ntmps4
    go_wp2_with fail
    refine (awake_any _).mono ?_
    rintro e w1 ⟨rfl, hb1⟩
    have hb : Hid (Below w.heap.size w w1) := Lib.hid hb1
    clear hb1
    go_wp2
    go_ret
    exact ⟨rfl, hb.out⟩
  · have d1 : decide (300 < (l0 : Int)) = false := by simp; omega
    have d2 : decide (500 < (l1 : Int)) = true := by simp; omega
    go_enter Try.func4, Try.ntmps4
    go_wp2_with fail
    refine (awake_any _).mono ?_
    rintro e w1 ⟨rfl, hb1⟩
    have hb : Hid (Below w.heap.size w w1) := Lib.hid hb1
    clear hb1
    go_wp2
    go_ret
    exact ⟨rfl, hb.out⟩

set_option maxRecDepth 100000 in
set_option maxHeartbeats 4000000 in
theorem lists_in (n : Int) (a0 a1 : Option Addr) (l0 l1 c0 c1 : Nat) (L B : List Int) (w : World) (h0 : L.length = l0) (h1 : B.length = l1) (r0 : RowIn .i64 w a0 c0 L) (r1 : RowIn .u8 w a1 c1 B) (hl0 : l0 ≤ 300) (hl1 : l1 ≤ 500) :
    Calls Try.prog 4 #[.slice a0 l0 c0, .slice a1 l1 c1, .int .i64 n] w fun e w' => e = .returned (.bool true) ∧ Below w.heap.size w w' := by
  have d1 : decide (300 < (l0 : Int)) = false := by simp; omega
  have d2 : decide (500 < (l1 : Int)) = false := by simp; omega
  have hc0 : l0 ≤ c0 := by have := r0.1.1; omega
  have L0 := Lib.hid h0
  have L1 := Lib.hid h1
  have R0 := Lib.hid r0
  have R1 := Lib.hid r1
  clear h0 h1 r0 r1
  obtain ⟨ok, hok⟩ : ∃ b, (Z.steps L).isSome = b := ⟨_, rfl⟩
  obtain ⟨can, hcan⟩ : ∃ b, (Z.sums ((Z.steps L).getD [])).isSome = b := ⟨_, rfl⟩
  obtain ⟨same, hsame⟩ : ∃ b, decide ((Z.sums ((Z.steps L).getD [])).getD [] = L) = b := ⟨_, rfl⟩
  obtain ⟨has, hhas⟩ : ∃ b, (Z.sums B).isSome = b := ⟨_, rfl⟩
  obtain ⟨fits, hfits⟩ : ∃ b, (Z.steps ((Z.sums B).getD [])).isSome = b := ⟨_, rfl⟩
  obtain ⟨sq, hsq⟩ : ∃ s, strOf ((Z.steps ((Z.sums B).getD [])).getD []) = s := ⟨_, rfl⟩
  obtain ⟨sb, hsb⟩ : ∃ s, strOf B = s := ⟨_, rfl⟩
  have F1 : Hid (ok = true → can = true ∧ same = true) := Lib.hid (by
    intro h
    rw [← hok] at h
    obtain ⟨x, hx⟩ := Option.isSome_iff_exists.1 h
    rw [← hcan, ← hsame, hx]
    simp [Z.sums_some.2 hx])
  have F4 : Hid (has = true → fits = true ∧ (sq.toList == sb.toList) = true ∧ (sq.toList != sb.toList) = false) := Lib.hid (by
    intro h
    rw [← hhas] at h
    obtain ⟨x, hx⟩ := Option.isSome_iff_exists.1 h
    rw [← hfits, ← hsq, ← hsb, hx]
    simp [Z.sums_some.1 hx])
  have KO := Lib.hid hok
  have KC := Lib.hid hcan
  have KS := Lib.hid hsame
  have KH := Lib.hid hhas
  have KF := Lib.hid hfits
  have SQ := Lib.hid hsq
  have SB := Lib.hid hsb
  clear hok hcan hsame hhas hfits hsq hsb
  have HN : n < 0 ∨ (0 ≤ n ∧ (l0 : Int) < n) ∨ ∃ j : Nat, n = j ∧ j ≤ l0 := by
    by_cases h0 : n < 0
    · exact .inl h0
    · by_cases h1 : (l0 : Int) < n
      · exact .inr (.inl ⟨by omega, h1⟩)
      · exact .inr (.inr ⟨n.toNat, by omega, by omega⟩)
  go_enter Try.func4, Try.ntmps4
  go_wp2_with fail
  refine (awake_any _).mono ?_
  rintro e w1 ⟨rfl, hb1⟩
  have W1 := Lib.hid hb1
  clear hb1
  go_wp2_with fail
  refine (stepsRow_any _ l0 _ L _ L0.out (R0.out.below W1.out)).mono ?_
  rintro e w2 ⟨a2, c2, n2, rfl, l2, r2, hb2⟩
  rw [KO.out]
  have B2 := Lib.hid hb2
  have W2 := Lib.hid (W1.out.trans (hb2.mono W1.out.size))
  clear hb2
  go_wp2_with fail
  refine (sumsRow_any _ n2 _ _ _ l2.out r2.out).mono ?_
  rintro e w3 ⟨a3, c3, n3, rfl, l3, r3, hb3⟩
  rw [KC.out]
  have B3 := Lib.hid hb3
  have W3 := Lib.hid (W2.out.trans (hb3.mono W2.out.size))
  clear hb3
  go_wp2_with fail
  refine (ints_any _ _ n3 l0 _ _ _ L _ l3.out L0.out r3.out (R0.out.below W3.out)).mono ?_
  rintro e w4 ⟨rfl, hb4⟩
  rw [KS.out]
  have B4 := Lib.hid hb4
  have W4 := Lib.hid (W3.out.trans (hb4.mono W3.out.size))
  clear hb4
  go_wp2_with fail
  refine (sumsRow_any _ l1 _ B _ L1.out (R1.out.below W4.out)).mono ?_
  rintro e w5 ⟨a5, c5, n5, rfl, l5, r5, hb5⟩
  rw [KH.out]
  have B5 := Lib.hid hb5
  have W5 := Lib.hid (W4.out.trans (hb5.mono W4.out.size))
  clear hb5
  go_wp2_with fail
  refine (stepsRow_any _ n5 _ _ _ l5.out r5.out).mono ?_
  rintro e w6 ⟨a6, c6, n6, rfl, l6, r6, hb6⟩
  rw [KF.out]
  have B6 := Lib.hid hb6
  have W6 := Lib.hid (W5.out.trans (hb6.mono W5.out.size))
  clear hb6
  have cq := conv_row r6.out l6.out
  have cb := conv_row (R1.out.below W6.out) L1.out
  rw [SQ.out] at cq
  rw [SB.out] at cb
  have hF4 : has = false ∨ (has = true ∧ fits = true ∧ (sq.toList == sb.toList) = true ∧ (sq.toList != sb.toList) = false) := by
    cases has with
    | false => exact .inl rfl
    | true => exact .inr ⟨rfl, F4.out rfl⟩
  cases ok with
  | false =>
    rcases hF4 with rfl | ⟨rfl, rfl, e1, e2⟩
    all_goals
      go_wp2
      go_ret
      exact ⟨rfl, W6.out⟩
  | true =>
    obtain ⟨rfl, rfl⟩ := F1.out rfl
    rcases HN with n0 | ⟨n0, n1⟩ | ⟨j, rfl, hj⟩
    · rcases hF4 with rfl | ⟨rfl, rfl, e1, e2⟩
      all_goals
        go_wp2
        go_ret
        exact ⟨rfl, W6.out⟩
    · rcases hF4 with rfl | ⟨rfl, rfl, e1, e2⟩
      all_goals
        go_wp2
        go_ret
        exact ⟨rfl, W6.out⟩
    · obtain ⟨x, hx⟩ := Option.isSome_iff_exists.1 KO.out
      obtain ⟨y, hy1, hy2, hy3⟩ := Z.steps_take j hx
      have hl : ((Z.steps L).getD []).length = n2 := l2.out
      have hcap2 : n2 ≤ c2 := by have := r2.out.1.1; omega
      have LT : Hid ((L.take j).length = j) := Lib.hid (by have := L0.out; simp; omega)
      obtain ⟨s, hs⟩ : ∃ s, strOf y = s := ⟨_, rfl⟩
      have HS := Lib.hid hs
      have HY := Lib.hid hy1
      have HX := Lib.hid hx
      have HY3 := Lib.hid hy3
      have HY2 : y.length ≤ n2 := by rw [hx] at hl; simp at hl; omega
      clear hs hy1 hx hy3 hy2 hl
      have hj1 : ¬ ((l0 : Int) < (j : Int)) := by omega
      rcases hF4 with rfl | ⟨rfl, rfl, e1, e2⟩
      all_goals
        go_wp2_with fail
        refine (stepsRow_any _ j _ _ _ LT.out ((R0.out.below W6.out).take j)).mono ?_
        rintro e w7 ⟨a7, c7, n7, rfl, l7, r7, hb7⟩
        rw [HY.out] at l7 r7
        simp only [Option.getD_some] at l7 r7
        rw [HY.out]
        have e7 : y.length = n7 := l7.out
        have hn7 : n7 ≤ n2 := by omega
        have B7 := Lib.hid hb7
        have W7 := Lib.hid (W6.out.trans (hb7.mono W6.out.size))
        clear hb7 cq cb
        have E7 := Lib.hid e7
        clear e7
        have ca := fun m => conv_row (r7.out.below (below_drewN _ w7 m)) E7.out
        have cp := fun m => conv_row (L := y) (n := n7) (by have := (((((((r2.out.below B3.out).below B4.out).below B5.out).below B6.out).below B7.out)).below (below_drewN _ w7 m)).take n7; rw [HX.out] at this; have h3 := HY3.out; rw [E7.out] at h3; rw [Option.getD_some, h3] at this; exact this) E7.out
        rw [HS.out] at ca cp
        go_wp2
        go_quiet (fail)
        go_wp2
        go_ret
        exact ⟨rfl, W7.out.trans (below_drewN _ _ _)⟩

theorem lists_any (n : Int) (a0 a1 : Option Addr) (l0 l1 c0 c1 : Nat) (z0 z1 : List Int) (w : World) (w0 : IsRow .i64 w a0 l0 c0 z0) (w1 : IsRow .u8 w a1 l1 c1 z1) :
    Calls Try.prog 4 #[.slice a0 l0 c0, .slice a1 l1 c1, .int .i64 n] w fun e w' => e = .returned (.bool true) ∧ Below w.heap.size w w' := by
  by_cases h0 : 300 < l0
  · exact lists_short n a0 a1 l0 l1 c0 c1 w (.inl h0)
  · by_cases h1 : 500 < l1
    · exact lists_short n a0 a1 l0 l1 c0 c1 w (.inr ⟨by omega, h1⟩)
    · exact lists_in n a0 a1 l0 l1 c0 c1 _ _ w w0.rowIn.2 w1.rowIn.2 w0.rowIn.1 w1.rowIn.1 (by omega) (by omega)
end Go.Proofs.Ytcppffccbecjpaa
