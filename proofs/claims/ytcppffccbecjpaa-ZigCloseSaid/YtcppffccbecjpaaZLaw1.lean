/-
  Walks of moorings/mooringslaw02: awake, ZigBack, ZigNear: for every input they return true.
-/
import Derived.Test.YtcppffccbecjpaaZSteps
import Derived.Test.YtcppffccbecjpaaVInts
namespace Go.Proofs.Ytcppffccbecjpaa
open Go.RowKit

theorem zig_v (n k : Int) (h : Z.zig n = k) (w : World) : Calls Try.prog 9 #[.int .i64 n] w fun e w' => e = .returned (.int .i64 k) ∧ w = w' := by
  rw [← h]; exact zig_any n w
theorem zag_v (k n : Int) (h : Z.zag k = n) (w : World) : Calls Try.prog 10 #[.int .i64 k] w fun e w' => e = .returned (.int .i64 n) ∧ w = w' := by
  rw [← h]; exact zag_any k w

theorem three_row (w : World) (x y z : Int) (k : IntKind) (t : TypeId) (hx : (Lit.int k x).wf = true) (hy : (Lit.int k y).wf = true) (hz : (Lit.int k z).wf = true) : RowIn k (w.alloc (.cells #[.int k x, .int k y, .int k z] t)) (some ⟨w.heap.size, 0, none⟩) 3 [x, y, z] :=
  (Blok.new w t #[.int k x, .int k y, .int k z]).row (L := [x, y, z]) (by simp [hx, hy, hz]) (by simp) (by simp [maxLen])

theorem steps544 : Z.steps [5, 4, 4] = some [10, 1, 0] := Z.steps_some.2 ⟨by simp, by simp [Z.isl], by
  simp [Z.pl, Z.zig, M.put, M.puts_lt]⟩
theorem sums544 : Z.sums [10, 1, 0] = some [5, 4, 4] := Z.sums_some.2 steps544

theorem steps544_any (a : Option Addr) (cap : Nat) (w : World) (h : RowIn .i64 w a cap [5, 4, 4]) : Calls Try.prog 11 #[.slice a 3 cap] w fun e w' => ∃ a' cap', e = .returned (.tuple #[.slice a' 3 cap', .bool true]) ∧ Hid (RowIn .u8 w' a' cap' [10, 1, 0]) ∧ Below w.heap.size w w' :=
  (stepsRow_any a 3 cap _ w rfl h).mono fun e w' ⟨a', cap', n', he, hn, hr, hb⟩ => by
    rw [steps544] at he hn hr
    have := hn.out
    simp at this
    subst this
    exact ⟨a', cap', he, hr, hb⟩
theorem sums544_any (a : Option Addr) (cap : Nat) (w : World) (h : RowIn .u8 w a cap [10, 1, 0]) : Calls Try.prog 12 #[.slice a 3 cap] w fun e w' => ∃ a' cap', e = .returned (.tuple #[.slice a' 3 cap', .bool true]) ∧ Hid (RowIn .i64 w' a' cap' [5, 4, 4]) ∧ Below w.heap.size w w' :=
  (sumsRow_any a 3 cap _ w rfl h).mono fun e w' ⟨a', cap', n', he, hn, hr, hb⟩ => by
    rw [sums544] at he hn hr
    have := hn.out
    simp at this
    subst this
    exact ⟨a', cap', he, hr, hb⟩

set_option maxRecDepth 100000 in
set_option maxHeartbeats 2000000 in
theorem awake_any (w : World) : Calls Try.prog 8 #[] w fun e w' => e = .returned (.bool true) ∧ Below w.heap.size w w' := by
  go_enter Try.func8, Try.ntmps8
  go_wp2_with fail
  refine (steps544_any _ _ _ (three_row w 5 4 4 .i64 3 (by decide) (by decide) (by decide))).mono ?_
  rintro e w1 ⟨a1, c1, rfl, R1, hb1⟩
  go_wp2_with fail
  refine (sums544_any _ _ _ R1.out).mono ?_
  rintro e w2 ⟨a2, c2, rfl, R2, hb2⟩
  obtain ⟨b, off, rfl, hb, hc⟩ := row_at (i := 2) R2.out (by simp)
  have hc2 : w2.cell? ⟨b, off + 2, none⟩ = some (.int .i64 4) := hc
  have hcap : 3 ≤ c2 := R2.out.1.1
  have hcv := conv_row (n := 3) (R1.out.below hb2) rfl
  have hs : Hid (strOf [10, 1, 0] = { data := #[10, 1, 0] }) := Lib.hid rfl
  rw [hs.out] at hcv
  have HB : Hid (Below w.heap.size w w2) := Lib.hid ((((Below.refl _ w).alloc (Nat.le_refl _) _).trans (hb1.mono (by simp))).trans (hb2.mono (by have := hb1.size; simp at this; omega)))
  clear hb1 hb2 hb hc
  go_wp2_with fail
  refine (zig_v 0 0 rfl _).mono ?_; rintro e w' ⟨rfl, rfl⟩
  go_wp2_with fail
  refine (zig_v (-1) 1 rfl _).mono ?_; rintro e w' ⟨rfl, rfl⟩
  go_wp2_with fail
  refine (zig_v 1 2 rfl _).mono ?_; rintro e w' ⟨rfl, rfl⟩
  go_wp2_with fail
  refine (zag_v 3 (-2) rfl _).mono ?_; rintro e w' ⟨rfl, rfl⟩
  go_wp2
  go_ret
  exact ⟨rfl, HB.out⟩

theorem Z.zig_inj {n m : Int} (h : -274877906944 ≤ n ∧ n ≤ 274877906944) (he : Z.zig m = Z.zig n) : m = n := by
  have hb := Z.zig_bd h
  have hm : -274877906944 ≤ m ∧ m ≤ 274877906944 := by
    by_cases hm : -274877906944 ≤ m ∧ m ≤ 274877906944
    · exact hm
    · rw [Z.zig_out hm] at he; omega
  rw [← Z.zag_zig h, ← Z.zag_zig hm, he]

set_option maxRecDepth 100000 in
set_option maxHeartbeats 2000000 in
theorem back_any (n m k : Int) (w : World) : Calls Try.prog 3 #[.int .i64 n, .int .i64 m, .int .i64 k] w fun e w' => e = .returned (.bool true) ∧ Below w.heap.size w w' := by
  obtain ⟨a, ha⟩ : ∃ a, Z.zig n = a := ⟨_, rfl⟩
  obtain ⟨b, hb⟩ : ∃ b, Z.zig m = b := ⟨_, rfl⟩
  obtain ⟨c, hc⟩ : ∃ c, Z.zag k = c := ⟨_, rfl⟩
  have HK : k < 0 ∨ (0 ≤ k ∧ 549755813888 < k) ∨ (0 ≤ k ∧ k ≤ 549755813888 ∧ Hid (Z.zig c = k)) := by
    by_cases h0 : k < 0
    · exact .inl h0
    · by_cases h1 : 549755813888 < k
      · exact .inr (.inl ⟨by omega, h1⟩)
      · exact .inr (.inr ⟨by omega, by omega, Lib.hid (by rw [← hc]; exact Z.zig_zag (by omega))⟩)
  have HN : (-274877906944 ≤ n ∧ n ≤ 274877906944 ∧ 0 ≤ a ∧ Hid (Z.zag a = n) ∧ ((b == a) = false ∨ ((b == a) = true ∧ (m != n) = false))) ∨ (n < -274877906944 ∧ a = -1) ∨ (-274877906944 ≤ n ∧ 274877906944 < n ∧ a = -1) := by
    by_cases h : -274877906944 ≤ n ∧ n ≤ 274877906944
    · refine .inl ⟨h.1, h.2, by rw [← ha]; exact (Z.zig_bd h).1, Lib.hid (by rw [← ha]; exact Z.zag_zig h), ?_⟩
      by_cases e : b = a
      · exact .inr ⟨by simpa using e, by simpa using Z.zig_inj h (by rw [ha, hb, e])⟩
      · exact .inl (by simpa using e)
    · have h1 := Z.zig_out h
      rw [ha] at h1
      by_cases h2 : n < -274877906944
      · exact .inr (.inl ⟨h2, h1⟩)
      · exact .inr (.inr ⟨by omega, by omega, h1⟩)
  have HA := Lib.hid ha
  have HB := Lib.hid hb
  have HC := Lib.hid hc
  clear ha hb hc
  rcases HN with ⟨n0, n1, a0, HZ, hm⟩ | ⟨n0, rfl⟩ | ⟨n0, n1, rfl⟩
  · rcases hm with hm | ⟨hm, hmn⟩
    all_goals
      go_enter Try.func3, Try.ntmps3
      go_wp2_with fail
      refine (awake_any _).mono ?_
      rintro e w1 ⟨rfl, hb1⟩
      have W1 := Lib.hid hb1
      clear hb1
      go_wp2_with fail
      refine (zig_v n _ HA.out _).mono ?_; rintro e w' ⟨rfl, rfl⟩
      go_wp2_with fail
      refine (zag_v a n HZ.out _).mono ?_; rintro e w' ⟨rfl, rfl⟩
      go_wp2_with fail
      refine (zig_v m b HB.out _).mono ?_; rintro e w' ⟨rfl, rfl⟩
      rcases HK with k0 | ⟨k0, k1⟩ | ⟨k0, k1, HZ2⟩
      · go_wp2
        go_ret
        exact ⟨rfl, W1.out⟩
      · go_wp2
        go_ret
        exact ⟨rfl, W1.out⟩
      · go_wp2_with fail
        refine (zag_v k c HC.out _).mono ?_; rintro e w' ⟨rfl, rfl⟩
        go_wp2_with fail
        refine (zig_v c k HZ2.out _).mono ?_; rintro e w' ⟨rfl, rfl⟩
        go_wp2
        go_ret
        exact ⟨rfl, W1.out⟩

  all_goals
    go_enter Try.func3, Try.ntmps3
    go_wp2_with fail
    refine (awake_any _).mono ?_
    rintro e w1 ⟨rfl, hb1⟩
    have W1 := Lib.hid hb1
    clear hb1
    go_wp2_with fail
    refine (zig_v n _ HA.out _).mono ?_; rintro e w' ⟨rfl, rfl⟩
    rcases HK with k0 | ⟨k0, k1⟩ | ⟨k0, k1, HZ2⟩
    · go_wp2
      go_ret
      exact ⟨rfl, W1.out⟩
    · go_wp2
      go_ret
      exact ⟨rfl, W1.out⟩
    · go_wp2_with fail
      refine (zag_v k c HC.out _).mono ?_; rintro e w' ⟨rfl, rfl⟩
      go_wp2_with fail
      refine (zig_v c k HZ2.out _).mono ?_; rintro e w' ⟨rfl, rfl⟩
      go_wp2
      go_ret
      exact ⟨rfl, W1.out⟩

theorem Z.zig_mono {n m : Int} (h1 : 1 ≤ n) (h2 : n ≤ 274877906944) (h3 : -n ≤ m) (h4 : m ≤ n) : Z.zig m ≤ Z.zig n ∧ Z.zig (-n) = Z.zig n - 1 ∧ 1 ≤ Z.zig n ∧ Z.zig n ≤ 549755813888 := by
  rw [Z.zig_in (n := n) (by omega), Z.zig_in (n := m) (by omega), Z.zig_in (n := -n) (by omega), if_neg (c := n < 0) (by omega), if_pos (c := -n < 0) (by omega)]
  refine ⟨?_, by omega, by omega, by omega⟩
  split <;> omega

set_option maxRecDepth 100000 in
set_option maxHeartbeats 2000000 in
theorem near_any (n m : Int) (w : World) : Calls Try.prog 6 #[.int .i64 n, .int .i64 m] w fun e w' => e = .returned (.bool true) ∧ Below w.heap.size w w' := by
  by_cases h : 1 ≤ n ∧ n ≤ 274877906944 ∧ -n ≤ m ∧ m ≤ n
  · obtain ⟨h1, h2, h3, h4⟩ := h
    obtain ⟨x, hx⟩ : ∃ x, Z.zig n = x := ⟨_, rfl⟩
    obtain ⟨y, hy⟩ : ∃ y, Z.zig m = y := ⟨_, rfl⟩
    have HM := Z.zig_mono h1 h2 h3 h4
    rw [hx, hy] at HM
    obtain ⟨g1, g2, g3, g4⟩ := HM
    have HX := Lib.hid hx
    have HY := Lib.hid hy
    have HO := Lib.hid g2
    clear hx hy g2
    go_enter Try.func6, Try.ntmps6
    go_wp2_with fail
    refine (awake_any _).mono ?_
    rintro e w1 ⟨rfl, hb1⟩
    have W1 := Lib.hid hb1
    clear hb1
    go_wp2_with fail
    refine (zig_v m y HY.out _).mono ?_; rintro e w' ⟨rfl, rfl⟩
    go_wp2_with fail
    refine (zig_v n x HX.out _).mono ?_; rintro e w' ⟨rfl, rfl⟩
    go_wp2_with fail
    refine (zig_v (-n) (x - 1) HO.out _).mono ?_; rintro e w' ⟨rfl, rfl⟩
    go_wp2_with fail
    refine (zig_v n x HX.out _).mono ?_; rintro e w' ⟨rfl, rfl⟩
    go_wp2
    go_ret
    exact ⟨rfl, W1.out⟩
  · have hc : n < 1 ∨ (1 ≤ n ∧ 274877906944 < n) ∨ (1 ≤ n ∧ n ≤ 274877906944 ∧ m < -n) ∨ (1 ≤ n ∧ n ≤ 274877906944 ∧ -n ≤ m ∧ n < m) := by omega
    clear h
    rcases hc with h1 | ⟨h1, h2⟩ | ⟨h1, h2, h3⟩ | ⟨h1, h2, h3, h4⟩
    all_goals
      go_enter Try.func6, Try.ntmps6
      go_wp2_with fail
      refine (awake_any _).mono ?_
      rintro e w1 ⟨rfl, hb1⟩
      have W1 := Lib.hid hb1
      clear hb1
      go_wp2
      go_ret
      exact ⟨rfl, W1.out⟩
end Go.Proofs.Ytcppffccbecjpaa
