/-
  Walks of the document's pow, May, Size, Nth, Index, Meet of addresses, at every prefix.
-/
import Derived.Test.YtjfnopbdlopjgaaAPre
namespace Go.Proofs.Ytjfnopbdlopjgaa
open Go.RowKit

theorem refPow7_any (m : Nat) (hm : m ≤ 32) (w : World) :
    Calls Try.prog 48 #[.int .i64 m] w fun e w' => e = .returned (.int .i64 (2 ^ m : Nat)) ∧ w = w' := by
  go_enter Try.func48, Try.ntmps48
  go_wp2_with fail
  go_loopg [3, 4] m (fun g p i wr => ∃ j : Nat, i = .int .i64 j ∧ p = .int .i64 (2 ^ j : Nat) ∧ j + g = m ∧ w = wr)
  case atStart => exact ⟨0, rfl, rfl, by omega, rfl⟩
  case round =>
    obtain ⟨j, rfl, rfl, hjm, rfl⟩ := hrel
    obtain ⟨q, hq⟩ : ∃ q : Nat, 2 ^ j = q := ⟨_, rfl⟩
    rw [hq]
    have hb : 2 ^ j ≤ 2 ^ 32 := Nat.pow_le_pow_right (by decide) (by omega)
    have h2 : (2 : Nat) ^ 32 = 4294967296 := by decide
    have HQ := Lib.hid hq
    by_cases hlt : j < m
    · have d1 : decide ((j : Int) < (m : Int)) = true := by simp; omega
      have hq2 : q ≤ 4294967296 := by omega
      clear hb h2 hq
      go_wp2
      go_roundg (m - (j + 1))
      case rel => exact ⟨j + 1, by go_num, by have := HQ.out; rw [Nat.pow_succ, this]; congr 1; omega, by omega, rfl⟩
      case measure => omega
    · have d1 : decide ((j : Int) < (m : Int)) = false := by simp; omega
      obtain rfl : j = m := by omega
      clear hb h2 hq
      go_wp2
      go_ret
      exact ⟨by rw [HQ.out]; rfl, rfl⟩

set_option maxHeartbeats 400000 in
theorem refMay7_any (b k : Int) (d : Bool) (w : World) (h : A.may b k = d) :
    Calls Try.prog 47 #[.agg #[.int .i64 b, .int .i64 k]] w fun e w' => e = .returned (.bool d) ∧ Below w.heap.size w w' := by
  have HB := Lib.hid h
  have HBX := Lib.hid (pbox_below w b k)
  clear h
  by_cases h0 : 0 ≤ k
  · have d0 : decide (0 ≤ k) = true := decide_eq_true h0
    by_cases h1 : k ≤ 32
    · have d1 : decide (k ≤ 32) = true := decide_eq_true h1
      by_cases h2 : 0 ≤ b
      · have d2 : decide (0 ≤ b) = true := decide_eq_true h2
        by_cases h3 : b < 4294967296
        · have d3 : decide (b < 4294967296) = true := decide_eq_true h3
          obtain ⟨j, rfl, hj, hsz, -⟩ := A.sz_cases h0 h1
          obtain ⟨q, hq⟩ : ∃ q : Nat, 2 ^ (32 - j) = q := ⟨_, rfl⟩
          have hq0 : ¬ q = 0 := by have := Nat.two_pow_pos (32 - j); omega
          have hq1 : ¬ (q : Int) = 0 := by omega
          rw [hq] at hsz
          obtain ⟨m, hm⟩ : ∃ m : Nat, 32 - j = m := ⟨_, rfl⟩
          have hmw : IntKind.i64.wrap (32 - (j : Int)) = m := by rw [IntWalk.i64_in _ (by omega)]; omega
          have hmw2 : (32 : Int) - (j : Int) = m := by omega
          have hp := refPow7_any m (by omega)
          rw [← hm, hq, hm] at hp
          obtain ⟨r, hr⟩ : ∃ r : Int, b % (q : Int) = r := ⟨_, rfl⟩
          obtain ⟨hr1, hr2⟩ := A.rem_of h2 h3 hr
          have HF : Hid (d = decide (r = 0)) := Lib.hid (by rw [← HB.out, Bool.eq_iff_iff]; unfold A.may; rw [decide_eq_true_iff, decide_eq_true_iff, hsz, hr]; exact ⟨fun h => h.2.2.2.2, fun h => ⟨h0, h1, h2, h3, h⟩⟩)
          clear hsz hq hm hj
          go_enter Try.func47, Try.ntmps47
          go_wp2_with fail
          go_quiet ((go_at_call 48; exact Calls.quiet_of_same ((hp _).mono fun e w' h => ⟨h.1, h.2.symm⟩)))
          go_wp2
          go_ret
          exact ⟨by rw [HF.out]; rfl, HBX.out.trans ((below_drewN _ _ _).mono HBX.out.size)⟩
        · have HF : Hid (d = false) := Lib.hid (by rw [← HB.out]; exact decide_eq_false (fun h => h3 h.2.2.2.1))
          have d3 : decide (b < 4294967296) = false := decide_eq_false h3
          go_enter Try.func47, Try.ntmps47
          go_wp2_with fail
          go_quiet (fail)
          go_wp2
          go_ret
          exact ⟨by rw [HF.out]; rfl, HBX.out.trans ((below_drewN _ _ _).mono HBX.out.size)⟩
      · have HF : Hid (d = false) := Lib.hid (by rw [← HB.out]; exact decide_eq_false (fun h => h2 h.2.2.1))
        have d2 : decide (0 ≤ b) = false := decide_eq_false h2
        go_enter Try.func47, Try.ntmps47
        go_wp2_with fail
        go_quiet (fail)
        go_wp2
        go_ret
        exact ⟨by rw [HF.out]; rfl, HBX.out.trans ((below_drewN _ _ _).mono HBX.out.size)⟩
    · have HF : Hid (d = false) := Lib.hid (by rw [← HB.out]; exact decide_eq_false (fun h => h1 h.2.1))
      have d1 : decide (k ≤ 32) = false := decide_eq_false h1
      go_enter Try.func47, Try.ntmps47
      go_wp2_with fail
      go_quiet (fail)
      go_wp2
      go_ret
      exact ⟨by rw [HF.out]; rfl, HBX.out.trans ((below_drewN _ _ _).mono HBX.out.size)⟩
  · have HF : Hid (d = false) := Lib.hid (by rw [← HB.out]; exact decide_eq_false (fun h => h0 h.1))
    have d0 : decide (0 ≤ k) = false := decide_eq_false h0
    go_enter Try.func47, Try.ntmps47
    go_wp2_with fail
    go_quiet (fail)
    go_wp2
    go_ret
    exact ⟨by rw [HF.out]; rfl, HBX.out.trans ((below_drewN _ _ _).mono HBX.out.size)⟩

set_option maxHeartbeats 400000 in
theorem refSize7_any (b k s : Int) (w : World) (h : A.size b k = s) :
    Calls Try.prog 30 #[.agg #[.int .i64 b, .int .i64 k]] w fun e w' => e = .returned (.int .i64 s) ∧ Below w.heap.size w w' := by
  have HB := Lib.hid h
  have HBX := Lib.hid (pbox_below w b k)
  have HBL := Lib.hid (pbox_blok w b k)
  clear h
  cases hd : A.may b k
  · have HF : Hid (s = 0) := Lib.hid (by rw [← HB.out]; unfold A.size; rw [hd]; rfl)
    have hm := refMay7_any b k false (pbox w b k) hd
    clear hd
    go_enter Try.func30, Try.ntmps30
    go_wp2_with fail
    refine hm.mono ?_
    rintro e w1 ⟨rfl, hb1⟩
    go_wp2
    go_ret
    exact ⟨by rw [HF.out]; rfl, HBX.out.trans (hb1.mono (pbox_below w b k).size)⟩
  · obtain ⟨⟨h0, h1⟩, -⟩ := A.may_bits hd
    obtain ⟨j, rfl, hj, hsz, -⟩ := A.sz_cases h0 h1
    obtain ⟨q, hq⟩ : ∃ q : Nat, 2 ^ (32 - j) = q := ⟨_, rfl⟩
    rw [hq] at hsz
    have HF : Hid (s = q) := Lib.hid (by rw [← HB.out]; unfold A.size; rw [hd, if_pos rfl, hsz])
    obtain ⟨m, hm⟩ : ∃ m : Nat, 32 - j = m := ⟨_, rfl⟩
    have hmw : IntKind.i64.wrap (32 - (j : Int)) = m := by rw [IntWalk.i64_in _ (by omega)]; omega
    have hmw2 : (32 : Int) - (j : Int) = m := by omega
    have hp := refPow7_any m (by omega)
    rw [← hm, hq, hm] at hp
    have hmy := refMay7_any b j true (pbox w b j) hd
    clear hd hsz hq hm hj
    go_enter Try.func30, Try.ntmps30
    go_wp2_with fail
    refine hmy.mono ?_
    rintro e w1 ⟨rfl, hb1⟩
    have k1 := pb1 (HBL.out.below hb1 (pbox_blok w b j).lt)
    have HB1 := Lib.hid (HBX.out.trans (hb1.mono HBX.out.size))
    clear hb1
    go_wp2_with fail
    refine (hp _).mono ?_
    rintro e w2 ⟨rfl, rfl⟩
    go_wp2
    go_ret
    exact ⟨by rw [HF.out]; rfl, HB1.out⟩

set_option maxHeartbeats 400000 in
theorem refIdx7_any (b k a v : Int) (w : World) (hv : A.idx b k a = v) (ha : a ≤ 9223372036854775807) :
    Calls Try.prog 49 #[.agg #[.int .i64 b, .int .i64 k], .int .i64 a] w fun e w' => e = .returned (.int .i64 v) ∧ Below w.heap.size w w' := by
  have HV := Lib.hid hv
  have HBX := Lib.hid (pbox_below w b k)
  have HBL := Lib.hid (pbox_blok w b k)
  clear hv
  cases hd : A.may b k
  · have HF : Hid (v = -1) := Lib.hid (by rw [← HV.out]; unfold A.idx; rw [hd]; rfl)
    have hm := refMay7_any b k false (pbox w b k) hd
    go_enter Try.func49, Try.ntmps49
    go_wp2_with fail
    refine hm.mono ?_
    rintro e w1 ⟨rfl, hb1⟩
    have k0 := pb0 (HBL.out.below hb1 HBL.out.lt)
    have k1 := pb1 (HBL.out.below hb1 HBL.out.lt)
    have HB1 := Lib.hid (HBX.out.trans (hb1.mono HBX.out.size))
    clear hb1
    go_wp2_with fail
    go_quiet (fail)
    go_wp2
    go_ret
    exact ⟨by rw [HF.out]; rfl, HB1.out.trans ((below_drewN _ _ _).mono HB1.out.size)⟩
  · obtain ⟨q, hq⟩ := A.size_nat b k
    obtain ⟨-, g0, g1⟩ := A.may_bits hd
    have hs := refSize7_any b k q
    have hm := refMay7_any b k true (pbox w b k) hd
    have hle := (A.size_le (b := b) (k := k))
    go_enter Try.func49, Try.ntmps49
    go_wp2_with fail
    refine hm.mono ?_
    rintro e w1 ⟨rfl, hb1⟩
    have k0 := pb0 (HBL.out.below hb1 HBL.out.lt)
    have k1 := pb1 (HBL.out.below hb1 HBL.out.lt)
    have c0 : ∀ d os, (Go.Sort.grow (redrawn w1 d) os).cell? ⟨w.heap.size, 0, none⟩ = some (.int .i64 b) := fun d os => cell_regrown k0 d os
    have c1 : ∀ d os, (Go.Sort.grow (redrawn w1 d) os).cell? ⟨w.heap.size, 1, none⟩ = some (.int .i64 k) := fun d os => cell_regrown k1 d os
    have HB1 := Lib.hid (HBX.out.trans (hb1.mono HBX.out.size))
    clear hb1
    by_cases h1 : a < b
    · have d1 : decide (a < b) = true := by simp [h1]
      have HF : Hid (v = -1) := Lib.hid (by rw [← HV.out]; unfold A.idx; rw [if_neg (by omega)])
      go_wp2_with fail
      go_quiet (fail)
      go_wp2
      go_ret
      exact ⟨by rw [HF.out]; rfl, HB1.out.trans ((below_drewN _ _ _).mono HB1.out.size)⟩
    · have d1 : decide (a < b) = false := by simp; omega
      have hw : IntKind.i64.wrap (a - b) = a - b := IntWalk.i64_in _ (by omega)
      have hw2 : IntKind.i64.wrap (b + (q : Int)) = b + q := IntWalk.i64_in _ (by omega)
      by_cases h2 : a < b + (q : Int)
      · have d2 : decide (b + (q : Int) ≤ a) = false := by simp; omega
        have HF : Hid (v = a - b) := Lib.hid (by rw [← HV.out]; unfold A.idx; rw [if_pos ⟨hd, by omega, by omega⟩])
        go_wp2_with fail
        refine wp_region_quiet_below (by kernel_rfl) (by kernel_rfl) ?_
        repeat (go_big_quiet_step (exact Calls.regrown_of (hs _ hq)))
        refine wpQuiet_nil ?_
        intro _ hw'
        obtain ⟨⟨dq, osq⟩, hw''⟩ := hw'
        subst hw''
        go_wp2
        go_ret
        exact ⟨by rw [HF.out]; rfl, HB1.out.trans ((below_regrown _ dq osq).mono HB1.out.size)⟩
      · have d2 : decide (b + (q : Int) ≤ a) = true := by simp; omega
        have HF : Hid (v = -1) := Lib.hid (by rw [← HV.out]; unfold A.idx; rw [if_neg (by omega)])
        go_wp2_with fail
        refine wp_region_quiet_below (by kernel_rfl) (by kernel_rfl) ?_
        repeat (go_big_quiet_step (exact Calls.regrown_of (hs _ hq)))
        refine wpQuiet_nil ?_
        intro _ hw'
        obtain ⟨⟨dq, osq⟩, hw''⟩ := hw'
        subst hw''
        go_wp2
        go_ret
        exact ⟨by rw [HF.out]; rfl, HB1.out.trans ((below_regrown _ dq osq).mono HB1.out.size)⟩

set_option maxHeartbeats 800000 in
theorem refMeet7_any (b k c j : Int) (d : Bool) (w : World) (hd : A.meet b k c j = d) (hb : b ≤ 9223372036854775807) (hc : c ≤ 9223372036854775807) :
    Calls Try.prog 33 #[.agg #[.int .i64 b, .int .i64 k], .agg #[.int .i64 c, .int .i64 j]] w fun e w' => e = .returned (.bool d) ∧ Below w.heap.size w w' := by
  have HD := Lib.hid hd
  have HB := Lib.hid (pbox2_below w b k c j)
  have HA := Lib.hid (pbox2_a w b k c j)
  have HC := Lib.hid (pbox2_b w b k c j)
  clear hd
  obtain ⟨p, h1⟩ : ∃ p, A.may b k = p := ⟨_, rfl⟩
  obtain ⟨q, h2⟩ : ∃ q, A.may c j = q := ⟨_, rfl⟩
  have hm := refMay7_any b k p (pbox2 w b k c j) h1
  go_enter Try.func33, Try.ntmps33
  go_wp2_with fail
  refine hm.mono ?_
  rintro e w1 ⟨rfl, hb1⟩
  have j0 := pb0 (HC.out.below hb1 HC.out.lt)
  have j1 := pb1 (HC.out.below hb1 HC.out.lt)
  have HA1 := Lib.hid (HA.out.below hb1 HA.out.lt)
  have HC1 := Lib.hid (HC.out.below hb1 HC.out.lt)
  have HB1 := Lib.hid (HB.out.trans (hb1.mono HB.out.size))
  clear hb1 hm
  go_wp2_with fail
  refine (refMay7_any c j q w1 h2).mono ?_
  rintro e w2 ⟨rfl, hb2⟩
  have k0' := pb0 (HA1.out.below hb2 HA1.out.lt)
  have k1' := pb1 (HA1.out.below hb2 HA1.out.lt)
  have j0' := pb0 (HC1.out.below hb2 HC1.out.lt)
  have j1' := pb1 (HC1.out.below hb2 HC1.out.lt)
  have HA2 := Lib.hid (HA1.out.below hb2 HA1.out.lt)
  have HC2 := Lib.hid (HC1.out.below hb2 HC1.out.lt)
  have HB2 := Lib.hid (HB1.out.trans (hb2.mono HB1.out.size))
  clear hb2 j0 j1
  cases p
  · have HF : Hid (d = false) := Lib.hid (by rw [← HD.out]; unfold A.meet; rw [h1]; rfl)
    clear h1 h2
    go_wp2
    go_ret
    exact ⟨by rw [HF.out]; rfl, HB2.out⟩
  · cases q
    · have HF : Hid (d = false) := Lib.hid (by rw [← HD.out]; unfold A.meet; rw [h1, h2]; rfl)
      clear h1 h2
      go_wp2
      go_ret
      exact ⟨by rw [HF.out]; rfl, HB2.out⟩
    · obtain ⟨x, hx⟩ : ∃ x, A.idx b k c = x := ⟨_, rfl⟩
      have HD2 : Hid (d = (decide (0 ≤ x) || decide (0 ≤ A.idx c j b))) := Lib.hid (by rw [← HD.out]; unfold A.meet; rw [h1, h2, hx]; rfl)
      clear h1 h2
      go_wp2_with fail
      refine (refIdx7_any b k c x w2 hx hc).mono ?_
      rintro e w3 ⟨rfl, hb3⟩
      have k0 := pb0 (HA2.out.below hb3 HA2.out.lt)
      have k1 := pb1 (HA2.out.below hb3 HA2.out.lt)
      have j0 := pb0 (HC2.out.below hb3 HC2.out.lt)
      have j1 := pb1 (HC2.out.below hb3 HC2.out.lt)
      have HB3 := Lib.hid (HB2.out.trans (hb3.mono HB2.out.size))
      clear hb3 k0' k1' j0' j1'
      by_cases h3 : 0 ≤ x
      · have HF : Hid (d = true) := Lib.hid (by rw [HD2.out, decide_eq_true h3]; rfl)
        have d3 : decide (0 ≤ x) = true := decide_eq_true h3
        go_wp2
        go_ret
        exact ⟨by rw [HF.out]; rfl, HB3.out⟩
      · have d3 : decide (0 ≤ x) = false := decide_eq_false h3
        obtain ⟨y, hy⟩ : ∃ y, A.idx c j b = y := ⟨_, rfl⟩
        have HF : Hid (d = decide (0 ≤ y)) := Lib.hid (by rw [HD2.out, d3, hy]; rfl)
        go_wp2_with fail
        refine (refIdx7_any c j b y w3 hy hb).mono ?_
        rintro e w4 ⟨rfl, hb4⟩
        go_wp2
        go_ret
        exact ⟨by rw [HF.out]; rfl, HB3.out.trans (hb4.mono HB3.out.size)⟩
end Go.Proofs.Ytjfnopbdlopjgaa
