/-
  Walks of the document's own maps: mooringsref09.pow, May, New, Has, Take, Give.
-/
import Derived.Test.YtagkpkgflnccpaaUTake
namespace Go.Proofs.Ytagkpkgflnccpaa
open Go.RowKit

theorem two_step {k : Nat} (h : k < 8) : wrap64 (2 * 2 ^ k) = 2 ^ (k + 1) := by
  have h1 : 2 ^ (k + 1) ≤ 2 ^ 8 := Nat.pow_le_pow_right (by decide) (by omega)
  have e : ((2 : Int) * 2 ^ k) = ((2 ^ (k + 1) : Nat) : Int) := by rw [Nat.pow_succ]; push_cast; omega
  have e2 : ((2 : Int) ^ (k + 1)) = ((2 ^ (k + 1) : Nat) : Int) := by simp
  rw [e, e2]
  generalize 2 ^ (k + 1) = q at h1
  exact IntWalk.wrap64_in _ (by omega)

set_option maxHeartbeats 400000 in
theorem pow_any (I : Nat) (q : Int) (w : World) (hI : I ≤ 8) (hq : 2 ^ I = q) : Calls Try.prog 28 #[.int .i64 I] w fun e w' => e = .returned (.int .i64 q) ∧ Below w.heap.size w w' := by
  have HQ := Lib.hid hq
  clear hq
  go_enter Try.func28, Try.ntmps28
  go_wp2
  go_loop [3, 4] (fun x i => ∃ (k : Nat) (y : Int), x = .int .i64 y ∧ i = .int .i64 k ∧ k ≤ I ∧ Hid (y = 2 ^ k)) (fun _ i => I - (intOf i).toNat)
  case atStart => exact ⟨0, 1, rfl, rfl, by omega, Lib.hid rfl⟩
  case round =>
    obtain ⟨k, y, rfl, rfl, hk, HY⟩ := hrel
    by_cases hlt : k < I
    · have hs := two_step (k := k) (by omega)
      have hw : IntKind.i64.wrap (2 * y) = 2 ^ (k + 1) := by rw [HY.out, IntWalk.i64_left]; exact hs
      clear hs
      go_wp2
      clear hw
      go_round
      case rel => exact ⟨k + 1, _, rfl, by go_num, by omega, Lib.hid rfl⟩
      case measure => simp [intOf]; omega
    · have hd : decide (k < I) = false := decide_eq_false hlt
      have HE : Hid (k = I) := Lib.hid (by omega)
      clear hlt hk
      go_wp2
      go_ret
      exact ⟨by rw [← HQ.out, ← HE.out, HY.out]; rfl, Below.refl _ _⟩

/-- What is known of a map that may be, and of a block of it. -/
theorem U.has_no {n u i : Int} (h : ¬ (U.may n u = true ∧ 0 ≤ i ∧ i < n)) : U.has n u i = false ∧ U.off n u i = false ∧ U.at' n u i = -1 := by
  have e : U.at' n u i = -1 := by
    unfold U.at'
    rw [if_neg]
    intro hh
    simp at hh
    exact h ⟨hh.1.1, hh.1.2, hh.2⟩
  unfold U.has U.off
  rw [e]
  simp
theorem U.at_yes {n u i : Int} (h : U.may n u = true) (h0 : 0 ≤ i) (h1 : i < n) : U.at' n u i = U.num (U.bit u i.toNat) := by
  unfold U.at'; rw [if_pos]; simp [h, h0, h1]

set_option maxHeartbeats 400000 in
theorem refMay_any (n u : Int) (b : Bool) (w : World) (h : U.may n u = b) : Calls Try.prog 19 #[.agg #[.int .i64 n, .int .i64 u]] w fun e w' => e = .returned (.bool b) ∧ Below w.heap.size w w' := by
  have HB := Lib.hid (ubox_below w n u)
  have HH := Lib.hid h
  have k0 := fun d os => cell_regrown (u0 (ubox_blok w n u)) d os
  have k1 := fun d os => cell_regrown (u1 (ubox_blok w n u)) d os
  unfold ubox at k0 k1
  clear h
  by_cases h0 : 0 ≤ n
  · by_cases h1 : n ≤ 8
    · obtain ⟨m, rfl⟩ := Int.eq_ofNat_of_zero_le h0
      obtain ⟨q, hq⟩ : ∃ q : Int, 2 ^ m = q := ⟨_, rfl⟩
      have HM : Hid (U.may m u = (decide (0 ≤ u) && decide (u < q))) := Lib.hid (by
        rw [← hq]
        unfold U.may
        simp [h1])
      have hp := fun W => pow_any m q W (by omega) hq
      clear h0 hq
      by_cases g0 : 0 ≤ u
      · have G0 : Hid (U.may m u = decide (u < q)) := Lib.hid (by rw [HM.out]; simp [g0])
        go_enter Try.func19, Try.ntmps19
        go_wp2_with fail
        refine wp_region_quiet_below (by kernel_rfl) (by kernel_rfl) ?_
        repeat (go_big_quiet_step (exact Calls.regrown_of (hp _)))
        refine wpQuiet_nil ?_
        intro _ hw'
        obtain ⟨⟨dq, osq⟩, hw''⟩ := hw'
        subst hw''
        go_wp2
        go_ret
        exact ⟨by rw [← HH.out]; rw [G0.out]; rfl, HB.out.trans ((below_regrown _ dq osq).mono HB.out.size)⟩
      · have G0 : Hid (U.may m u = false) := Lib.hid (by rw [HM.out]; simp [g0])
        have g1 : decide (0 ≤ u) = false := decide_eq_false g0
        go_enter Try.func19, Try.ntmps19
        go_wp2_with fail
        refine wp_region_quiet_below (by kernel_rfl) (by kernel_rfl) ?_
        repeat (go_big_quiet_step (fail))
        refine wpQuiet_nil ?_
        intro _ hw'
        obtain ⟨⟨dq, osq⟩, hw''⟩ := hw'
        subst hw''
        go_wp2
        go_ret
        exact ⟨by rw [← HH.out]; rw [G0.out]; rfl, HB.out.trans ((below_regrown _ dq osq).mono HB.out.size)⟩
    · have G0 : Hid (U.may n u = false) := Lib.hid (by unfold U.may; simp; omega)
      have g1 : decide (n ≤ 8) = false := decide_eq_false h1
      clear h1
      go_enter Try.func19, Try.ntmps19
      go_wp2_with fail
      refine wp_region_quiet_below (by kernel_rfl) (by kernel_rfl) ?_
      repeat (go_big_quiet_step (fail))
      refine wpQuiet_nil ?_
      intro _ hw'
      obtain ⟨⟨dq, osq⟩, hw''⟩ := hw'
      subst hw''
      go_wp2
      go_ret
      exact ⟨by rw [← HH.out]; rw [G0.out]; rfl, HB.out.trans ((below_regrown _ dq osq).mono HB.out.size)⟩
  · have G0 : Hid (U.may n u = false) := Lib.hid (by unfold U.may; simp; omega)
    have g1 : decide (0 ≤ n) = false := decide_eq_false h0
    clear h0
    go_enter Try.func19, Try.ntmps19
    go_wp2_with fail
    refine wp_region_quiet_below (by kernel_rfl) (by kernel_rfl) ?_
    repeat (go_big_quiet_step (fail))
    refine wpQuiet_nil ?_
    intro _ hw'
    obtain ⟨⟨dq, osq⟩, hw''⟩ := hw'
    subst hw''
    go_wp2
    go_ret
    exact ⟨by rw [← HH.out]; rw [G0.out]; rfl, HB.out.trans ((below_regrown _ dq osq).mono HB.out.size)⟩

set_option maxHeartbeats 400000 in
theorem refHas_any (n u i : Int) (b : Bool) (w : World) (h : U.has n u i = b) : Calls Try.prog 20 #[.agg #[.int .i64 n, .int .i64 u], .int .i64 i] w fun e w' => e = .returned (.bool b) ∧ Below w.heap.size w w' := by
  have HB := Lib.hid (ubox_below w n u)
  have HU := Lib.hid (ubox_blok w n u)
  have HH := Lib.hid h
  clear h
  cases hm : U.may n u
  · have G0 : Hid (U.has n u i = false) := Lib.hid (U.has_no (fun h => by rw [hm] at h; cases h.1)).1
    have hc := refMay_any n u false (ubox w n u) hm
    clear hm
    go_enter Try.func20, Try.ntmps20
    go_wp2_with fail
    refine hc.mono ?_
    rintro e w1 ⟨rfl, hb1⟩
    have hu := HU.out.below hb1 HU.out.lt
    have k0 := fun d os => cell_regrown (u0 hu) d os
    have k1 := fun d os => cell_regrown (u1 hu) d os
    have c0 := u0 hu
    have c1 := u1 hu
    have HB1 := Lib.hid (HB.out.trans (hb1.mono HB.out.size))
    clear hb1 hu
    go_wp2_with fail
    refine wp_region_quiet_below (by kernel_rfl) (by kernel_rfl) ?_
    repeat (go_big_quiet_step (fail))
    refine wpQuiet_nil ?_
    intro _ hw'
    obtain ⟨⟨dq, osq⟩, hw''⟩ := hw'
    subst hw''
    go_wp2
    go_ret
    exact ⟨by rw [← HH.out]; rw [G0.out]; rfl, HB1.out.trans ((below_regrown _ dq osq).mono HB1.out.size)⟩
  · have hc := refMay_any n u true (ubox w n u) hm
    by_cases h0 : 0 ≤ i
    · by_cases h1 : i < n
      · obtain ⟨I, rfl⟩ := Int.eq_ofNat_of_zero_le h0
        have hn := U.may_iff.1 hm
        obtain ⟨M, V, rfl, rfl, -, -, hV⟩ := U.may_cases hm
        obtain ⟨q, hq⟩ : ∃ q : Nat, 2 ^ I = q := ⟨_, rfl⟩
        have hqp : 0 < q := by rw [← hq]; exact Nat.two_pow_pos I
        have hp := fun W => pow_any I (q : Int) W (by omega) (by rw [← hq]; simp)
        obtain ⟨d, hd⟩ : ∃ d, V / q = d := ⟨_, rfl⟩
        have hdle : d ≤ V := by rw [← hd]; exact Nat.div_le_self _ _
        have e1 : ((V : Int) / (q : Int)) = (d : Int) := by rw [← hd]; simp
        have e2 : (V : Int).tdiv (q : Int) = (d : Int) := by rw [Int.tdiv_eq_ediv_of_nonneg (by omega)]; exact e1
        have e3 : IntKind.i64.wrap (d : Int) = (d : Int) := IntWalk.i64_in _ (by omega)
        have e4 : ¬ (q : Int) = 0 := by omega
        have e5 : ¬ q = 0 := by omega
        have G0 : Hid (U.has M V I = ((d : Int) % 2 == 1)) := Lib.hid (by
          unfold U.has
          rw [U.at_yes hm (by omega) h1]
          have e6 : (V : Int) / 2 ^ I = (d : Int) := by rw [← e1, ← hq]; simp
          unfold U.bit
          rw [Int.toNat_natCast, e6]
          by_cases h2 : (d : Int) % 2 = 1
          · simp [h2, U.num]
          · have : (d : Int) % 2 = 0 := by omega
            simp [this, U.num])
        clear hm hn hq hd h0 hqp
        go_enter Try.func20, Try.ntmps20
        go_wp2_with fail
        refine hc.mono ?_
        rintro e w1 ⟨rfl, hb1⟩
        have hu := HU.out.below hb1 HU.out.lt
        have k0 := fun d os => cell_regrown (u0 hu) d os
        have k1 := fun d os => cell_regrown (u1 hu) d os
        have c0 := u0 hu
        have c1 := u1 hu
        have HB1 := Lib.hid (HB.out.trans (hb1.mono HB.out.size))
        clear hb1 hu
        go_wp2_with fail
        refine wp_region_quiet_below (by kernel_rfl) (by kernel_rfl) ?_
        repeat (go_big_quiet_step (exact Calls.regrown_of (hp _)))
        refine wpQuiet_nil ?_
        intro _ hw'
        obtain ⟨⟨dq, osq⟩, hw''⟩ := hw'
        subst hw''
        go_wp2
        go_ret
        exact ⟨by rw [← HH.out]; rw [G0.out]; rfl, HB1.out.trans ((below_regrown _ dq osq).mono HB1.out.size)⟩
      · have G0 : Hid (U.has n u i = false) := Lib.hid (U.has_no (fun h => h1 h.2.2)).1
        have g1 : decide (i < n) = false := decide_eq_false h1
        clear hm h1
        go_enter Try.func20, Try.ntmps20
        go_wp2_with fail
        refine hc.mono ?_
        rintro e w1 ⟨rfl, hb1⟩
        have hu := HU.out.below hb1 HU.out.lt
        have k0 := fun d os => cell_regrown (u0 hu) d os
        have k1 := fun d os => cell_regrown (u1 hu) d os
        have c0 := u0 hu
        have c1 := u1 hu
        have HB1 := Lib.hid (HB.out.trans (hb1.mono HB.out.size))
        clear hb1 hu
        go_wp2_with fail
        refine wp_region_quiet_below (by kernel_rfl) (by kernel_rfl) ?_
        repeat (go_big_quiet_step (fail))
        refine wpQuiet_nil ?_
        intro _ hw'
        obtain ⟨⟨dq, osq⟩, hw''⟩ := hw'
        subst hw''
        go_wp2
        go_ret
        exact ⟨by rw [← HH.out]; rw [G0.out]; rfl, HB1.out.trans ((below_regrown _ dq osq).mono HB1.out.size)⟩
    · have G0 : Hid (U.has n u i = false) := Lib.hid (U.has_no (fun h => h0 h.2.1)).1
      have g1 : decide (0 ≤ i) = false := decide_eq_false h0
      clear hm h0
      go_enter Try.func20, Try.ntmps20
      go_wp2_with fail
      refine hc.mono ?_
      rintro e w1 ⟨rfl, hb1⟩
      have hu := HU.out.below hb1 HU.out.lt
      have k0 := fun d os => cell_regrown (u0 hu) d os
      have k1 := fun d os => cell_regrown (u1 hu) d os
      have c0 := u0 hu
      have c1 := u1 hu
      have HB1 := Lib.hid (HB.out.trans (hb1.mono HB.out.size))
      clear hb1 hu
      go_wp2_with fail
      refine wp_region_quiet_below (by kernel_rfl) (by kernel_rfl) ?_
      repeat (go_big_quiet_step (fail))
      refine wpQuiet_nil ?_
      intro _ hw'
      obtain ⟨⟨dq, osq⟩, hw''⟩ := hw'
      subst hw''
      go_wp2
      go_ret
      exact ⟨by rw [← HH.out]; rw [G0.out]; rfl, HB1.out.trans ((below_regrown _ dq osq).mono HB1.out.size)⟩

end Go.Proofs.Ytagkpkgflnccpaa
