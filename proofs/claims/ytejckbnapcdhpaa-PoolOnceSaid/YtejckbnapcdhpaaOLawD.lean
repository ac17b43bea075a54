/-
  PoolOnce, at every list and numbers.
-/
import Derived.Test.YtejckbnapcdhpaaOLaws
namespace Go.Proofs.Ytejckbnapcdhpaa
open Go.RowKit

set_option maxRecDepth 100000 in
set_option maxHeartbeats 1500000 in
theorem PoolOnce_in (a : Option Addr) (n c : Nat) (l : List O.Pl) (out at' : Int) (w : World) (h : QIn w a n c l) (hz : O.Sm l) :
    Calls Try.prog 6 #[.slice a n c, .int .i64 out, .int .i64 at'] w fun e w' => e = .returned (.bool true) ∧ Below w.heap.size w w' := by
  have HB0 := Lib.hid (Below.refl w.heap.size w)
  have HTx0 := Lib.hid h
  have hl := h.1
  have HZ := Lib.hid hz
  clear hz h
  by_cases hn : n ≤ 6
  · have g1 : decide ((6 : Int) < (n : Int)) = false := by simp; omega
    obtain ⟨pm, hpm⟩ : ∃ b, O.may l out = b := ⟨_, rfl⟩
    have HM := Lib.hid hpm
    by_cases hp1 : pm = false
    · subst hp1
      clear hpm
      go_enter Try.func6, Try.ntmps6
      go_wp2_with fail
      refine (oawake_any w).mono ?_
      rintro e w1 ⟨rfl, hb⟩
      have HTx1 := Lib.hid (HTx0.out.below hb)
      have HB1 := Lib.hid (HB0.out.trans (hb.mono HB0.out.size))
      clear hb HTx0 HB0
      go_wp2_with fail
      refine (may_any a n c l out false HM.out w1 HTx1.out (by omega) HZ.out).mono ?_
      rintro e w2 ⟨rfl, hb⟩
      have HTx2 := Lib.hid (HTx1.out.below hb)
      have HB2 := Lib.hid (HB1.out.trans (hb.mono HB1.out.size))
      clear hb HTx1 HB1
      go_wp2
      go_ret
      exact ⟨rfl, HB2.out⟩
    · obtain rfl : pm = true := by simpa using hp1
      have hm := O.may_iff.1 hpm
      clear hp1 hpm
      have hin : ∀ (i : Nat) (p : O.Pl), l[i]? = some p → 0 ≤ p.f ∧ 1 ≤ p.n ∧ p.f + p.n ≤ out ∧ out ≤ 4 ∧ (O.has p at' = true ↔ p.f ≤ at' ∧ at' < p.f + p.n) := fun i p hi => by
        have h1 := O.may_below hm hi
        have h2 := O.below_iff.1 h1
        exact ⟨h2.1, h2.2.1, by omega, hm.2.1, O.has_in h1 hm.2.1⟩
      have HIN := Lib.hid hin
      obtain ⟨r, hr⟩ : ∃ b, O.of l at' = b := ⟨_, rfl⟩
      have HR := Lib.hid hr
      obtain ⟨pg, hpg⟩ : ∃ b, O.gives l at' = b := ⟨_, rfl⟩
      have HG := Lib.hid hpg
      rcases O.of_cases l at' with ⟨h1, h2⟩ | ⟨i0, ⟨xf, xn, xs⟩, h1, hi0, hp0, -⟩
      · obtain rfl : -1 = r := by rw [← hr, h1]
        obtain rfl : false = pg := by rw [← hpg]; exact (O.gives_none h2).symm
        have HN := Lib.hid h2
        clear h1 h2 hr hpg hin hm hl
        have k0 : IntKind.i64.wrap 0 = 0 := by decide
        go_enter Try.func6, Try.ntmps6
        go_wp2_with fail
        refine (oawake_any w).mono ?_
        rintro e w1 ⟨rfl, hb⟩
        have HTx1 := Lib.hid (HTx0.out.below hb)
        have HB1 := Lib.hid (HB0.out.trans (hb.mono HB0.out.size))
        clear hb HTx0 HB0
        go_wp2_with fail
        refine (may_any a n c l out true HM.out w1 HTx1.out (by omega) HZ.out).mono ?_
        rintro e w2 ⟨rfl, hb⟩
        have HTx2 := Lib.hid (HTx1.out.below hb)
        have HB2 := Lib.hid (HB1.out.trans (hb.mono HB1.out.size))
        clear hb HTx1 HB1
        go_wp2_with fail
        refine (of_any a n c l at' (-1) HR.out w2 HTx2.out (by omega)).mono ?_
        rintro e w3 ⟨rfl, hb⟩
        have HTx3 := Lib.hid (HTx2.out.below hb)
        have HB3 := Lib.hid (HB2.out.trans (hb.mono HB2.out.size))
        clear hb HTx2 HB2
        go_wp2_with fail
        go_loopw [9, 10] (fun s1 s2 wr => ∃ j : Nat, s1 = .int .i64 0 ∧ s2 = .int .i64 j ∧ j ≤ n ∧ Hid (Below w3.heap.size w3 wr)) (fun _ i _ => n - (intOf i).toNat)
        case atStart => exact ⟨0, by go_num, by go_num, by omega, Lib.hid (Below.refl _ _)⟩
        case round =>
          obtain ⟨j, rfl, rfl, hjn, HBr⟩ := hrel
          by_cases hlt : j < n
          · have d1 : decide ((j : Int) < n) = true := by simp; omega
            obtain ⟨bx, ox, ⟨yf, yn, ys⟩, rfl, hbx, hyl, p0, p1, p2⟩ := (HTx3.out.below HBr.out).at hlt
            obtain ⟨k1, k2, k3, k5, k4⟩ := HIN.out j _ hyl
            have HYL := Lib.hid hyl
            dsimp only at k1 k2 k3 k4 k5 p0 p1 p2
            have j0 : (0 : Int) ≤ j := by omega
            have j1 : (j : Int) < n := by omega
            have hw : IntKind.i64.wrap (yf + yn) = yf + yn := IntWalk.i64_in _ (by omega)
            have hwj : IntKind.i64.wrap ((j : Int) + 1) = (j : Int) + 1 := IntWalk.i64_in _ (by omega)
            have cp0 := fun d os => cell_regrown p0 d os
            have cp1 := fun d os => cell_regrown p1 d os
            have cp2 := fun d os => cell_regrown p2 d os
            clear hbx hyl k1 k2 k3 k5
            have hno : ¬ (yf ≤ at' ∧ at' < yf + yn) := fun hh => by
              have h1 := HN.out _ (List.mem_of_getElem? HYL.out)
              rw [k4.2 hh] at h1; cases h1
            clear k4
            by_cases d2 : yf ≤ at'
            · have d3 : decide (yf ≤ at') = true := by simpa using d2
              have d4 : decide (at' < yf + yn) = false := by simp; omega
              clear hno d2
              go_wp2_with fail
              refine wp_region_quiet_below (by kernel_rfl) (by kernel_rfl) ?_
              repeat (go_big_quiet_step (fail))
              refine wpQuiet_nil ?_
              intro _ hw'
              obtain ⟨⟨dq, osq⟩, hw''⟩ := hw'
              subst hw''
              clear cp0 cp1 cp2 p0 p1 p2
              obtain ⟨W4, hW4⟩ : ∃ W4, Go.Sort.grow (redrawn wr dq) osq = W4 := ⟨_, rfl⟩
              have hb4 : Below wr.heap.size wr W4 := by rw [← hW4]; exact below_regrown _ _ _
              rw [hW4]
              clear hW4
              have HB4 := Lib.hid (HBr.out.trans (hb4.mono HBr.out.size))
              clear hb4
              go_wp2
              go_roundw
              case rel => exact ⟨j + 1, rfl, by go_num, by omega, HB4⟩
              case measure => simp [intOf] <;> omega
            · have d3 : decide (yf ≤ at') = false := by simpa using d2
              clear hno d2
              go_wp2_with fail
              refine wp_region_quiet_below (by kernel_rfl) (by kernel_rfl) ?_
              repeat (go_big_quiet_step (fail))
              refine wpQuiet_nil ?_
              intro _ hw'
              obtain ⟨⟨dq, osq⟩, hw''⟩ := hw'
              subst hw''
              clear cp0 cp1 cp2 p0 p1 p2
              obtain ⟨W4, hW4⟩ : ∃ W4, Go.Sort.grow (redrawn wr dq) osq = W4 := ⟨_, rfl⟩
              have hb4 : Below wr.heap.size wr W4 := by rw [← hW4]; exact below_regrown _ _ _
              rw [hW4]
              clear hW4
              have HB4 := Lib.hid (HBr.out.trans (hb4.mono HBr.out.size))
              clear hb4
              go_wp2
              go_roundw
              case rel => exact ⟨j + 1, rfl, by go_num, by omega, HB4⟩
              case measure => simp [intOf] <;> omega
          · have d1 : decide ((j : Int) < n) = false := by simp; omega
            have d1n : decide (j < n) = false := by simp; omega
            have HTx := Lib.hid (HTx3.out.below HBr.out)
            have HBX := Lib.hid (HB3.out.trans (HBr.out.mono HB3.out.size))
            clear HBr hlt
            go_wp2_with fail
            refine (gives_any a n c l at' false HG.out wr HTx.out (by omega)).mono ?_
            rintro e w9 ⟨rfl, hb⟩
            go_wp2
            go_ret
            exact ⟨rfl, HBX.out.trans (hb.mono HBX.out.size)⟩
      · obtain rfl : (i0 : Int) = r := by rw [← hr, h1]
        have hin0 := hin i0 _ hi0
        obtain rfl : decide (xs = 0) = pg := by rw [← hpg]; exact (O.gives_at hm hi0 hp0).symm
        have HP := Lib.hid hp0
        have hone : ∀ (j : Nat) (p : O.Pl), l[j]? = some p → O.has p at' = true → i0 = j := fun j p hj hp => O.one_has hm hi0 hj hp0 hp
        have HONE := Lib.hid hone
        have hlo := (hin0.2.2.2.2.1 hp0)
        dsimp only at hin0 hlo
        have hi1 : i0 < n := by rw [← hl]; exact (List.getElem?_eq_some_iff.1 hi0).1
        have i00 : (0 : Int) ≤ i0 := by omega
        have t1 : decide ((i0 : Int) < 0) = false := by simp
        have t2 : decide ((i0 : Int) < n) = true := by simp; omega
        have t3 : decide (0 ≤ at') = true := by simp; omega
        have t4 : decide (at' < out) = true := by simp; omega
        have HI0 := Lib.hid hi0
        clear h1 hr hpg hin hm hl hone hp0 hin0 hlo hi0
        go_enter Try.func6, Try.ntmps6
        go_wp2_with fail
        refine (oawake_any w).mono ?_
        rintro e w1 ⟨rfl, hb⟩
        have HTx1 := Lib.hid (HTx0.out.below hb)
        have HB1 := Lib.hid (HB0.out.trans (hb.mono HB0.out.size))
        clear hb HTx0 HB0
        go_wp2_with fail
        refine (may_any a n c l out true HM.out w1 HTx1.out (by omega) HZ.out).mono ?_
        rintro e w2 ⟨rfl, hb⟩
        have HTx2 := Lib.hid (HTx1.out.below hb)
        have HB2 := Lib.hid (HB1.out.trans (hb.mono HB1.out.size))
        clear hb HTx1 HB1
        go_wp2_with fail
        refine (of_any a n c l at' i0 HR.out w2 HTx2.out (by omega)).mono ?_
        rintro e w3 ⟨rfl, hb⟩
        have HTx3 := Lib.hid (HTx2.out.below hb)
        have HB3 := Lib.hid (HB2.out.trans (hb.mono HB2.out.size))
        clear hb HTx2 HB2
        go_wp2_with fail
        go_loopw [9, 10] (fun s1 s2 wr => ∃ j : Nat, s1 = .int .i64 (if i0 < j then 1 else 0) ∧ s2 = .int .i64 j ∧ j ≤ n ∧ Hid (Below w3.heap.size w3 wr)) (fun _ i _ => n - (intOf i).toNat)
        case atStart => exact ⟨0, by simp, by go_num, by omega, Lib.hid (Below.refl _ _)⟩
        case round =>
          obtain ⟨j, rfl, rfl, hjn, HBr⟩ := hrel
          by_cases hlt : j < n
          · have d1 : decide ((j : Int) < n) = true := by simp; omega
            obtain ⟨bx, ox, ⟨yf, yn, ys⟩, rfl, hbx, hyl, p0, p1, p2⟩ := (HTx3.out.below HBr.out).at hlt
            obtain ⟨k1, k2, k3, k5, k4⟩ := HIN.out j _ hyl
            have HYL := Lib.hid hyl
            dsimp only at k1 k2 k3 k4 k5 p0 p1 p2
            have j0 : (0 : Int) ≤ j := by omega
            have j1 : (j : Int) < n := by omega
            have hw : IntKind.i64.wrap (yf + yn) = yf + yn := IntWalk.i64_in _ (by omega)
            have hwj : IntKind.i64.wrap ((j : Int) + 1) = (j : Int) + 1 := IntWalk.i64_in _ (by omega)
            have cp0 := fun d os => cell_regrown p0 d os
            have cp1 := fun d os => cell_regrown p1 d os
            have cp2 := fun d os => cell_regrown p2 d os
            clear hbx hyl k1 k2 k3 k5
            by_cases hij : j = i0
            · subst hij
              obtain ⟨rfl, rfl, rfl⟩ : xf = yf ∧ xn = yn ∧ xs = ys := by have := HYL.out; rw [HI0.out] at this; cases this; exact ⟨rfl, rfl, rfl⟩
              have hyes := k4.1 HP.out
              have d3 : decide (xf ≤ at') = true := by simpa using hyes.1
              have d4 : decide (at' < xf + xn) = true := by simpa using hyes.2
              have d5 : ((j : Int) != j) = false := by simp
              have k0 : IntKind.i64.wrap (0 + 1) = 1 := by decide
              rw [if_neg (Nat.lt_irrefl j)]
              clear k4 hyes
              go_wp2_with fail
              refine wp_region_quiet_below (by kernel_rfl) (by kernel_rfl) ?_
              repeat (go_big_quiet_step (fail))
              refine wpQuiet_nil ?_
              intro _ hw'
              obtain ⟨⟨dq, osq⟩, hw''⟩ := hw'
              subst hw''
              clear cp0 cp1 cp2 p0 p1 p2
              obtain ⟨W4, hW4⟩ : ∃ W4, Go.Sort.grow (redrawn wr dq) osq = W4 := ⟨_, rfl⟩
              have hb4 : Below wr.heap.size wr W4 := by rw [← hW4]; exact below_regrown _ _ _
              rw [hW4]
              clear hW4
              have HB4 := Lib.hid (HBr.out.trans (hb4.mono HBr.out.size))
              clear hb4
              go_wp2
              go_roundw
              case rel => exact ⟨j + 1, by rw [if_pos (Nat.lt_succ_self j)], by go_num, by omega, HB4⟩
              case measure => simp [intOf] <;> omega
            · have hno : ¬ (yf ≤ at' ∧ at' < yf + yn) := fun hh => hij (HONE.out j _ HYL.out (k4.2 hh)).symm
              have HMJ : Hid ((if i0 < j + 1 then (1 : Int) else 0) = if i0 < j then 1 else 0) := Lib.hid (by rcases Nat.lt_or_ge i0 j with hq | hq; (· rw [if_pos hq, if_pos (by omega)]); (· rw [if_neg (by omega), if_neg (by omega)]))
              obtain ⟨mm, hmm⟩ : ∃ z : Int, (if i0 < j then 1 else 0) = z := ⟨_, rfl⟩
              rw [hmm] at HMJ ⊢
              clear k4 hmm
              by_cases d2 : yf ≤ at'
              · have d3 : decide (yf ≤ at') = true := by simpa using d2
                have d4 : decide (at' < yf + yn) = false := by simp; omega
                clear hno d2
                go_wp2_with fail
                refine wp_region_quiet_below (by kernel_rfl) (by kernel_rfl) ?_
                repeat (go_big_quiet_step (fail))
                refine wpQuiet_nil ?_
                intro _ hw'
                obtain ⟨⟨dq, osq⟩, hw''⟩ := hw'
                subst hw''
                clear cp0 cp1 cp2 p0 p1 p2
                obtain ⟨W4, hW4⟩ : ∃ W4, Go.Sort.grow (redrawn wr dq) osq = W4 := ⟨_, rfl⟩
                have hb4 : Below wr.heap.size wr W4 := by rw [← hW4]; exact below_regrown _ _ _
                rw [hW4]
                clear hW4
                have HB4 := Lib.hid (HBr.out.trans (hb4.mono HBr.out.size))
                clear hb4
                go_wp2
                go_roundw
                case rel => exact ⟨j + 1, by rw [HMJ.out], by go_num, by omega, HB4⟩
                case measure => simp [intOf] <;> omega
              · have d3 : decide (yf ≤ at') = false := by simpa using d2
                clear hno d2
                go_wp2_with fail
                refine wp_region_quiet_below (by kernel_rfl) (by kernel_rfl) ?_
                repeat (go_big_quiet_step (fail))
                refine wpQuiet_nil ?_
                intro _ hw'
                obtain ⟨⟨dq, osq⟩, hw''⟩ := hw'
                subst hw''
                clear cp0 cp1 cp2 p0 p1 p2
                obtain ⟨W4, hW4⟩ : ∃ W4, Go.Sort.grow (redrawn wr dq) osq = W4 := ⟨_, rfl⟩
                have hb4 : Below wr.heap.size wr W4 := by rw [← hW4]; exact below_regrown _ _ _
                rw [hW4]
                clear hW4
                have HB4 := Lib.hid (HBr.out.trans (hb4.mono HBr.out.size))
                clear hb4
                go_wp2
                go_roundw
                case rel => exact ⟨j + 1, by rw [HMJ.out], by go_num, by omega, HB4⟩
                case measure => simp [intOf] <;> omega
          · have d1 : decide ((j : Int) < n) = false := by simp; omega
            have d1n : decide (j < n) = false := by simp; omega
            have hmj : (if i0 < j then (1 : Int) else 0) = 1 := if_pos (by omega)
            rw [hmj]
            clear hmj
            obtain ⟨bx, ox, ⟨yf, yn, ys⟩, rfl, hbx, hyl, p0, p1, p2⟩ := (HTx3.out.below HBr.out).at hi1
            cases (Option.some.inj ((hyl.symm.trans HI0.out)))
            dsimp only at p0 p1 p2
            have HTx := Lib.hid (HTx3.out.below HBr.out)
            have HBX := Lib.hid (HB3.out.trans (HBr.out.mono HB3.out.size))
            have t5 : (decide (xs = 0) == (xs == 0)) = true := by simp [BEq.beq]
            have cp0 := fun d os => cell_regrown p0 d os
            have cp1 := fun d os => cell_regrown p1 d os
            have cp2 := fun d os => cell_regrown p2 d os
            have t6 : decide (i0 < n) = true := by simp; omega
            have c1 := fun d os => gives_any (some ⟨bx, ox, none⟩) n c l at' (decide (xs = 0)) HG.out (Go.Sort.grow (redrawn wr d) os) (HTx.out.below (below_regrown wr d os)) (by omega)
            clear HBr hlt hyl hbx
            go_wp2_with fail
            refine wp_region_quiet_below (by kernel_rfl) (by kernel_rfl) ?_
            repeat (go_big_quiet_step (exact Calls.regrown_of (c1 _ _)))
            refine wpQuiet_nil ?_
            intro _ hw'
            obtain ⟨⟨dq, osq⟩, hw''⟩ := hw'
            subst hw''
            have hb4 : Below wr.heap.size wr (Go.Sort.grow (redrawn wr dq) osq) := below_regrown _ _ _
            have HB9 := Lib.hid (HBX.out.trans (hb4.mono HBX.out.size))
            clear hb4 cp0 cp1 cp2 c1 p0 p1 p2
            go_wp2
            go_ret
            exact ⟨rfl, HB9.out⟩
  · have g1 : decide ((6 : Int) < (n : Int)) = true := by simp; omega
    go_enter Try.func6, Try.ntmps6
    go_wp2_with fail
    refine (oawake_any w).mono ?_
    rintro e w1 ⟨rfl, hb⟩
    have HTx1 := Lib.hid (HTx0.out.below hb)
    have HB1 := Lib.hid (HB0.out.trans (hb.mono HB0.out.size))
    clear hb HTx0 HB0
    go_wp2
    go_ret
    exact ⟨rfl, HB1.out⟩
end Go.Proofs.Ytejckbnapcdhpaa
