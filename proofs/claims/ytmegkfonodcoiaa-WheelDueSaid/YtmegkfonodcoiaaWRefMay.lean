/-
  A walk of mooringsref10.May.
-/
import Derived.Test.YtmegkfonodcoiaaWMayC
namespace Go.Proofs.Ytmegkfonodcoiaa
open Go.RowKit

set_option maxRecDepth 100000 in
set_option maxHeartbeats 1000000 in
theorem refMay_any (k : Int) (a : Option Addr) (n c : Nat) (l : List W.Tm) (w : World) (h : TIn w a n c l) (hn : n ≤ 1000) (p : Bool) (hp : W.may k l = p) :
    Calls Try.prog 21 #[.agg #[.int .i64 k, .slice a n c]] w fun e w' => e = .returned (.bool p) ∧ Below w.heap.size w w' := by
  have HT := Lib.hid h
  have HP := Lib.hid hp
  have BX := Lib.hid (wbox_blok w k a n c)
  have BB := Lib.hid (wbox_below w k a n c)
  have u0 := BX.out.b0
  have u1 := BX.out.b1
  unfold wbox at u0 u1
  clear h hp
  go_enter Try.func21, Try.ntmps21
  by_cases hb : 0 ≤ k ∧ k ≤ 1073741824 ∧ n ≤ 64
  · obtain ⟨h1, h2, h3⟩ := hb
    have d1 : decide (k < 0) = false := by simp; omega
    have d2 : decide ((1073741824 : Int) < k) = false := by simp; omega
    have d3 : decide ((64 : Int) < (n : Int)) = false := by simp; omega
    go_wp2_with fail
    obtain ⟨W1, hW1⟩ : ∃ W1, w.alloc (.cells #[.int .i64 k, .slice a n c] 24) = W1 := ⟨_, rfl⟩
    have BX1 : Hid (Blok W1 w.heap.size 24 #[.int .i64 k, .slice a n c]) := Lib.hid (by rw [← hW1]; exact BX.out)
    have BB1 : Hid (Below w.heap.size w W1) := Lib.hid (by rw [← hW1]; exact BB.out)
    rw [hW1]
    clear hW1 u0 u1 BX BB
    go_loopw [3] (fun i wr => ∃ j : Nat, i = .int .i64 j ∧ j ≤ n ∧ Hid (∀ t ∈ l.take j, W.ok k t = true) ∧ Hid (W.Ids (l.take j)) ∧ Hid (∀ i x y, i + 1 < j → l[i]? = some x → l[i + 1]? = some y → W.lt x y = true) ∧ Hid (Below W1.heap.size W1 wr)) (fun i _ => n - (intOf i).toNat)
    case atStart => exact ⟨0, by go_num, by omega, Lib.hid (by simp), Lib.hid (by simp [W.Ids]), Lib.hid (fun i x y hi => absurd hi (Nat.not_lt_zero _)), Lib.hid (Below.refl _ _)⟩
    case round =>
      obtain ⟨j, rfl, hjn, HA, HI, HS, HB⟩ := hrel
      have HBX := Lib.hid (BX1.out.on' HB.out)
      have HBW := Lib.hid (BB1.out.trans (HB.out.mono BB1.out.size))
      have z0 := HBX.out.b0
      have z1 := HBX.out.b1
      by_cases hlt : j < n
      · have dj : decide ((j : Int) < n) = true := by simp; omega
        obtain ⟨b, off, x, rfl, hbl, hx, p1, p2⟩ := (HT.out.below HBW.out).at hlt
        have HX := Lib.hid hx
        have j0 : (0 : Int) ≤ j := by omega
        have j1 : (j : Int) < n := by omega
        have TB := Lib.hid (tbox_blok wr x)
        have TBB := Lib.hid (tbox_below wr x)
        have HBX2 := Lib.hid (HBX.out.on' TBB.out)
        have HBW2 := Lib.hid (HBW.out.trans (TBB.out.mono HBW.out.size))
        have HB2 := Lib.hid (HB.out.trans (TBB.out.mono HB.out.size))
        clear hx
        obtain ⟨q1, hq1⟩ : ∃ q, decide (x.2 ≤ k) = q := ⟨_, rfl⟩
        obtain ⟨q2, hq2⟩ : ∃ q, decide ((1073741824 : Int) < x.2) = q := ⟨_, rfl⟩
        obtain ⟨q3, hq3⟩ : ∃ q, decide (x.1 < 0) = q := ⟨_, rfl⟩
        have HQ : Hid (W.ok k x = (!q1 && !q2 && !q3)) := Lib.hid (by
          rw [← hq1, ← hq2, ← hq3]; unfold W.ok; rw [Bool.eq_iff_iff]; simp only [Bool.and_eq_true, Bool.not_eq_true', decide_eq_true_eq, decide_eq_false_iff_not]; omega)
        have NO1 : Hid ((!q1 && !q2 && !q3) = false → p = false) := Lib.hid (fun h => by
          rw [← HP.out]
          refine W.may_no fun hm => ?_
          have := hm.2.2.2.1 x (List.mem_of_getElem? HX.out)
          rw [HQ.out, h] at this; cases this)
        have t0 := TB.out.b0
        have t1 := TB.out.b1
        have v0 := HBX2.out.b0
        have v1 := HBX2.out.b1
        unfold tbox at t0 t1 v0 v1
        cases q1 with
        | true =>
          have HE := Lib.hid (NO1.out (by simp))
          go_wp2
          go_ret
          exact ⟨by rw [HE.out]; rfl, HBW2.out⟩
        | false =>
          cases q2 with
          | true =>
            have HE := Lib.hid (NO1.out (by simp))
            go_wp2
            go_ret
            exact ⟨by rw [HE.out]; rfl, HBW2.out⟩
          | false =>
            cases q3 with
            | true =>
              have HE := Lib.hid (NO1.out (by simp))
              go_wp2
              go_ret
              exact ⟨by rw [HE.out]; rfl, HBW2.out⟩
            | false =>
              have HA2 := Lib.hid (W.ok_snoc HX.out HA.out (by rw [HQ.out]; rfl))
              clear NO1 HQ
              go_wp2_with fail
              obtain ⟨W2, hW2⟩ : ∃ W2, wr.alloc (.cells #[.int .i64 x.1, .int .i64 x.2] 40) = W2 := ⟨_, rfl⟩
              have TB3 : Hid (Blok W2 wr.heap.size 40 #[.int .i64 x.1, .int .i64 x.2]) := Lib.hid (by rw [← hW2]; exact TB.out)
              have HBX3 : Hid (Blok W2 w.heap.size 24 #[.int .i64 k, .slice (some ⟨b, off, none⟩) n c]) := Lib.hid (by rw [← hW2]; exact HBX2.out)
              have HBW3 : Hid (Below w.heap.size w W2) := Lib.hid (by rw [← hW2]; exact HBW2.out)
              have HB3 : Hid (Below W1.heap.size W1 W2) := Lib.hid (by rw [← hW2]; exact HB2.out)
              rw [hW2]
              clear hW2 TB TBB HBX2 HBW2 HB2 p1 p2 t0 t1 v0 v1
              have t0 := TB3.out.b0
              have t1 := TB3.out.b1
              have v0 := HBX3.out.b0
              have v1 := HBX3.out.b1
              have ct0 := fun d os => cell_regrown t0 d os
              have ct1 := fun d os => cell_regrown t1 d os
              have cv0 := fun d os => cell_regrown v0 d os
              have cv1 := fun d os => cell_regrown v1 d os
              by_cases hj0 : j = 0
              · subst hj0
                have HS2 : Hid (∀ i x y, i + 1 < 0 + 1 → l[i]? = some x → l[i + 1]? = some y → W.lt x y = true) := Lib.hid (fun i x y hi => by omega)
                go_wp2_with fail
                refine wp_region_quiet_below (by kernel_rfl) (by kernel_rfl) ?_
                repeat (go_big_quiet_step (fail))
                refine wpQuiet_nil ?_
                intro _ hw'
                obtain ⟨⟨dq, osq⟩, hw''⟩ := hw'
                subst hw''
                clear ct0 ct1 cv0 cv1 t0 t1 v0 v1 
                obtain ⟨W4, hW4⟩ : ∃ W4, Go.Sort.grow (redrawn W2 dq) osq = W4 := ⟨_, rfl⟩
                have hb4 : Below W2.heap.size W2 W4 := by rw [← hW4]; exact below_regrown _ _ _
                rw [hW4]
                clear hW4
                have HB4 := Lib.hid (HB3.out.trans (hb4.mono HB3.out.size))
                have HBW4 := Lib.hid (HBW3.out.trans (hb4.mono HBW3.out.size))
                have TB4 := Lib.hid (TB3.out.on' hb4)
                have HBX4 := Lib.hid (HBX3.out.on' hb4)
                clear hb4
                go_wp2_with fail
                go_loopw [6] (fun i wx => ∃ m : Nat, i = .int .i64 m ∧ m ≤ 0 ∧ Hid (∀ i y, i < m → l[i]? = some y → y.1 ≠ x.1) ∧ Hid (Below W4.heap.size W4 wx)) (fun i _ => n - (intOf i).toNat)
                case atStart => exact ⟨0, by go_num, by omega, Lib.hid (fun i y hi => absurd hi (Nat.not_lt_zero _)), Lib.hid (Below.refl _ _)⟩
                case round =>
                  obtain ⟨m, rfl, hmj, HM, HBm⟩ := hrel
                  have HBWm := Lib.hid (HBW4.out.trans (HBm.out.mono HBW4.out.size))
                  have HB1m := Lib.hid (HB4.out.trans (HBm.out.mono HB4.out.size))
                  by_cases hlm : m < 0
                  · omega
                  · have dm : decide ((m : Int) < (0 : Nat)) = false := decide_eq_false (by omega)
                    have HI2 := Lib.hid (W.ids_snoc HX.out HI.out (by simp [W.has]))
                    go_wp2
                    go_roundw
                    case rel => exact ⟨0 + 1, by go_num, by omega, HA2, HI2, HS2, HB1m⟩
                    case measure => simp [intOf] <;> omega
              · obtain ⟨jj, rfl⟩ : ∃ m, j = m + 1 := ⟨j - 1, by omega⟩
                obtain ⟨b2, off2, y, he2, hb2, hy, r1, r2⟩ := (HT.out.below HBW3.out).at (i := jj) (by omega)
                cases he2
                have HY := Lib.hid hy
                clear hy
                obtain ⟨J, hJ⟩ : ∃ J, jj + 1 = J := ⟨_, rfl⟩
                have HJ := Lib.hid hJ
                have ej : (J : Int) - 1 = (jj : Int) := by omega
                have wj : IntKind.i64.wrap ((J : Int) - 1) = (jj : Int) := by rw [ej]; exact IntWalk.i64_in _ (by omega)
                have m0 : (0 : Int) ≤ jj := by omega
                have m1 : (jj : Int) < n := by omega
                have hjz : ((J : Int) == 0) = false := by simp; omega
                have hJn : J ≤ n := by omega
                have hJn2 : J < n := by omega
                rw [hJ] at HA HI HS HX hj0 hlt hjn j0 j1 dj HA2 ⊢
                have hlj : jj < J := by omega
                clear hJ
                have cr1 := fun d os => cell_regrown r1 d os
                have cr2 := fun d os => cell_regrown r2 d os
                obtain ⟨q, hq⟩ : ∃ q, W.lt y x = q := ⟨_, rfl⟩
                have c1 := fun V => before_any y x V q hq
                have HQ := Lib.hid hq
                cases q with
                | false =>
                  have HE : Hid (p = false) := Lib.hid (by
                    rw [← HP.out]
                    refine W.may_no fun hm => ?_
                    obtain ⟨e1, rfl⟩ := List.getElem?_eq_some_iff.1 HY.out
                    obtain ⟨e2, rfl⟩ := List.getElem?_eq_some_iff.1 HX.out
                    have := List.pairwise_iff_getElem.1 hm.2.2.2.2.1 jj J e1 e2 hlj
                    rw [HQ.out] at this; cases this)
                  go_wp2_with fail
                  refine wp_region_quiet_below (by kernel_rfl) (by kernel_rfl) ?_
                  repeat (go_big_quiet_step (first | with_reducible exact Calls.regrown_of (c1 _)))
                  refine wpQuiet_nil ?_
                  intro _ hw'
                  obtain ⟨⟨dq, osq⟩, hw''⟩ := hw'
                  subst hw''
                  clear ct0 ct1 cv0 cv1 t0 t1 v0 v1 c1 cr1 cr2 r1 r2
                  obtain ⟨W4, hW4⟩ : ∃ W4, Go.Sort.grow (redrawn W2 dq) osq = W4 := ⟨_, rfl⟩
                  have hb4 : Below W2.heap.size W2 W4 := by rw [← hW4]; exact below_regrown _ _ _
                  rw [hW4]
                  clear hW4
                  have HB4 := Lib.hid (HB3.out.trans (hb4.mono HB3.out.size))
                  have HBW4 := Lib.hid (HBW3.out.trans (hb4.mono HBW3.out.size))
                  have TB4 := Lib.hid (TB3.out.on' hb4)
                  have HBX4 := Lib.hid (HBX3.out.on' hb4)
                  clear hb4
                  go_wp2
                  go_ret
                  exact ⟨by rw [HE.out]; rfl, HBW4.out⟩
                | true =>
                  have HS2 : Hid (∀ i x y, i + 1 < J + 1 → l[i]? = some x → l[i + 1]? = some y → W.lt x y = true) := Lib.hid (fun i x' y' hi hx' hy' => by
                    have hJ := HJ.out
                    by_cases hij : i = jj
                    · subst hij
                      rw [HY.out] at hx'; rw [hJ, HX.out] at hy'; cases hx'; cases hy'; exact HQ.out
                    · exact HS.out i x' y' (by omega) hx' hy')
                  go_wp2_with fail
                  refine wp_region_quiet_below (by kernel_rfl) (by kernel_rfl) ?_
                  repeat (go_big_quiet_step (first | with_reducible exact Calls.regrown_of (c1 _)))
                  refine wpQuiet_nil ?_
                  intro _ hw'
                  obtain ⟨⟨dq, osq⟩, hw''⟩ := hw'
                  subst hw''
                  clear ct0 ct1 cv0 cv1 t0 t1 v0 v1 c1 cr1 cr2 r1 r2
                  obtain ⟨W4, hW4⟩ : ∃ W4, Go.Sort.grow (redrawn W2 dq) osq = W4 := ⟨_, rfl⟩
                  have hb4 : Below W2.heap.size W2 W4 := by rw [← hW4]; exact below_regrown _ _ _
                  rw [hW4]
                  clear hW4
                  have HB4 := Lib.hid (HB3.out.trans (hb4.mono HB3.out.size))
                  have HBW4 := Lib.hid (HBW3.out.trans (hb4.mono HBW3.out.size))
                  have TB4 := Lib.hid (TB3.out.on' hb4)
                  have HBX4 := Lib.hid (HBX3.out.on' hb4)
                  clear hb4
                  go_wp2_with fail
                  go_loopw [6] (fun i wx => ∃ m : Nat, i = .int .i64 m ∧ m ≤ J ∧ Hid (∀ i y, i < m → l[i]? = some y → y.1 ≠ x.1) ∧ Hid (Below W4.heap.size W4 wx)) (fun i _ => n - (intOf i).toNat)
                  case atStart => exact ⟨0, by go_num, by omega, Lib.hid (fun i y hi => absurd hi (Nat.not_lt_zero _)), Lib.hid (Below.refl _ _)⟩
                  case round =>
                    obtain ⟨m, rfl, hmj, HM, HBm⟩ := hrel
                    have HBWm := Lib.hid (HBW4.out.trans (HBm.out.mono HBW4.out.size))
                    have HB1m := Lib.hid (HB4.out.trans (HBm.out.mono HB4.out.size))
                    by_cases hlm : m < J
                    · have dm : decide ((m : Int) < J) = true := by simp; omega
                      obtain ⟨b2, off2, y, he2, hb2, hy, r1, r2⟩ := (HT.out.below HBWm.out).at (i := m) (by omega)
                      cases he2
                      have HY := Lib.hid hy
                      clear hy
                      have m0 : (0 : Int) ≤ m := by omega
                      have m1 : (m : Int) < n := by omega
                      have HBXm := Lib.hid (HBX4.out.on' HBm.out)
                      have TBm := Lib.hid (TB4.out.on' HBm.out)
                      have t0 := TBm.out.b0
                      have v1 := HBXm.out.b1
                      obtain ⟨q, hq⟩ : ∃ q, (y.1 == x.1) = q := ⟨_, rfl⟩
                      have HQ := Lib.hid hq
                      cases q with
                      | true =>
                        have HE : Hid (p = false) := Lib.hid (by
                          rw [← HP.out]
                          refine W.may_no fun hm => ?_
                          obtain ⟨e1, rfl⟩ := List.getElem?_eq_some_iff.1 HY.out
                          obtain ⟨e2, rfl⟩ := List.getElem?_eq_some_iff.1 HX.out
                          exact (List.pairwise_iff_getElem.1 hm.2.2.2.2.2 m J e1 e2 hlm) (by simpa using HQ.out))
                        go_wp2_with fail
                        go_quiet (fail)
                        go_wp2
                        go_ret
                        exact ⟨by rw [HE.out]; rfl, HBWm.out.trans (below_drewN _ _ _)⟩
                      | false =>
                        have HM2 : Hid (∀ i y, i < m + 1 → l[i]? = some y → y.1 ≠ x.1) := Lib.hid (fun i y' hi hy' => by
                          by_cases him : i = m
                          · subst him; rw [HY.out] at hy'; cases hy'; simpa using HQ.out
                          · exact HM.out i y' (by omega) hy')
                        go_wp2_with fail
                        go_quiet (fail)
                        go_wp2
                        go_roundw
                        case rel => exact ⟨m + 1, by go_num, by omega, HM2, Lib.hid (HBm.out.trans (below_drewN _ _ _))⟩
                        case measure => simp [intOf] <;> omega
                    · have dm : decide ((m : Int) < J) = false := by simp; omega
                      have HI2 := Lib.hid (W.ids_snoc HX.out HI.out (W.has_false.2 (fun t ht => by
                        obtain ⟨i, hi, rfl⟩ := List.mem_iff_getElem.1 ht
                        simp at hi
                        rw [List.getElem_take]
                        exact HM.out i _ (by omega) (List.getElem?_eq_getElem (by omega)))))
                      go_wp2
                      go_roundw
                      case rel => exact ⟨J + 1, by go_num, by omega, HA2, HI2, HS2, HB1m⟩
                      case measure => simp [intOf] <;> omega
      · have dj : decide ((j : Int) < n) = false := by simp; omega
        obtain rfl : j = n := by omega
        have HE : Hid (p = true) := Lib.hid (by
          have hlt2 : l.take j = l := List.take_of_length_le (by rw [HT.out.1]; exact Nat.le_refl _)
          have hA := HA.out
          have hI := HI.out
          rw [hlt2] at hA hI
          rw [← HP.out, W.may_iff]
          exact ⟨h1, h2, by rw [HT.out.1]; exact h3, hA, W.asc_of_next (fun i hi => HS.out i _ _ (by rw [← HT.out.1]; exact hi) (List.getElem?_eq_getElem (by omega)) (List.getElem?_eq_getElem hi)), hI⟩)
        go_wp2
        go_ret
        exact ⟨by rw [HE.out]; rfl, HBW.out⟩
  · have HE : Hid (p = false) := Lib.hid (by
      rw [← HP.out]
      exact W.may_no fun hm => hb ⟨hm.1, hm.2.1, by rw [← HT.out.1]; exact hm.2.2.1⟩)
    by_cases h1 : k < 0
    · have d1 : decide (k < 0) = true := by simpa using h1
      go_wp2
      go_ret
      exact ⟨by rw [HE.out]; rfl, BB.out⟩
    · have d1 : decide (k < 0) = false := by simpa using h1
      by_cases h2 : 1073741824 < k
      · have d2 : decide ((1073741824 : Int) < k) = true := by simpa using h2
        go_wp2
        go_ret
        exact ⟨by rw [HE.out]; rfl, BB.out⟩
      · have d2 : decide ((1073741824 : Int) < k) = false := by simpa using h2
        have d3 : decide ((64 : Int) < (n : Int)) = true := by simp; omega
        go_wp2
        go_ret
        exact ⟨by rw [HE.out]; rfl, BB.out⟩
end Go.Proofs.Ytmegkfonodcoiaa
