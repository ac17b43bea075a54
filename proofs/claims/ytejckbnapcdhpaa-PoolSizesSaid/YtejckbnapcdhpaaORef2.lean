/-
  The document's others, May.
-/
import Derived.Test.YtejckbnapcdhpaaORef1
import Derived.Test.YtejckbnapcdhpaaOMay
namespace Go.Proofs.Ytejckbnapcdhpaa
open Go.RowKit

def O.oth (l : List O.Pl) (k : Int) (p : O.Pl) (i : Nat) : Bool := decide ((i : Int) ≠ k) && O.meet (l.getD i O.zp) p
def O.others (l : List O.Pl) (k : Int) (p : O.Pl) : Bool := (List.range l.length).any (O.oth l k p)
theorem O.getD_some {l : List O.Pl} {i : Nat} {x : O.Pl} (h : l[i]? = some x) : l.getD i O.zp = x := by rw [List.getD_eq_getElem?_getD, h]; rfl
theorem O.others_no {l : List O.Pl} {k : Int} {p : O.Pl} (h : ∀ i, i < l.length → O.oth l k p i = false) : O.others l k p = false := by
  rw [Bool.eq_false_iff]; intro h1
  obtain ⟨i, hi, h2⟩ := List.any_eq_true.1 h1
  rw [h i (List.mem_range.1 hi)] at h2; cases h2
theorem O.others_yes {l : List O.Pl} {k : Int} {p : O.Pl} {i : Nat} (hi : i < l.length) (h : O.oth l k p i = true) : O.others l k p = true :=
  List.any_eq_true.2 ⟨i, List.mem_range.2 hi, h⟩
set_option maxRecDepth 100000 in
set_option maxHeartbeats 600000 in
theorem refOthers_any (a : Option Addr) (n c : Nat) (l : List O.Pl) (k : Int) (p : O.Pl) (v : Bool) (hv : O.others l k p = v) (w : World) (h : QIn w a n c l) (hn : n ≤ 1000000) :
    Calls Try.prog 33 #[.slice a n c, .int .i64 k, O.val p] w fun e w' => e = .returned (.bool v) ∧ Below w.heap.size w w' := by
  have HV := Lib.hid hv
  have HT := Lib.hid (h.below (O.box_below w p))
  have HP := Lib.hid (O.box_is w p)
  have HB := Lib.hid (O.box_below w p)
  obtain ⟨W, hW⟩ : ∃ W, O.box w p = W := ⟨_, rfl⟩
  rw [hW] at HT HP HB
  unfold O.box at hW
  unfold O.val
  clear h hv
  go_enter Try.func33, Try.ntmps33
  go_wp2_with fail
  clear hW
  go_loopw [7] (fun i wr => ∃ j : Nat, i = .int .i64 j ∧ j ≤ n ∧ Hid (∀ i, i < j → O.oth l k p i = false) ∧ Hid (Below W.heap.size W wr)) (fun i _ => n - (intOf i).toNat)
  case atStart => exact ⟨0, rfl, by omega, Lib.hid (by intro i hi; omega), Lib.hid (Below.refl _ _)⟩
  case round =>
    obtain ⟨j, rfl, hjn, HA, HBr⟩ := hrel
    have HBw := Lib.hid (HB.out.trans (HBr.out.mono HB.out.size))
    by_cases hlt : j < n
    · have d1 : decide ((j : Int) < n) = true := by simp; omega
      obtain ⟨b, off, x, rfl, hbl, hx, p0, p1, p2⟩ := (HT.out.below HBr.out).at hlt
      have HX := Lib.hid hx
      have j0 : (0 : Int) ≤ j := by omega
      have j1 : (j : Int) < n := by omega
      have HPr := Lib.hid (HP.out.on HBr.out)
      have q0 := HPr.out.b0
      have q1 := HPr.out.b1
      have q2 := HPr.out.b2
      obtain ⟨u, hu⟩ : ∃ u, O.meet x p = u := ⟨_, rfl⟩
      have HU : Hid (O.oth l k p j = (decide ((j : Int) ≠ k) && u)) := Lib.hid (by rw [← hu]; unfold O.oth; rw [O.getD_some hx])
      have c1 := fun V => meet_any x p u hu V
      have cp0 := fun d os => cell_regrown p0 d os
      have cp1 := fun d os => cell_regrown p1 d os
      have cp2 := fun d os => cell_regrown p2 d os
      have cq0 := fun d os => cell_regrown q0 d os
      have cq1 := fun d os => cell_regrown q1 d os
      have cq2 := fun d os => cell_regrown q2 d os
      unfold O.val at c1
      clear hu hx
      go_wp2_with fail
      refine wp_region_quiet_below (by kernel_rfl) (by kernel_rfl) ?_
      repeat (go_big_quiet_step (with_reducible exact Calls.regrown_of (c1 _)))
      refine wpQuiet_nil ?_
      intro _ hw'
      obtain ⟨⟨dq, osq⟩, hw''⟩ := hw'
      subst hw''
      clear cp0 cp1 cp2 cq0 cq1 cq2 p0 p1 p2 q0 q1 q2 c1
      obtain ⟨W4, hW4⟩ : ∃ W4, Go.Sort.grow (redrawn wr dq) osq = W4 := ⟨_, rfl⟩
      have hb4 : Below wr.heap.size wr W4 := by rw [← hW4]; exact below_regrown _ _ _
      rw [hW4]
      clear hW4
      have HB4 := Lib.hid (HBr.out.trans (hb4.mono HBr.out.size))
      have HBW4 := Lib.hid (HBw.out.trans (hb4.mono HBw.out.size))
      clear hb4
      have NX : Hid (O.oth l k p j = false → ∀ i, i < j + 1 → O.oth l k p i = false) := Lib.hid (fun h i hi => by
        rcases Nat.lt_succ_iff_lt_or_eq.1 hi with h1 | rfl
        · exact HA.out i h1
        · exact h)
      by_cases hjk : (j : Int) = k
      · have e1 : ((j : Int) != k) = false := by simpa using hjk
        have HN := Lib.hid (NX.out (by rw [HU.out, decide_eq_false (fun h => h hjk)]; rfl))
        go_wp2
        go_roundw
        case rel => exact ⟨j + 1, by go_num, by omega, HN, HB4⟩
        case measure => simp [intOf] <;> omega
      · have e1 : ((j : Int) != k) = true := by simpa using hjk
        cases u with
        | true =>
          have HE : Hid (v = true) := Lib.hid (by rw [← HV.out]; exact O.others_yes (by rw [HT.out.1]; exact hlt) (by rw [HU.out, decide_eq_true hjk]; rfl))
          go_wp2
          go_ret
          exact ⟨by rw [HE.out]; rfl, HBW4.out⟩
        | false =>
          have HN := Lib.hid (NX.out (by rw [HU.out, Bool.and_false]))
          go_wp2
          go_roundw
          case rel => exact ⟨j + 1, by go_num, by omega, HN, HB4⟩
          case measure => simp [intOf] <;> omega
    · have d1 : decide ((j : Int) < n) = false := by simp; omega
      have HE : Hid (v = false) := Lib.hid (by rw [← HV.out]; exact O.others_no (fun i hi => HA.out i (by have := HT.out.1; omega)))
      go_wp2
      go_ret
      exact ⟨by rw [HE.out]; rfl, HBw.out⟩

set_option maxRecDepth 100000 in
set_option maxHeartbeats 1000000 in
theorem refMay_any (a : Option Addr) (n c : Nat) (l : List O.Pl) (out : Int) (p : Bool) (hp : O.may l out = p) (w : World) (h : QIn w a n c l) (hn : n ≤ 1000) :
    Calls Try.prog 20 #[.slice a n c, .int .i64 out] w fun e w' => e = .returned (.bool p) ∧ Below w.heap.size w w' := by
  have HT := Lib.hid h
  have HP := Lib.hid hp
  clear h hp
  go_enter Try.func20, Try.ntmps20
  by_cases hb : 0 ≤ out ∧ out ≤ 4 ∧ n ≤ 3
  · obtain ⟨h1, h2, h3⟩ := hb
    have d1 : decide (out < 0) = false := by simp; omega
    have d2 : decide (4 < out) = false := by simp; omega
    have d3 : decide (3 < (n : Int)) = false := by simp; omega
    go_wp2_with fail
    go_loopw [5] (fun i wr => ∃ j : Nat, i = .int .i64 j ∧ j ≤ n ∧ Hid (∀ t ∈ l.take j, O.fits t out = true) ∧ Hid (O.Apart (l.take j)) ∧ Hid (Below w.heap.size w wr)) (fun i _ => n - (intOf i).toNat)
    case atStart => exact ⟨0, by go_num, by omega, Lib.hid (by simp), Lib.hid (by simp [O.Apart]), Lib.hid (Below.refl _ _)⟩
    case round =>
      obtain ⟨j, rfl, hjn, HA, HI, HB⟩ := hrel
      by_cases hlt : j < n
      · have dj : decide ((j : Int) < n) = true := by simp; omega
        obtain ⟨b, off, x, rfl, hbl, hx, p0, p1, p2⟩ := (HT.out.below HB.out).at hlt
        have HX := Lib.hid hx
        have j0 : (0 : Int) ≤ j := by omega
        have j1 : (j : Int) < n := by omega
        obtain ⟨u1, hu1⟩ : ∃ q, O.fits x out = q := ⟨_, rfl⟩
        have c1 := refFits_any x out u1 wr hu1 (by omega)
        unfold O.val at c1
        have HU1 := Lib.hid hu1
        clear hx hu1
        go_wp2_with fail
        refine c1.mono ?_
        rintro e w1 ⟨rfl, hb1⟩
        have HB1 := Lib.hid (HB.out.trans (hb1.mono HB.out.size))
        clear hb1 c1 p0 p1 p2
        cases u1 with
        | false =>
          have HE : Hid (p = false) := Lib.hid (by
            rw [← HP.out]
            refine O.may_no fun hm => ?_
            have := hm.2.2.2.1 x (List.mem_of_getElem? HX.out)
            rw [HU1.out] at this; cases this)
          go_wp2
          go_ret
          exact ⟨by rw [HE.out]; rfl, HB1.out⟩
        | true =>
          have HA2 := Lib.hid (O.fits_snoc HX.out HA.out HU1.out)
          go_wp2_with fail
          go_loopw [7] (fun i wx => ∃ m : Nat, i = .int .i64 m ∧ m ≤ j ∧ Hid (∀ i y, i < m → l[i]? = some y → O.hit x y = false) ∧ Hid (Below w.heap.size w wx)) (fun i _ => n - (intOf i).toNat)
          case atStart => exact ⟨0, by go_num, by omega, Lib.hid (fun i y hi => absurd hi (Nat.not_lt_zero _)), HB1⟩
          case round =>
            obtain ⟨m, rfl, hmj, HM, HBm⟩ := hrel
            by_cases hlm : m < j
            · have dm : decide ((m : Int) < j) = true := by simp; omega
              obtain ⟨b2, off2, y, he2, hb2, hy, r0, r1, r2⟩ := (HT.out.below HBm.out).at (i := m) (by omega)
              obtain ⟨b3, off3, x', he3, hb3, hx', p0, p1, p2⟩ := (HT.out.below HBm.out).at (i := j) hlt
              cases he2
              cases he3
              obtain rfl : x' = x := by have := HX.out; rw [hx'] at this; exact Option.some.inj this
              have HY := Lib.hid hy
              have m0 : (0 : Int) ≤ m := by omega
              have m1 : (m : Int) < n := by omega
              have FY : O.fits y out = true := HA.out y (List.mem_iff_getElem?.2 ⟨m, by rw [List.getElem?_take, if_pos hlm]; exact hy⟩)
              obtain ⟨u, hu⟩ : ∃ u, O.meet x' y = u := ⟨_, rfl⟩
              have HU : Hid (O.hit x' y = u) := Lib.hid (by rw [← hu]; exact (O.meet_hit (O.fits_below HU1.out) (O.fits_below FY) h2).symm)
              have c1 := fun V => meet_any x' y u hu V
              have cp0 := fun d os => cell_regrown p0 d os
              have cp1 := fun d os => cell_regrown p1 d os
              have cp2 := fun d os => cell_regrown p2 d os
              have cq0 := fun d os => cell_regrown r0 d os
              have cq1 := fun d os => cell_regrown r1 d os
              have cq2 := fun d os => cell_regrown r2 d os
              unfold O.val at c1
              clear hu hx' hy FY
              go_wp2_with fail
              refine wp_region_quiet_below (by kernel_rfl) (by kernel_rfl) ?_
              repeat (go_big_quiet_step (with_reducible exact Calls.regrown_of (c1 _)))
              refine wpQuiet_nil ?_
              intro _ hw'
              obtain ⟨⟨dq, osq⟩, hw''⟩ := hw'
              subst hw''
              clear cp0 cp1 cp2 cq0 cq1 cq2 p0 p1 p2 r0 r1 r2 c1
              have HB4 := Lib.hid (HBm.out.trans ((below_regrown _ dq osq).mono HBm.out.size))
              cases u with
              | true =>
                have HE : Hid (p = false) := Lib.hid (by
                  rw [← HP.out]
                  refine O.may_no fun hm => O.apart_bad HX.out (O.any_yes (j := m) (x := y) ?_ HU.out) hm.2.2.2.2
                  rw [List.getElem?_take, if_pos hlm]; exact HY.out)
                go_wp2
                go_ret
                exact ⟨by rw [HE.out]; rfl, HB4.out⟩
              | false =>
                have HM2 : Hid (∀ i y, i < m + 1 → l[i]? = some y → O.hit x' y = false) := Lib.hid (fun i y' hi hy' => by
                  rcases Nat.lt_succ_iff_lt_or_eq.1 hi with h1 | rfl
                  · exact HM.out i y' h1 hy'
                  · rw [HY.out] at hy'; cases hy'; exact HU.out)
                go_wp2
                go_roundw
                case rel => exact ⟨m + 1, by go_num, by omega, HM2, HB4⟩
                case measure => simp [intOf] <;> omega
            · have dm : decide ((m : Int) < j) = false := by simp; omega
              have HI2 := Lib.hid (O.apart_snoc HX.out HI.out (O.any_no (fun q hq => by
                obtain ⟨i, hi⟩ := List.mem_iff_getElem?.1 hq
                rw [List.getElem?_take] at hi
                split at hi
                · exact HM.out i q (by omega) hi
                · cases hi)))
              go_wp2
              go_roundw
              case rel => exact ⟨j + 1, by go_num, by omega, HA2, HI2, HBm⟩
              case measure => simp [intOf] <;> omega
      · have dj : decide ((j : Int) < n) = false := by simp; omega
        obtain rfl : j = n := by omega
        have hlt2 : l.take j = l := List.take_of_length_le (by rw [HT.out.1]; exact Nat.le_refl _)
        rw [hlt2] at HA HI
        have HE : Hid (p = true) := Lib.hid (by
          rw [← HP.out]
          exact O.may_iff.2 ⟨h1, h2, by rw [HT.out.1]; exact h3, HA.out, HI.out⟩)
        go_wp2
        go_ret
        exact ⟨by rw [HE.out]; rfl, HB.out⟩
  · have HE : Hid (p = false) := Lib.hid (by
      rw [← HP.out]
      exact O.may_no fun hm => hb ⟨hm.1, hm.2.1, by rw [← HT.out.1]; exact hm.2.2.1⟩)
    by_cases h1 : out < 0
    · have d1 : decide (out < 0) = true := by simpa using h1
      go_wp2
      go_ret
      exact ⟨by rw [HE.out]; rfl, Below.refl _ _⟩
    · have d1 : decide (out < 0) = false := by simpa using h1
      by_cases h2 : 4 < out
      · have d2 : decide (4 < out) = true := by simpa using h2
        go_wp2
        go_ret
        exact ⟨by rw [HE.out]; rfl, Below.refl _ _⟩
      · have d2 : decide (4 < out) = false := by simpa using h2
        have d3 : decide (3 < (n : Int)) = true := by simp; omega
        go_wp2
        go_ret
        exact ⟨by rw [HE.out]; rfl, Below.refl _ _⟩
end Go.Proofs.Ytejckbnapcdhpaa
