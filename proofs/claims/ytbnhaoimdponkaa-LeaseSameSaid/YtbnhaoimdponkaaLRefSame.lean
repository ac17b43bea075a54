/-
  Two lists are the same: the document's.
-/
import Derived.Test.YtbnhaoimdponkaaLSame
namespace Go.Proofs.Ytbnhaoimdponkaa
open Go.RowKit

set_option maxRecDepth 100000 in
set_option maxHeartbeats 800000 in
theorem refSame_any (a a' : Option Addr) (n m c c' : Nat) (l k : List L.Ls) (w : World) (h : RIn w a n c l) (h' : RIn w a' m c' k) (hn : n ≤ 1000000) (p : Bool) (hp : decide (l = k) = p) :
    Calls Try.prog 10 #[.slice a n c, .slice a' m c'] w fun e w' => e = .returned (.bool p) ∧ Below w.heap.size w w' := by
  by_cases hnm : n = m
  · subst hnm
    have HT := Lib.hid h
    have HK := Lib.hid h'
    have HP := Lib.hid hp
    have dn : ((n : Int) != n) = false := by simp
    clear h h' hp
    go_enter Try.func10, Try.ntmps10
    go_wp2_with fail
    go_loopw [5] (fun i wr => ∃ k' : Nat, i = .int .i64 k' ∧ k' ≤ n ∧ Hid (l.take k' = k.take k') ∧ Hid (Below w.heap.size w wr)) (fun i _ => n - (intOf i).toNat)
    case atStart => exact ⟨0, rfl, by omega, Lib.hid (by simp), Lib.hid (Below.refl _ _)⟩
    case round =>
      obtain ⟨i, rfl, hin, HA, HB⟩ := hrel
      by_cases hlt : i < n
      · have d1 : decide ((i : Int) < n) = true := by simp; omega
        obtain ⟨b, off, x, rfl, hb, hx, p0, p1, p2, p3, p4⟩ := (HT.out.below HB.out).at5 hlt
        obtain ⟨b2, off2, y, rfl, hb2, hy, q0, q1, q2, q3, q4⟩ := (HK.out.below HB.out).at5 hlt
        have k0 : (0 : Int) ≤ i := by omega
        have k1 : (i : Int) < n := by omega
        have HX := Lib.hid hx
        have HY := Lib.hid hy
        clear hx hy
        by_cases hxy : x = y
        · subst hxy
          have HE := Lib.hid (L.same_step HX.out HY.out HA.out)
          go_wp2_with fail
          go_quiet (fail)
          go_wp2
          go_roundw
          case rel => exact ⟨i + 1, by go_num, by omega, HE, Lib.hid (HB.out.trans (below_drewN _ _ _))⟩
          case measure => simp [intOf] <;> omega
        · have HE : Hid (p = false) := Lib.hid (by rw [← HP.out]; exact L.same_bad HX.out HY.out hxy)
          obtain ⟨x0, x1, x2, x3, x4⟩ := x
          obtain ⟨y0, y1, y2, y3, y4⟩ := y
          by_cases h0 : x0 = y0
          · subst h0
            by_cases h1 : x1 = y1
            · subst h1
              by_cases h2 : x2 = y2
              · subst h2
                by_cases h3 : x3 = y3
                · subst h3
                  have h4 : ¬ x4 = y4 := fun e => hxy (by rw [e])
                  have g4 : (x4 == y4) = false := by simpa using h4
                  go_wp2_with fail
                  go_quiet (fail)
                  go_wp2
                  go_ret
                  exact ⟨by rw [HE.out]; rfl, HB.out.trans (below_drewN _ _ _)⟩
                · go_wp2_with fail
                  go_quiet (fail)
                  go_wp2
                  go_ret
                  exact ⟨by rw [HE.out]; rfl, HB.out.trans (below_drewN _ _ _)⟩
              · go_wp2_with fail
                go_quiet (fail)
                go_wp2
                go_ret
                exact ⟨by rw [HE.out]; rfl, HB.out.trans (below_drewN _ _ _)⟩
            · go_wp2_with fail
              go_quiet (fail)
              go_wp2
              go_ret
              exact ⟨by rw [HE.out]; rfl, HB.out.trans (below_drewN _ _ _)⟩
          · go_wp2_with fail
            go_quiet (fail)
            go_wp2
            go_ret
            exact ⟨by rw [HE.out]; rfl, HB.out.trans (below_drewN _ _ _)⟩
      · have d1 : decide ((i : Int) < n) = false := by simp; omega
        have HE : Hid (p = true) := Lib.hid (by
          have h1 := HA.out
          rw [List.take_of_length_le (by rw [HT.out.1]; omega), List.take_of_length_le (by rw [HK.out.1]; omega)] at h1
          rw [← HP.out]; exact decide_eq_true h1)
        go_wp2
        go_ret
        exact ⟨by rw [HE.out]; rfl, HB.out⟩
  · have HE : Hid (p = false) := Lib.hid (by
      rw [← hp]
      refine decide_eq_false fun e => hnm ?_
      rw [← h.1, ← h'.1, e])
    have dn : ((n : Int) != m) = true := by simp; omega
    clear h h' hp hnm
    go_enter Try.func10, Try.ntmps10
    go_wp2
    go_ret
    exact ⟨by rw [HE.out]; rfl, Below.refl _ _⟩
set_option maxRecDepth 100000 in
set_option maxHeartbeats 800000 in
theorem refSameHeld_any (a a' : Option Addr) (n m c c' : Nat) (l k : List L.T3) (w : World) (h : RIn w a n c l) (h' : RIn w a' m c' k) (hn : n ≤ 1000000) (p : Bool) (hp : decide (l = k) = p) :
    Calls Try.prog 11 #[.slice a n c, .slice a' m c'] w fun e w' => e = .returned (.bool p) ∧ Below w.heap.size w w' := by
  by_cases hnm : n = m
  · subst hnm
    have HT := Lib.hid h
    have HK := Lib.hid h'
    have HP := Lib.hid hp
    have dn : ((n : Int) != n) = false := by simp
    clear h h' hp
    go_enter Try.func11, Try.ntmps11
    go_wp2_with fail
    go_loopw [5] (fun i wr => ∃ k' : Nat, i = .int .i64 k' ∧ k' ≤ n ∧ Hid (l.take k' = k.take k') ∧ Hid (Below w.heap.size w wr)) (fun i _ => n - (intOf i).toNat)
    case atStart => exact ⟨0, rfl, by omega, Lib.hid (by simp), Lib.hid (Below.refl _ _)⟩
    case round =>
      obtain ⟨i, rfl, hin, HA, HB⟩ := hrel
      by_cases hlt : i < n
      · have d1 : decide ((i : Int) < n) = true := by simp; omega
        obtain ⟨b, off, x, rfl, hb, hx, p0, p1, p2⟩ := (HT.out.below HB.out).at3 hlt
        obtain ⟨b2, off2, y, rfl, hb2, hy, q0, q1, q2⟩ := (HK.out.below HB.out).at3 hlt
        have k0 : (0 : Int) ≤ i := by omega
        have k1 : (i : Int) < n := by omega
        have HX := Lib.hid hx
        have HY := Lib.hid hy
        clear hx hy
        by_cases hxy : x = y
        · subst hxy
          have HE := Lib.hid (L.same_step HX.out HY.out HA.out)
          go_wp2_with fail
          go_quiet (fail)
          go_wp2
          go_roundw
          case rel => exact ⟨i + 1, by go_num, by omega, HE, Lib.hid (HB.out.trans (below_drewN _ _ _))⟩
          case measure => simp [intOf] <;> omega
        · have HE : Hid (p = false) := Lib.hid (by rw [← HP.out]; exact L.same_bad HX.out HY.out hxy)
          obtain ⟨x0, x1, x2⟩ := x
          obtain ⟨y0, y1, y2⟩ := y
          by_cases h0 : x0 = y0
          · subst h0
            by_cases h1 : x1 = y1
            · subst h1
              have h2 : ¬ x2 = y2 := fun e => hxy (by rw [e])
              have g2 : (x2 == y2) = false := by simpa using h2
              go_wp2_with fail
              go_quiet (fail)
              go_wp2
              go_ret
              exact ⟨by rw [HE.out]; rfl, HB.out.trans (below_drewN _ _ _)⟩
            · go_wp2_with fail
              go_quiet (fail)
              go_wp2
              go_ret
              exact ⟨by rw [HE.out]; rfl, HB.out.trans (below_drewN _ _ _)⟩
          · go_wp2_with fail
            go_quiet (fail)
            go_wp2
            go_ret
            exact ⟨by rw [HE.out]; rfl, HB.out.trans (below_drewN _ _ _)⟩
      · have d1 : decide ((i : Int) < n) = false := by simp; omega
        have HE : Hid (p = true) := Lib.hid (by
          have h1 := HA.out
          rw [List.take_of_length_le (by rw [HT.out.1]; omega), List.take_of_length_le (by rw [HK.out.1]; omega)] at h1
          rw [← HP.out]; exact decide_eq_true h1)
        go_wp2
        go_ret
        exact ⟨by rw [HE.out]; rfl, HB.out⟩
  · have HE : Hid (p = false) := Lib.hid (by
      rw [← hp]
      refine decide_eq_false fun e => hnm ?_
      rw [← h.1, ← h'.1, e])
    have dn : ((n : Int) != m) = true := by simp; omega
    clear h h' hp hnm
    go_enter Try.func11, Try.ntmps11
    go_wp2
    go_ret
    exact ⟨by rw [HE.out]; rfl, Below.refl _ _⟩
end Go.Proofs.Ytbnhaoimdponkaa
