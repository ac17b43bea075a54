/-
  A walk of the document's Same of disks.
-/
import Derived.Test.YtcabhibbajkpkaaDRefFind
namespace Go.Proofs.Ytcabhibbajkpkaa
open Go.RowKit

/-- The worlds of two disks' boxes. -/
def tbox (w : World) (k : Int) (a : Option Addr) (n c : Nat) (k' : Int) (a' : Option Addr) (n' c' : Nat) : World := dbox (dbox w k a n c) k' a' n' c'
theorem tb_below (w : World) (k : Int) (a : Option Addr) (n c : Nat) (k' : Int) (a' : Option Addr) (n' c' : Nat) : Below w.heap.size w (tbox w k a n c k' a' n' c') := (dbox_below w k a n c).trans ((dbox_below _ k' a' n' c').mono (dbox_below w k a n c).size)
theorem tb_l (w : World) (k : Int) (a : Option Addr) (n c : Nat) (k' : Int) (a' : Option Addr) (n' c' : Nat) : Blok (tbox w k a n c k' a' n' c') w.heap.size 24 #[.int .i64 k, .slice a n c] := (dbox_blok w k a n c).alloc _
theorem tb_r (w : World) (k : Int) (a : Option Addr) (n c : Nat) (k' : Int) (a' : Option Addr) (n' c' : Nat) : Blok (tbox w k a n c k' a' n' c') (w.heap.size + 1) 24 #[.int .i64 k', .slice a' n' c'] := by
  have := dbox_blok (dbox w k a n c) k' a' n' c'
  rwa [dbox_size] at this

set_option maxRecDepth 100000 in
set_option maxHeartbeats 400000 in
/-- **The document's Same**, at every two disks. -/
theorem refSame_any (k : Int) (a : Option Addr) (n c : Nat) (xs : List FP) (k' : Int) (a' : Option Addr) (n' c' : Nat) (ys : List FP) (b : Bool) (w : World) (hx : DiskIn w a n c xs) (hy : DiskIn w a' n' c' ys) (hb : decide (((k, FP.files xs) : D.T) = (k', FP.files ys)) = b) :
    Calls Try.prog 17 #[.agg #[.int .i64 k, .slice a n c], .agg #[.int .i64 k', .slice a' n' c']] w fun e w' => e = .returned (.bool b) ∧ Below w.heap.size w w' := by
  have HX := Lib.hid hx
  have HY := Lib.hid hy
  have HB := Lib.hid hb
  have HW := Lib.hid (tb_below w k a n c k' a' n' c')
  have hcap := hx.caps
  have hcap' := hy.caps
  have hml : maxLen ≤ 9223372036854775807 := by decide
  clear hx hy hb
  by_cases h1 : k = k'
  · have HB2 : Hid (decide (FP.files xs = FP.files ys) = b) := Lib.hid (by rw [← HB.out]; simp [h1])
    subst h1
    by_cases h2 : n = n'
    · subst h2
      go_enter Try.func17, Try.ntmps17
      go_wp2_with fail
      go_loopg [5] n (fun g i wr => ∃ j : Nat, i = .int .i64 j ∧ j + g = n ∧ Hid (FP.files (xs.take j) = FP.files (ys.take j)) ∧ Hid (Below (tbox w k a n c k a' n c').heap.size (tbox w k a n c k a' n c') wr))
      case atStart => exact ⟨0, rfl, by omega, Lib.hid (by simp), Lib.hid (Below.refl _ _)⟩
      case round =>
        obtain ⟨j, rfl, hjn, HT, HK⟩ := hrel
        have HWr := Lib.hid (HW.out.trans (HK.out.mono HW.out.size))
        have KL := Lib.hid ((tb_l w k a n c k a' n c').on HK.out)
        have KR := Lib.hid ((tb_r w k a n c k a' n c').on HK.out)
        by_cases hlt : j < n
        · obtain ⟨b1, o1, no1, a1, n1, c1, B1, s1, rfl, hb1, hx, p0, p1, p2, hok⟩ := ((HX.out.below HWr.out).2.1).at (i := j) (by rw [HX.out.1]; exact hlt)
          obtain ⟨b2, o2, no2, a2, n2, c2, B2, s2, rfl, hb2, hy, q0, q1, q2, hok2⟩ := ((HY.out.below HWr.out).2.1).at (i := j) (by rw [HY.out.1]; exact hlt)
          have k1 := dk1 KL.out
          have r1 := dk1 KR.out
          have HX1 := Lib.hid hx
          have HY1 := Lib.hid hy
          have HO1 := Lib.hid hok
          have HO2 := Lib.hid hok2
          clear hx hy hok hok2
          have d0 : decide (j < n) = true := by simp; omega
          have BD : Hid (∀ m, Below w.heap.size w (World.drewN wr m)) := Lib.hid (fun m => HWr.out.trans ((below_drewN _ _ m).mono (Nat.le_refl _)))
          by_cases e1 : no1 = no2
          · by_cases e2 : s1 = s2
            · obtain ⟨d, hd⟩ : ∃ d, decide (B1 = B2) = d := ⟨_, rfl⟩
              obtain ⟨s, hs⟩ : ∃ s, strOf B1 = s := ⟨_, rfl⟩
              obtain ⟨t, ht⟩ : ∃ t, strOf B2 = t := ⟨_, rfl⟩
              have ed : (s.toList == t.toList) = d := by rw [← hs, ← ht, str_beq HO1.out.2.1.2.1 HO2.out.2.1.2.1, hd]
              have HDD : Hid (decide (FP.file (⟨no1, a1, n1, c1, B1, s1⟩ : FP) = FP.file ⟨no2, a2, n2, c2, B2, s2⟩) = d) := Lib.hid (by rw [← hd, e1, e2]; simp [FP.file])
              have v1 : ∀ m, (convert 25 9 (.slice a1 n1 c1)).run Try.prog (World.drewN wr m) = .ok (.string s) (World.drewN wr m) := fun m => by rw [← hs]; exact conv_row (HO1.out.2.1.below (below_drewN _ _ m)) HO1.out.1
              have v2 : ∀ m, (convert 25 9 (.slice a2 n2 c2)).run Try.prog (World.drewN wr m) = .ok (.string t) (World.drewN wr m) := fun m => by rw [← ht]; exact conv_row (HO2.out.2.1.below (below_drewN _ _ m)) HO2.out.1
              clear hd hs ht
              subst e1 e2
              cases d with
              | true =>
                have HC := Lib.hid (files_step HX1.out HY1.out HT.out HDD.out)
                go_wp2_with fail
                go_quiet (fail)
                go_wp2
                go_roundg (n - (j + 1))
                case rel => exact ⟨j + 1, by go_num, by omega, HC, Lib.hid (HK.out.trans ((below_drewN _ _ _).mono (Nat.le_refl _)))⟩
                case measure => omega
              | false =>
                have HC := Lib.hid (files_bad HX1.out HY1.out HDD.out)
                go_wp2_with fail
                go_quiet (fail)
                go_wp2
                go_ret
                exact ⟨by rw [← HB2.out, HC.out]; rfl, BD.out _⟩
            · have HC : Hid (b = false) := Lib.hid (by rw [← HB2.out]; exact files_bad HX1.out HY1.out (decide_eq_false (by simp [FP.file, e2])))
              have f1 : (s1 != s2) = true := by simp; exact e2
              subst e1
              clear e2
              go_wp2_with fail
              go_quiet (fail)
              go_wp2
              go_ret
              exact ⟨by rw [HC.out]; rfl, BD.out _⟩
          · have HC : Hid (b = false) := Lib.hid (by rw [← HB2.out]; exact files_bad HX1.out HY1.out (decide_eq_false (by simp [FP.file, e1])))
            have f1 : (no1 != no2) = true := by simp; exact e1
            clear e1
            go_wp2_with fail
            go_quiet (fail)
            go_wp2
            go_ret
            exact ⟨by rw [HC.out]; rfl, BD.out _⟩
        · have HE : Hid (b = true) := Lib.hid (by
            rw [← HB2.out]
            have := HT.out
            rw [List.take_of_length_le (by rw [HX.out.1]; omega), List.take_of_length_le (by rw [HY.out.1]; omega)] at this
            exact decide_eq_true this)
          have k1 := dk1 KL.out
          have hd : decide (j < n) = false := by simp; omega
          go_wp2
          go_ret
          exact ⟨by rw [HE.out]; rfl, HWr.out⟩
    · have HC : Hid (b = false) := Lib.hid (by
        rw [← HB2.out]
        refine decide_eq_false fun h => h2 ?_
        have h1 := congrArg List.length h
        rw [FP.files_len, FP.files_len, HX.out.1, HY.out.1] at h1
        exact h1)
      have f1 : ((n : Int) != n') = true := by simp; omega
      clear h2
      go_enter Try.func17, Try.ntmps17
      go_wp2
      go_ret
      exact ⟨by rw [HC.out]; rfl, two_boxes (w := w) _ _ (fun hb => hb)⟩
  · have HC : Hid (b = false) := Lib.hid (by rw [← HB.out]; simp [h1])
    have f1 : (k != k') = true := by simp; exact h1
    clear h1
    go_enter Try.func17, Try.ntmps17
    go_wp2
    go_ret
    exact ⟨by rw [HC.out]; rfl, two_boxes (w := w) _ _ (fun hb => hb)⟩
end Go.Proofs.Ytcabhibbajkpkaa
