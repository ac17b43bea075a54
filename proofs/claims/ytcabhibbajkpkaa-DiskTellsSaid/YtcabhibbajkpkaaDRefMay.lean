/-
  Walks of the document's used, May, New, Used, Find of disks.
-/
import Derived.Test.YtcabhibbajkpkaaDFind
namespace Go.Proofs.Ytcabhibbajkpkaa
open Go.RowKit

set_option maxRecDepth 100000 in
set_option maxHeartbeats 400000 in
theorem refUsed_any (a : Option Addr) (n c : Nat) (xs : List FP) (u : Nat) (w : World) (hd : DiskIn w a n c xs) (hs : D.small (FP.files xs)) (hu : D.used (FP.files xs) = u) :
    Calls Try.prog 37 #[.slice a n c] w fun e w' => e = .returned (.int .i64 (u : Int)) ∧ w = w' := by
  have HD := Lib.hid hd
  have HU := Lib.hid hu
  have hcap := hd.caps
  have hml : maxLen ≤ 9223372036854775807 := by decide
  have HL : Hid (D.used (FP.files xs) ≤ 1000000) := Lib.hid (by have h1 := D.used_small _ hs.2; have h2 := hs.1; omega)
  clear hd hs hu
  go_enter Try.func37, Try.ntmps37
  go_wp2_with fail
  go_loopg [3, 4] n (fun g y i wr => ∃ (j m : Nat), i = .int .i64 j ∧ y = .int .i64 m ∧ j + g = n ∧ Hid (D.used (FP.files (xs.take j)) = m) ∧ wr = w)
  case atStart => exact ⟨0, 0, rfl, rfl, by omega, Lib.hid (by simp [FP.files, D.used]), rfl⟩
  case round =>
    obtain ⟨j, m, rfl, rfl, hjn, HC, rfl⟩ := hrel
    by_cases hlt : j < n
    · obtain ⟨b1, o1, no, a1, n1, c1, B1, s1, rfl, hb1, hx, p0, p1, p2, hok⟩ := (HD.out.2.1).at (i := j) (by rw [HD.out.1]; exact hlt)
      have hs : D.used (FP.files (xs.take (j + 1))) = m + n1 := by rw [used_take hx, HC.out]; exact congrArg _ hok.1
      have hle := used_take_le xs (j + 1)
      have hu := HL.out
      have hmn : m + n1 ≤ 1000000 := by omega
      have HS := Lib.hid hs
      have hw : IntKind.i64.wrap ((m : Int) + (n1 : Int)) = (m : Int) + (n1 : Int) := wrap_i64_small (by omega) (by omega)
      clear hx hok HC hs hle hu
      go_wp2
      go_roundg (n - (j + 1))
      case rel => exact ⟨j + 1, m + n1, by go_num, by go_num, by omega, HS, rfl⟩
      case measure => omega
    · have HE : Hid (m = u) := Lib.hid (by
        have h := HC.out
        rw [List.take_of_length_le (by rw [HD.out.1]; omega)] at h
        rw [← HU.out, h])
      have hd : decide (j < n) = false := by simp; omega
      go_wp2
      go_ret
      exact ⟨by rw [← HE.out]; rfl, rfl⟩

set_option maxRecDepth 100000 in
set_option maxHeartbeats 1000000 in
theorem refMay_any (k : Int) (a : Option Addr) (n c : Nat) (xs : List FP) (b : Bool) (w : World) (hd : DiskIn w a n c xs) (hs : D.small (FP.files xs)) (hb : decide (D.may (k, FP.files xs)) = b) :
    Calls Try.prog 18 #[.agg #[.int .i64 k, .slice a n c]] w fun e w' => e = .returned (.bool b) ∧ Below w.heap.size w w' := by
  have HBX := Lib.hid (dbox_below w k a n c)
  have HD := Lib.hid hd
  have HS := Lib.hid hs
  have hcap := hd.caps
  have hml : maxLen ≤ 9223372036854775807 := by decide
  have h14 : n ≤ 14 := by have h1 := hs.1; simp only [FP.files_len, hd.1] at h1; exact h1
  obtain ⟨b0, hb0⟩ : ∃ b0, D.row 0 (FP.files xs) = b0 := ⟨_, rfl⟩
  obtain ⟨u, hu⟩ : ∃ u, D.used (FP.files xs) = u := ⟨_, rfl⟩
  have HU := Lib.hid hu
  have HR0 := Lib.hid hb0
  have HB : Hid (b = (decide (0 ≤ k ∧ k ≤ 65536 ∧ n ≤ 12) && b0 && decide ((u : Int) ≤ k))) := Lib.hid (by
    rw [← hb, ← hu, ← hb0, Bool.eq_iff_iff, decide_eq_true_iff, D.may_row]
    simp only [FP.files_len, hd.1, Bool.and_eq_true, decide_eq_true_iff, and_assoc])
  have KB := Lib.hid (dbox_blok w k a n c)
  clear hd hs hb hb0 hu
  go_enter Try.func18, Try.ntmps18
  go_wp2_with fail
  go_loopg [3] n (fun g i wr => ∃ (j : Nat) (y : Int), i = .int .i64 j ∧ j + g = n ∧ Hid (y = if j = 0 then 0 else ((FP.files xs).getD (j - 1) D.nof).1) ∧ Hid (D.row y (FP.files (xs.drop j)) = b0) ∧ Hid (Blok wr w.heap.size 24 #[.int .i64 k, .slice a n c]) ∧ Below w.heap.size w wr)
  case atStart => exact ⟨0, 0, rfl, by omega, Lib.hid rfl, by simpa using HR0, KB, HBX.out⟩
  case round =>
    obtain ⟨j, y, rfl, hjn, HY, HC, KW, hB⟩ := hrel
    have k0 := dk0 KW.out
    have k1 := dk1 KW.out
    by_cases hlt : j < n
    · obtain ⟨b1, o1, no, a1, n1, c1, B1, s1, rfl, hb1, hx, p0, p1, p2, hok⟩ := ((HD.out.below hB).2.1).at (i := j) (by rw [HD.out.1]; exact hlt)
      have HT : Hid ((decide (1 ≤ no ∧ no ≤ 1073741824 ∧ y < no ∧ 0 ≤ s1 ∧ s1 ≤ (n1 : Int)) && D.row no (FP.files (xs.drop (j + 1)))) = b0) := Lib.hid (by
        have h := HC.out
        rw [drop_at hx] at h
        simpa [D.row, FP.file, hok.1] using h)
      have HN : Hid (no = if j + 1 = 0 then 0 else ((FP.files xs).getD (j + 1 - 1) D.nof).1) := Lib.hid (by
        rw [if_neg (by omega), Nat.add_sub_cancel, FP.files_at hx]; rfl)
      have hfb := fbox_below wr no a1 n1 c1 s1
      have BB := Lib.hid (hB.trans (hfb.mono hB.size))
      have KW2 := Lib.hid (KW.out.on hfb)
      have KF := Lib.hid (fbox_blok wr no a1 n1 c1 s1)
      have HDF := Lib.hid (HD.out.below (hB.trans (hfb.mono hB.size)))
      have ka1 : ∀ o, (wr.alloc o).cell? ⟨w.heap.size, 1, none⟩ = some (.slice (some ⟨b1, o1, none⟩) n c) := fun o => dk1 (KW.out.alloc o)
      clear hx hok HC hfb
      by_cases h1 : no < 1
      · have HF : Hid (b = false) := Lib.hid (by rw [HB.out, ← HT.out, decide_eq_false (show ¬ (1 ≤ no ∧ no ≤ 1073741824 ∧ y < no ∧ 0 ≤ s1 ∧ s1 ≤ (n1 : Int)) by omega)]; simp)
        have d1 : decide (no < 1) = true := by simp; omega
        clear h1
        go_wp2_with fail
        go_quiet (fail)
        go_wp2
        go_ret
        exact ⟨by rw [HF.out]; rfl, BB.out.trans (below_drewN _ _ _ |>.mono (Nat.le_refl _))⟩
      · have d1 : decide (no < 1) = false := by simp; omega
        by_cases h2 : 1073741824 < no
        · have HF : Hid (b = false) := Lib.hid (by rw [HB.out, ← HT.out, decide_eq_false (show ¬ (1 ≤ no ∧ no ≤ 1073741824 ∧ y < no ∧ 0 ≤ s1 ∧ s1 ≤ (n1 : Int)) by omega)]; simp)
          have d2 : decide ((1073741824 : Int) < no) = true := by simp; omega
          clear h1 h2
          go_wp2_with fail
          go_quiet (fail)
          go_wp2
          go_ret
          exact ⟨by rw [HF.out]; rfl, BB.out.trans (below_drewN _ _ _ |>.mono (Nat.le_refl _))⟩
        · have d2 : decide ((1073741824 : Int) < no) = false := by simp; omega
          by_cases hj : j = 0
          · have hy0 : y = 0 := by rw [HY.out, if_pos hj]
            have e1 : decide ((0 : Int) < (j : Int)) = false := by simp; omega
            have e2 : decide (0 < j) = false := by simp; omega
            have e3 : ¬ 0 < j := by omega
            clear hj
            by_cases h4 : s1 < 0
            · have HF : Hid (b = false) := Lib.hid (by rw [HB.out, ← HT.out, decide_eq_false (show ¬ (1 ≤ no ∧ no ≤ 1073741824 ∧ y < no ∧ 0 ≤ s1 ∧ s1 ≤ (n1 : Int)) by omega)]; simp)
              have d4 : decide (s1 < 0) = true := by simp; omega
              clear h1 h2 hy0 h4
              go_wp2_with fail
              go_quiet (fail)
              go_wp2
              go_ret
              exact ⟨by rw [HF.out]; rfl, BB.out.trans (below_drewN _ _ _ |>.mono (Nat.le_refl _))⟩
            · have d4 : decide (s1 < 0) = false := by simp; omega
              by_cases h5 : (n1 : Int) < s1
              · have HF : Hid (b = false) := Lib.hid (by rw [HB.out, ← HT.out, decide_eq_false (show ¬ (1 ≤ no ∧ no ≤ 1073741824 ∧ y < no ∧ 0 ≤ s1 ∧ s1 ≤ (n1 : Int)) by omega)]; simp)
                have d5 : decide ((n1 : Int) < s1) = true := by simp; omega
                clear h1 h2 hy0 h4 h5
                go_wp2_with fail
                go_quiet (fail)
                go_wp2
                go_ret
                exact ⟨by rw [HF.out]; rfl, BB.out.trans (below_drewN _ _ _ |>.mono (Nat.le_refl _))⟩
              · have d5 : decide ((n1 : Int) < s1) = false := by simp; omega
                have HG : Hid (D.row no (FP.files (xs.drop (j + 1))) = b0) := Lib.hid (by rw [← HT.out, decide_eq_true (show (1 ≤ no ∧ no ≤ 1073741824 ∧ y < no ∧ 0 ≤ s1 ∧ s1 ≤ (n1 : Int)) by omega)]; rfl)
                have KW3 := KW2
                clear h1 h2 hy0 h4 h5
                go_wp2_with fail
                go_quiet (fail)
                go_wp2
                go_roundg (n - (j + 1))
                case rel => exact ⟨j + 1, no, by go_num, by omega, HN, HG, Lib.hid (KW3.out.on (below_drewN _ _ _)), BB.out.trans (below_drewN _ _ _ |>.mono (Nat.le_refl _))⟩
                case measure => omega
          · obtain ⟨jp, hjp⟩ : ∃ jp, j = jp + 1 := ⟨j - 1, by omega⟩
            obtain ⟨b2, o2, nop, a2, n2, c2, B2, s2, he, hb2, hx2, r0, _, _, _⟩ := ((HD.out.below hB).2.1).at (i := jp) (by rw [HD.out.1]; omega)
            cases he
            have hyp : y = nop := by rw [HY.out, if_neg hj, hjp, Nat.add_sub_cancel, FP.files_at hx2]; rfl
            have r1 : ∀ o, (wr.alloc o).cell? ⟨b1, o1 + jp * 3, none⟩ = some (.int .i64 nop) := fun o => (((Below.refl _ wr).alloc (Nat.le_refl _) o).cell (p := ⟨b1, o1 + jp * 3, none⟩) hb2).trans r0
            have hji : (j : Int) - 1 = (jp : Int) := by omega
            have e1 : decide ((0 : Int) < (j : Int)) = true := by simp; omega
            have e2 : decide (0 < j) = true := by simp; omega
            have e3 : 0 < j := by omega
            have e4 : jp < n := by omega
            clear hx2 r0 hj hjp
            subst hyp
            by_cases h3 : no ≤ y
            · have HF : Hid (b = false) := Lib.hid (by rw [HB.out, ← HT.out, decide_eq_false (show ¬ (1 ≤ no ∧ no ≤ 1073741824 ∧ y < no ∧ 0 ≤ s1 ∧ s1 ≤ (n1 : Int)) by omega)]; simp)
              have d3 : decide (no ≤ y) = true := by simp; omega
              clear h1 h2 h3
              go_wp2_with fail
              go_quiet (fail)
              go_wp2
              go_ret
              exact ⟨by rw [HF.out]; rfl, BB.out.trans (below_drewN _ _ _ |>.mono (Nat.le_refl _))⟩
            · have d3 : decide (no ≤ y) = false := by simp; omega
              by_cases h4 : s1 < 0
              · have HF : Hid (b = false) := Lib.hid (by rw [HB.out, ← HT.out, decide_eq_false (show ¬ (1 ≤ no ∧ no ≤ 1073741824 ∧ y < no ∧ 0 ≤ s1 ∧ s1 ≤ (n1 : Int)) by omega)]; simp)
                have d4 : decide (s1 < 0) = true := by simp; omega
                clear h1 h2 h3 h4
                go_wp2_with fail
                go_quiet (fail)
                go_wp2
                go_ret
                exact ⟨by rw [HF.out]; rfl, BB.out.trans (below_drewN _ _ _ |>.mono (Nat.le_refl _))⟩
              · have d4 : decide (s1 < 0) = false := by simp; omega
                by_cases h5 : (n1 : Int) < s1
                · have HF : Hid (b = false) := Lib.hid (by rw [HB.out, ← HT.out, decide_eq_false (show ¬ (1 ≤ no ∧ no ≤ 1073741824 ∧ y < no ∧ 0 ≤ s1 ∧ s1 ≤ (n1 : Int)) by omega)]; simp)
                  have d5 : decide ((n1 : Int) < s1) = true := by simp; omega
                  clear h1 h2 h3 h4 h5
                  go_wp2_with fail
                  go_quiet (fail)
                  go_wp2
                  go_ret
                  exact ⟨by rw [HF.out]; rfl, BB.out.trans (below_drewN _ _ _ |>.mono (Nat.le_refl _))⟩
                · have d5 : decide ((n1 : Int) < s1) = false := by simp; omega
                  have HG : Hid (D.row no (FP.files (xs.drop (j + 1))) = b0) := Lib.hid (by rw [← HT.out, decide_eq_true (show (1 ≤ no ∧ no ≤ 1073741824 ∧ y < no ∧ 0 ≤ s1 ∧ s1 ≤ (n1 : Int)) by omega)]; rfl)
                  have KW3 := KW2
                  clear h1 h2 h3 h4 h5
                  go_wp2_with fail
                  go_quiet (fail)
                  go_wp2
                  go_roundg (n - (j + 1))
                  case rel => exact ⟨j + 1, no, by go_num, by omega, HN, HG, Lib.hid (KW3.out.on (below_drewN _ _ _)), BB.out.trans (below_drewN _ _ _ |>.mono (Nat.le_refl _))⟩
                  case measure => omega
    · have hd : decide (j < n) = false := by simp; omega
      have HT : Hid (b0 = true) := Lib.hid (by
        have h := HC.out
        rw [List.drop_eq_nil_of_le (by rw [HD.out.1]; omega)] at h
        exact h.symm)
      have HDW := Lib.hid (HD.out.below hB)
      by_cases h0 : 0 ≤ k
      · have d0 : decide (0 ≤ k) = true := by simp; omega
        by_cases h1 : k ≤ 65536
        · have d1 : decide (k ≤ 65536) = true := by simp; omega
          by_cases h2 : n ≤ 12
          · have d2 : decide ((n : Int) ≤ 12) = true := by simp; omega
            have HF : Hid (b = decide ((u : Int) ≤ k)) := Lib.hid (by rw [HB.out, HT.out, decide_eq_true (show 0 ≤ k ∧ k ≤ 65536 ∧ n ≤ 12 from ⟨h0, h1, h2⟩)]; simp)
            clear h0 h1
            go_wp2_with fail
            go_quiet ((go_at_call 37; exact Calls.quiet_of_same ((refUsed_any a n c xs u _ (HDW.out.below (below_drewN _ _ _)) HS.out HU.out).mono fun e w' h => ⟨h.1, h.2.symm⟩)))
            go_wp2
            go_ret
            exact ⟨by rw [HF.out]; rfl, hB.trans (below_drewN _ _ _)⟩
          · have d2 : decide ((n : Int) ≤ 12) = false := by simp; omega
            have HF : Hid (b = false) := Lib.hid (by rw [HB.out, decide_eq_false (show ¬ (0 ≤ k ∧ k ≤ 65536 ∧ n ≤ 12) from fun h => h2 h.2.2)]; simp)
            clear h0 h1 h2
            go_wp2_with fail
            go_quiet (fail)
            go_wp2
            go_ret
            exact ⟨by rw [HF.out]; rfl, hB.trans (below_drewN _ _ _)⟩
        · have d1 : decide (k ≤ 65536) = false := by simp; omega
          have HF : Hid (b = false) := Lib.hid (by rw [HB.out, decide_eq_false (show ¬ (0 ≤ k ∧ k ≤ 65536 ∧ n ≤ 12) from fun h => h1 h.2.1)]; simp)
          clear h0 h1
          go_wp2_with fail
          go_quiet (fail)
          go_wp2
          go_ret
          exact ⟨by rw [HF.out]; rfl, hB.trans (below_drewN _ _ _)⟩
      · have d0 : decide (0 ≤ k) = false := by simp; omega
        have HF : Hid (b = false) := Lib.hid (by rw [HB.out, decide_eq_false (show ¬ (0 ≤ k ∧ k ≤ 65536 ∧ n ≤ 12) from fun h => h0 h.1)]; simp)
        clear h0
        go_wp2_with fail
        go_quiet (fail)
        go_wp2
        go_ret
        exact ⟨by rw [HF.out]; rfl, hB.trans (below_drewN _ _ _)⟩
end Go.Proofs.Ytcabhibbajkpkaa
