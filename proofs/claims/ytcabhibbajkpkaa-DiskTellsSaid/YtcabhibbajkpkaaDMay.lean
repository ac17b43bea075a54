/-
  Walks of moorings/disk.isNo, May, Used, at every disk.
-/
import Derived.Test.YtcabhibbajkpkaaDRows
namespace Go.Proofs.Ytcabhibbajkpkaa
open Go.RowKit

theorem isNo_any (no : Int) (b : Bool) (w : World) (h : decide (1 ≤ no ∧ no ≤ 1073741824) = b) :
    Calls Try.prog 38 #[.int .i64 no] w fun e w' => e = .returned (.bool b) ∧ w = w' := by
  have HB := Lib.hid h
  clear h
  by_cases h1 : 1 ≤ no
  · have HB2 : Hid (b = decide (no ≤ 1073741824)) := Lib.hid (by rw [← HB.out]; simp [h1])
    go_enter Try.func38, Try.ntmps38
    go_wp2
    go_ret
    exact ⟨by rw [HB2.out]; rfl, rfl⟩
  · have HB2 : Hid (b = false) := Lib.hid (by rw [← HB.out]; simp [h1])
    have h2 : decide (1 ≤ no) = false := by simp [h1]
    go_enter Try.func38, Try.ntmps38
    go_wp2
    go_ret
    exact ⟨by rw [HB2.out]; rfl, rfl⟩

/-- What May returns, at a disk whose Cap or number of files is wrong. -/
theorem may_out (k : Int) (a : Option Addr) (n c : Nat) (w : World) (h : ¬ (0 ≤ k ∧ k ≤ 65536 ∧ n ≤ 12)) :
    Calls Try.prog 19 #[.agg #[.int .i64 k, .slice a n c]] w fun e w' => e = .returned (.bool false) ∧ Below w.heap.size w w' := by
  have HBX := Lib.hid (dbox_below w k a n c)
  by_cases h0 : 0 ≤ k
  · have d0 : decide (k < 0) = false := by simp; omega
    by_cases h1 : k ≤ 65536
    · have d1 : decide ((65536 : Int) < k) = false := by simp; omega
      have d2 : decide ((12 : Int) < (n : Int)) = true := by simp; omega
      go_enter Try.func19, Try.ntmps19
      go_wp2
      go_ret
      exact ⟨rfl, HBX.out⟩
    · have d1 : decide ((65536 : Int) < k) = true := by simp; omega
      go_enter Try.func19, Try.ntmps19
      go_wp2
      go_ret
      exact ⟨rfl, HBX.out⟩
  · have d0 : decide (k < 0) = true := by simp; omega
    go_enter Try.func19, Try.ntmps19
    go_wp2
    go_ret
    exact ⟨rfl, HBX.out⟩

theorem drop_at {xs : List FP} {k : Nat} {x : FP} (h : xs[k]? = some x) : FP.files (xs.drop k) = FP.file x :: FP.files (xs.drop (k + 1)) := by
  obtain ⟨h1, h2⟩ := List.getElem?_eq_some_iff.1 h
  rw [List.drop_eq_getElem_cons h1, h2]; rfl

set_option maxRecDepth 100000 in
set_option maxHeartbeats 400000 in
theorem may_in (k : Int) (a : Option Addr) (n c : Nat) (xs : List FP) (b : Bool) (w : World) (hd : DiskIn w a n c xs) (h : 0 ≤ k ∧ k ≤ 65536 ∧ n ≤ 12) (hb : D.chk 0 k (FP.files xs) = b) :
    Calls Try.prog 19 #[.agg #[.int .i64 k, .slice a n c]] w fun e w' => e = .returned (.bool b) ∧ Below w.heap.size w w' := by
  have HBX := Lib.hid (dbox_below w k a n c)
  have HD := Lib.hid hd
  have HB := Lib.hid hb
  have d0 : decide (k < 0) = false := by simp; omega
  have d1 : decide ((65536 : Int) < k) = false := by simp; omega
  have d2 : decide ((12 : Int) < (n : Int)) = false := by simp; omega
  obtain ⟨k0, hk0⟩ : ∃ k0, k0 = k := ⟨k, rfl⟩
  have HN : n ≤ 12 := h.2.2
  have hk1 : 0 ≤ k ∧ k ≤ 65536 := ⟨h.1, h.2.1⟩
  clear hd hb h
  go_enter Try.func19, Try.ntmps19
  go_wp2_with fail
  go_quiet (fail)
  go_wp2_with fail
  go_loopw [3, 4, 26] (fun p r i wr => ∃ (k : Nat) (y z : Int), i = .int .i64 k ∧ p = .int .i64 y ∧ r = .int .i64 z ∧ k ≤ n ∧ (z ≤ 65536 ∧ 0 ≤ z) ∧ Hid (D.chk y z (FP.files (xs.drop k)) = b) ∧ Below w.heap.size w wr) (fun _ _ i _ => n - (intOf i).toNat)
  case atStart => exact ⟨0, 0, k, rfl, rfl, rfl, by omega, by omega, by simpa using HB, HBX.out.trans (below_drewN _ _ _)⟩
  case round =>
    obtain ⟨j, y, z, rfl, rfl, rfl, hjn, hz, HC, hB⟩ := hrel
    by_cases hlt : j < n
    · obtain ⟨b1, o1, no, a1, n1, c1, B1, s1, rfl, hb1, hx, p0, p1, p2, hok⟩ := ((HD.out.below hB).2.1).at (i := j) (by rw [HD.out.1]; exact hlt)
      have HS : Hid ((decide (1 ≤ no ∧ no ≤ 1073741824 ∧ y < no ∧ 0 ≤ s1 ∧ s1 ≤ (n1 : Int) ∧ (n1 : Int) ≤ z) && D.chk no (z - n1) (FP.files (xs.drop (j + 1)))) = b) := Lib.hid (by
        have h := HC.out
        rw [drop_at hx] at h
        simpa [D.chk, FP.file, hok.1] using h)
      have BB := Lib.hid (hB.trans (((Below.refl _ wr).alloc (Nat.le_refl _) (.cells #[.int .i64 no, .slice a1 n1 c1, .int .i64 s1] 43)).mono hB.size))
      clear hx hok HC
      by_cases h1 : 1 ≤ no ∧ no ≤ 1073741824
      · have HI := Lib.hid (decide_eq_true h1)
        by_cases h2 : no ≤ y
        · have HF : Hid (b = false) := Lib.hid (by rw [← HS.out, decide_eq_false (by omega)]; rfl)
          have e2 : decide (no ≤ y) = true := by simp; omega
          clear h1
          go_wp2_with (go_at_call 38; refine (isNo_any no true _ HI.out).mono ?_; rintro e w' ⟨rfl, rfl⟩)
          go_ret
          exact ⟨by rw [HF.out]; rfl, BB.out⟩
        · have e2 : decide (no ≤ y) = false := by simp; omega
          by_cases h3 : s1 < 0
          · have HF : Hid (b = false) := Lib.hid (by rw [← HS.out, decide_eq_false (by omega)]; rfl)
            have e3 : decide (s1 < 0) = true := by simp; omega
            clear h1
            go_wp2_with (go_at_call 38; refine (isNo_any no true _ HI.out).mono ?_; rintro e w' ⟨rfl, rfl⟩)
            go_ret
            exact ⟨by rw [HF.out]; rfl, BB.out⟩
          · have e3 : decide (s1 < 0) = false := by simp; omega
            by_cases h4 : (n1 : Int) < s1
            · have HF : Hid (b = false) := Lib.hid (by rw [← HS.out, decide_eq_false (by omega)]; rfl)
              have e4 : decide ((n1 : Int) < s1) = true := by simp; omega
              clear h1
              go_wp2_with (go_at_call 38; refine (isNo_any no true _ HI.out).mono ?_; rintro e w' ⟨rfl, rfl⟩)
              go_ret
              exact ⟨by rw [HF.out]; rfl, BB.out⟩
            · have e4 : decide ((n1 : Int) < s1) = false := by simp; omega
              by_cases h5 : z < (n1 : Int)
              · have HF : Hid (b = false) := Lib.hid (by rw [← HS.out, decide_eq_false (by omega)]; rfl)
                have e5 : decide (z < (n1 : Int)) = true := by simp; omega
                clear h1
                go_wp2_with (go_at_call 38; refine (isNo_any no true _ HI.out).mono ?_; rintro e w' ⟨rfl, rfl⟩)
                go_ret
                exact ⟨by rw [HF.out]; rfl, BB.out⟩
              · have e5 : decide (z < (n1 : Int)) = false := by simp; omega
                have HT : Hid (D.chk no (z - n1) (FP.files (xs.drop (j + 1))) = b) := Lib.hid (by rw [← HS.out, decide_eq_true (by omega)]; rfl)
                have hw : IntKind.i64.wrap (z - (n1 : Int)) = z - n1 := wrap_i64_small (by omega) (by omega)
                clear h1
                go_wp2_with (go_at_call 38; refine (isNo_any no true _ HI.out).mono ?_; rintro e w' ⟨rfl, rfl⟩)
                go_roundw
                case rel => exact ⟨j + 1, no, z - n1, by go_num, rfl, rfl, by omega, by omega, HT, BB.out⟩
                case measure => simp [intOf]; omega
      · have HF : Hid (b = false) := Lib.hid (by rw [← HS.out, decide_eq_false (by omega)]; rfl)
        have HI := Lib.hid (decide_eq_false h1)
        clear h1
        go_wp2_with (go_at_call 38; refine (isNo_any no false _ HI.out).mono ?_; rintro e w' ⟨rfl, rfl⟩)
        go_ret
        exact ⟨by rw [HF.out]; rfl, BB.out⟩
    · have HE : Hid (b = true) := Lib.hid (by
        have h := HC.out
        rw [List.drop_eq_nil_of_le (by rw [HD.out.1]; omega)] at h
        exact h.symm)
      have hd : decide (j < n) = false := by simp; omega
      go_wp2
      go_ret
      exact ⟨by rw [HE.out]; rfl, hB⟩

/-- **May**, at every disk. -/
theorem may_any (k : Int) (a : Option Addr) (n c : Nat) (xs : List FP) (b : Bool) (w : World) (hd : DiskIn w a n c xs) (hb : decide (D.may (k, FP.files xs)) = b) :
    Calls Try.prog 19 #[.agg #[.int .i64 k, .slice a n c]] w fun e w' => e = .returned (.bool b) ∧ Below w.heap.size w w' := by
  have hl : (FP.files xs).length = n := by rw [FP.files_len, hd.1]
  by_cases h : 0 ≤ k ∧ k ≤ 65536 ∧ n ≤ 12
  · refine may_in k a n c xs b w hd h ?_
    rw [← hb, Bool.eq_iff_iff, decide_eq_true_iff, D.may_chk]
    simp only [hl]
    exact ⟨fun h1 => ⟨h, h1⟩, fun h1 => h1.2⟩
  · have : b = false := by
      rw [← hb]
      refine decide_eq_false fun h1 => h ?_
      have := h1.1
      rwa [hl] at this
    subst this
    exact may_out k a n c w h
end Go.Proofs.Ytcabhibbajkpkaa
