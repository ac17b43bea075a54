/-
  Walks of moorings/disk.isSameFile, slices.EqualFunc by it, Same, New.
-/
import Derived.Test.YtcabhibbajkpkaaDMay
namespace Go.Proofs.Ytcabhibbajkpkaa
open Go.RowKit

theorem two_boxes {P : Prop} {w : World} (u v : Obj) (h : Below w.heap.size w ((w.alloc u).alloc v) → P) : P := h (((Below.refl _ w).alloc (Nat.le_refl _) u).alloc (by simp) v)

theorem isSame_any (no : Int) (a : Option Addr) (n c : Nat) (B : List Int) (s : Int) (no' : Int) (a' : Option Addr) (n' c' : Nat) (B' : List Int) (s' : Int) (b : Bool) (w : World) (hx : FP.ok w ⟨no, a, n, c, B, s⟩) (hy : FP.ok w ⟨no', a', n', c', B', s'⟩) (hb : decide (((no, B, s) : D.F) = (no', B', s')) = b) :
    Calls Try.prog 40 #[.agg #[.int .i64 no, .slice a n c, .int .i64 s], .agg #[.int .i64 no', .slice a' n' c', .int .i64 s']] w fun e w' => e = .returned (.bool b) ∧ Below w.heap.size w w' := by
  have HX := Lib.hid hx
  have HY := Lib.hid hy
  have HB := Lib.hid hb
  clear hx hy hb
  by_cases h1 : no = no'
  · by_cases h2 : s = s'
    · have HB2 : Hid (decide (B = B') = b) := Lib.hid (by rw [← HB.out]; simp [h1, h2])
      subst h1 h2
      go_enter Try.func40, Try.ntmps40
      go_wp2_with fail
      refine two_boxes (w := w) _ _ (fun hb => (equal_any a a' n n' c c' B B' _ HX.out.1 HY.out.1 (HX.out.2.1.below hb) (HY.out.2.1.below hb)).mono ?_)
      rintro e w1 ⟨rfl, hb1⟩
      rw [HB2.out]
      have W1 := Lib.hid (hb.trans (hb1.mono hb.size))
      clear hb1
      go_wp2
      go_ret
      exact ⟨rfl, W1.out⟩
    · have HB2 : Hid (b = false) := Lib.hid (by rw [← HB.out]; simp [h2])
      have e1 : (s == s') = false := by simpa using h2
      subst h1
      clear h2
      go_enter Try.func40, Try.ntmps40
      go_wp2
      go_ret
      exact ⟨by rw [HB2.out]; rfl, two_boxes (w := w) _ _ (fun hb => hb)⟩
  · have HB2 : Hid (b = false) := Lib.hid (by rw [← HB.out]; simp [h1])
    have e1 : (no == no') = false := by simpa using h1
    clear h1
    go_enter Try.func40, Try.ntmps40
    go_wp2
    go_ret
    exact ⟨by rw [HB2.out]; rfl, two_boxes (w := w) _ _ (fun hb => hb)⟩

theorem files_step {xs ys : List FP} {k : Nat} {x y : FP} (hx : xs[k]? = some x) (hy : ys[k]? = some y) (h : FP.files (xs.take k) = FP.files (ys.take k)) (he : decide (FP.file x = FP.file y) = true) : FP.files (xs.take (k + 1)) = FP.files (ys.take (k + 1)) := by
  obtain ⟨h1, h2⟩ := List.getElem?_eq_some_iff.1 hx
  obtain ⟨h3, h4⟩ := List.getElem?_eq_some_iff.1 hy
  rw [List.take_succ_eq_append_getElem h1, List.take_succ_eq_append_getElem h3, h2, h4]
  simp only [FP.files, List.map_append] at h ⊢
  rw [h]
  simp [of_decide_eq_true he]
theorem files_bad {xs ys : List FP} {k : Nat} {x y : FP} (hx : xs[k]? = some x) (hy : ys[k]? = some y) (he : decide (FP.file x = FP.file y) = false) : decide (FP.files xs = FP.files ys) = false := by
  refine decide_eq_false fun h => of_decide_eq_false he ?_
  have h1 : (FP.files xs)[k]? = some (FP.file x) := by simp [FP.files, hx]
  have h2 : (FP.files ys)[k]? = some (FP.file y) := by simp [FP.files, hy]
  rw [h, h2] at h1
  simpa using h1.symm

set_option maxRecDepth 100000 in
set_option maxHeartbeats 400000 in
theorem equalF_any (a a' : Option Addr) (n m c c' : Nat) (xs ys : List FP) (b : Bool) (w : World) (hx : DiskIn w a n c xs) (hy : DiskIn w a' m c' ys) (hb : decide (FP.files xs = FP.files ys) = b) :
    Calls Try.prog 39 #[.slice a n c, .slice a' m c', .func (.func 40) #[] #[]] w fun e w' => e = .returned (.bool b) ∧ Below w.heap.size w w' := by
  have HX := Lib.hid hx
  have HY := Lib.hid hy
  have HB := Lib.hid hb
  by_cases hnm : n = m
  · subst hnm
    have hcap := hx.caps
    have hcap' := hy.caps
    have hml : maxLen ≤ 9223372036854775807 := by decide
    clear hx hy hb
    go_enter Try.func39, Try.ntmps39
    go_wp2_with fail
    go_loopg [17] n (fun g i wr => ∃ k : Nat, i = .int .i64 k ∧ k + g = n ∧ Hid (FP.files (xs.take k) = FP.files (ys.take k)) ∧ Below w.heap.size w wr)
    case atStart => exact ⟨0, rfl, by omega, Lib.hid (by simp), Below.refl _ _⟩
    case round =>
      obtain ⟨k, rfl, hkn, HT, hB⟩ := hrel
      by_cases hlt : k < n
      · obtain ⟨b1, o1, no1, a1, n1, c1, B1, s1, rfl, hb1, hx, p0, p1, p2, hok⟩ := ((HX.out.below hB).2.1).at (i := k) (by rw [HX.out.1]; exact hlt)
        obtain ⟨b2, o2, no2, a2, n2, c2, B2, s2, rfl, hb2, hy, q0, q1, q2, hok2⟩ := ((HY.out.below hB).2.1).at (i := k) (by rw [HY.out.1]; exact hlt)
        have HX1 := Lib.hid hx
        have HY1 := Lib.hid hy
        have HO1 := Lib.hid hok
        have HO2 := Lib.hid hok2
        clear hx hy hok hok2
        have hf := fbox_below wr no1 a1 n1 c1 s1
        have r0 : ∀ o, (wr.alloc o).cell? ⟨b2, o2 + k * 3, none⟩ = some (.int .i64 no2) := fun o => (((Below.refl _ wr).alloc (Nat.le_refl _) o).cell (p := ⟨b2, o2 + k * 3, none⟩) hb2).trans q0
        have r1 : ∀ o, (wr.alloc o).cell? ⟨b2, o2 + k * 3 + 1, none⟩ = some (.slice a2 n2 c2) := fun o => (((Below.refl _ wr).alloc (Nat.le_refl _) o).cell (p := ⟨b2, o2 + k * 3 + 1, none⟩) hb2).trans q1
        have r2 : ∀ o, (wr.alloc o).cell? ⟨b2, o2 + k * 3 + 2, none⟩ = some (.int .i64 s2) := fun o => (((Below.refl _ wr).alloc (Nat.le_refl _) o).cell (p := ⟨b2, o2 + k * 3 + 2, none⟩) hb2).trans q2
        obtain ⟨d, hd⟩ : ∃ d, decide (((no1, B1, s1) : D.F) = (no2, B2, s2)) = d := ⟨_, rfl⟩
        have HDD := Lib.hid hd
        clear hd
        go_wp2_with fail
        refine two_boxes (w := wr) _ _ (fun hb => (isSame_any no1 a1 n1 c1 B1 s1 no2 a2 n2 c2 B2 s2 d _ (HO1.out.below hb) (HO2.out.below hb) HDD.out).mono ?_)
        rintro e w4 ⟨rfl, hb4⟩
        have W4 := Lib.hid (hB.trans ((hb.trans (hb4.mono hb.size)).mono hB.size))
        clear hb4 hb r0 r1 r2 p0 p1 p2 q0 q1 q2
        cases d with
        | false =>
          have HC := Lib.hid (files_bad HX1.out HY1.out HDD.out)
          go_wp2
          go_ret
          exact ⟨by rw [← HB.out, HC.out]; rfl, W4.out⟩
        | true =>
          have HC := Lib.hid (files_step HX1.out HY1.out HT.out HDD.out)
          go_wp2
          go_roundg (n - (k + 1))
          case rel => exact ⟨k + 1, by go_num, by omega, HC, W4.out⟩
          case measure => omega
      · have HE : Hid (b = true) := Lib.hid (by
          rw [← HB.out]
          have := HT.out
          rw [List.take_of_length_le (by rw [HX.out.1]; omega), List.take_of_length_le (by rw [HY.out.1]; omega)] at this
          exact decide_eq_true this)
        have hd : decide (k < n) = false := by simp; omega
        go_wp2
        go_ret
        exact ⟨by rw [HE.out]; rfl, hB⟩
  · have HB2 : Hid (b = false) := Lib.hid (by
      rw [← HB.out]
      refine decide_eq_false fun h => hnm ?_
      have h1 := congrArg List.length h
      rw [FP.files_len, FP.files_len, HX.out.1, HY.out.1] at h1
      exact h1)
    have hd : ((n : Int) != m) = true := by simp; omega
    clear hx hy hnm hb
    go_enter Try.func39, Try.ntmps39
    go_wp2
    go_ret
    exact ⟨by rw [HB2.out]; rfl, Below.refl _ _⟩

/-- **Same**, at every two disks. -/
theorem same_any (k : Int) (a : Option Addr) (n c : Nat) (xs : List FP) (k' : Int) (a' : Option Addr) (n' c' : Nat) (ys : List FP) (b : Bool) (w : World) (hx : DiskIn w a n c xs) (hy : DiskIn w a' n' c' ys) (hb : decide (((k, FP.files xs) : D.T) = (k', FP.files ys)) = b) :
    Calls Try.prog 20 #[.agg #[.int .i64 k, .slice a n c], .agg #[.int .i64 k', .slice a' n' c']] w fun e w' => e = .returned (.bool b) ∧ Below w.heap.size w w' := by
  have HX := Lib.hid hx
  have HY := Lib.hid hy
  have HB := Lib.hid hb
  clear hx hy hb
  by_cases h1 : k = k'
  · have HB2 : Hid (decide (FP.files xs = FP.files ys) = b) := Lib.hid (by rw [← HB.out]; simp [h1])
    subst h1
    go_enter Try.func20, Try.ntmps20
    go_wp2_with fail
    refine two_boxes (w := w) _ _ (fun hb => (equalF_any a a' n n' c c' xs ys b _ (HX.out.below hb) (HY.out.below hb) HB2.out).mono ?_)
    rintro e w1 ⟨rfl, hb1⟩
    have W1 := Lib.hid (hb.trans (hb1.mono hb.size))
    clear hb1
    go_wp2
    go_ret
    exact ⟨rfl, W1.out⟩
  · have HB2 : Hid (b = false) := Lib.hid (by rw [← HB.out]; simp [h1])
    have e1 : (k == k') = false := by simpa using h1
    clear h1
    go_enter Try.func20, Try.ntmps20
    go_wp2
    go_ret
    exact ⟨by rw [HB2.out]; rfl, two_boxes (w := w) _ _ (fun hb => hb)⟩
end Go.Proofs.Ytcabhibbajkpkaa
