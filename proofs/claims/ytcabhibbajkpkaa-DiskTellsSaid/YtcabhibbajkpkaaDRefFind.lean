/-
  Walks of New, and of the document's New, Find, Used, at, Same of disks.
-/
import Derived.Test.YtcabhibbajkpkaaDRefMay
import Derived.Test.YtcabhibbajkpkaaDSame
import Derived.Test.YtcabhibbajkpkaaDWith
namespace Go.Proofs.Ytcabhibbajkpkaa
open Go.RowKit

theorem D.find_none_of {d : D.T} {no : Int} (hm : D.may d) (h : ∀ t, t < d.2.length → (d.2.getD t D.nof).1 ≠ no) : D.find d no = -1 := by
  unfold D.find
  rw [if_pos hm]
  cases hi : D.idx d.2 no with
  | none => rfl
  | some i =>
    obtain ⟨h1, h2⟩ := D.idx_some hi
    exact absurd h2 (h i h1)
/-- The worlds of New: the result's box, the disk's. -/
def nwbox (w : World) (room : Int) : World := dbox (dbox w 0 none 0 0) room none 0 0
theorem nw_below (w : World) (room : Int) : Below w.heap.size w (nwbox w room) := (dbox_below w 0 none 0 0).trans ((dbox_below _ room none 0 0).mono (dbox_below w 0 none 0 0).size)
theorem nw_res (w : World) (room : Int) : Blok (nwbox w room) w.heap.size 24 #[.int .i64 0, .slice none 0 0] := (dbox_blok w 0 none 0 0).alloc _
theorem nw_arg (w : World) (room : Int) : Blok (nwbox w room) (w.heap.size + 1) 24 #[.int .i64 room, .slice none 0 0] := by
  have := dbox_blok (dbox w 0 none 0 0) room none 0 0
  rwa [dbox_size] at this
theorem small_nil : D.small (FP.files []) := ⟨by simp [FP.files], by simp [FP.files]⟩

theorem new_any (room : Int) (b : Bool) (w : World) (hb : decide (D.may (room, [])) = b) :
    Calls Try.prog 15 #[.int .i64 room] w fun e w' => e = .returned (.tuple #[.agg #[.int .i64 (if b = true then room else 0), .slice none 0 0], .bool b]) ∧ Below w.heap.size w w' := by
  have HB := Lib.hid hb
  have HX := Lib.hid (nw_below w room)
  clear hb
  go_enter Try.func15, Try.ntmps15
  go_wp2_with fail
  refine (may_any room none 0 0 [] b (nwbox w room) (DiskIn.empty _) HB.out).mono ?_
  rintro e w1 ⟨rfl, hb1⟩
  have W1 := Lib.hid (HX.out.trans (hb1.mono HX.out.size))
  have KR := Lib.hid ((nw_res w room).on hb1)
  have KA := Lib.hid ((nw_arg w room).on hb1)
  clear hb1
  have k0 := dk0 KA.out
  have k1 := dk1 KA.out
  have r0 := dk0 KR.out
  have r1 := dk1 KR.out
  have f0 := KR.out.frozen 0
  have f1 := KR.out.frozen 1
  cases b with
  | true =>
    go_wp2
    refine bodyPost_ret (ret_disk2 (x := .bool true) (g := w.heap.size) rfl room none 0 0 (by kernel_rfl) (by kernel_rfl) KR.out.put) (by kernel_rfl) ?_
    exact ⟨rfl, below_store W1.out (Nat.le_refl _) _ _ _ _⟩
  | false =>
    go_wp2
    refine bodyPost_ret (ret_disk2 (x := .bool false) (g := w.heap.size) rfl 0 none 0 0 (by kernel_rfl) (by kernel_rfl) KR.out.put) (by kernel_rfl) ?_
    exact ⟨rfl, below_store W1.out (Nat.le_refl _) _ _ _ _⟩
theorem refNew_any (room : Int) (b : Bool) (w : World) (hb : decide (D.may (room, [])) = b) :
    Calls Try.prog 16 #[.int .i64 room] w fun e w' => e = .returned (.tuple #[.agg #[.int .i64 (if b = true then room else 0), .slice none 0 0], .bool b]) ∧ Below w.heap.size w w' := by
  have HB := Lib.hid hb
  have HX := Lib.hid (nw_below w room)
  clear hb
  go_enter Try.func16, Try.ntmps16
  go_wp2_with fail
  refine (refMay_any room none 0 0 [] b (nwbox w room) (DiskIn.empty _) small_nil HB.out).mono ?_
  rintro e w1 ⟨rfl, hb1⟩
  have W1 := Lib.hid (HX.out.trans (hb1.mono HX.out.size))
  have KR := Lib.hid ((nw_res w room).on hb1)
  have KA := Lib.hid ((nw_arg w room).on hb1)
  clear hb1
  have k0 := dk0 KA.out
  have k1 := dk1 KA.out
  have r0 := dk0 KR.out
  have r1 := dk1 KR.out
  have f0 := KR.out.frozen 0
  have f1 := KR.out.frozen 1
  cases b with
  | true =>
    go_wp2
    refine bodyPost_ret (ret_disk2 (x := .bool true) (g := w.heap.size) rfl room none 0 0 (by kernel_rfl) (by kernel_rfl) KR.out.put) (by kernel_rfl) ?_
    exact ⟨rfl, below_store W1.out (Nat.le_refl _) _ _ _ _⟩
  | false =>
    go_wp2
    refine bodyPost_ret (ret_disk2 (x := .bool false) (g := w.heap.size) rfl 0 none 0 0 (by kernel_rfl) (by kernel_rfl) KR.out.put) (by kernel_rfl) ?_
    exact ⟨rfl, below_store W1.out (Nat.le_refl _) _ _ _ _⟩

theorem refUsedD_any (k : Int) (a : Option Addr) (n c : Nat) (xs : List FP) (u : Int) (w : World) (hd : DiskIn w a n c xs) (hs : D.small (FP.files xs)) (hu : (if D.may (k, FP.files xs) then (D.used (FP.files xs) : Int) else 0) = u) :
    Calls Try.prog 24 #[.agg #[.int .i64 k, .slice a n c]] w fun e w' => e = .returned (.int .i64 u) ∧ Below w.heap.size w w' := by
  have HBX := Lib.hid (dbox_below w k a n c)
  have HD := Lib.hid hd
  have HS := Lib.hid hs
  by_cases hm : D.may (k, FP.files xs)
  · have HM := Lib.hid (decide_eq_true hm)
    obtain ⟨v, hv⟩ : ∃ v, D.used (FP.files xs) = v := ⟨_, rfl⟩
    have HV := Lib.hid hv
    have HU : Hid ((v : Int) = u) := Lib.hid (by rw [← hu, if_pos hm, hv])
    clear hd hs hu hm hv
    go_enter Try.func24, Try.ntmps24
    go_wp2_with fail
    refine (refMay_any k a n c xs true (dbox w k a n c) (HD.out.below HBX.out) HS.out HM.out).mono ?_
    rintro e w1 ⟨rfl, hb1⟩
    have W1 := Lib.hid (HBX.out.trans (hb1.mono HBX.out.size))
    have KB := Lib.hid ((dbox_blok w k a n c).on hb1)
    clear hb1
    have k1 := dk1 KB.out
    go_wp2_with fail
    refine (refUsed_any a n c xs v w1 (HD.out.below W1.out) HS.out HV.out).mono ?_
    rintro e w2 ⟨rfl, rfl⟩
    go_wp2
    go_ret
    exact ⟨by rw [← HU.out]; rfl, W1.out⟩
  · have HM := Lib.hid (decide_eq_false hm)
    have HU : Hid (u = 0) := Lib.hid (by rw [← hu, if_neg hm])
    clear hd hs hu hm
    go_enter Try.func24, Try.ntmps24
    go_wp2_with fail
    refine (refMay_any k a n c xs false (dbox w k a n c) (HD.out.below HBX.out) HS.out HM.out).mono ?_
    rintro e w1 ⟨rfl, hb1⟩
    have W1 := Lib.hid (HBX.out.trans (hb1.mono HBX.out.size))
    clear hb1
    go_wp2
    go_ret
    exact ⟨by rw [HU.out]; rfl, W1.out⟩

set_option maxRecDepth 100000 in
set_option maxHeartbeats 400000 in
theorem refFind_any (k : Int) (a : Option Addr) (n c : Nat) (no : Int) (xs : List FP) (r : Int) (w : World) (hd : DiskIn w a n c xs) (hs : D.small (FP.files xs)) (hr : D.find (k, FP.files xs) no = r) :
    Calls Try.prog 22 #[.agg #[.int .i64 k, .slice a n c], .int .i64 no] w fun e w' => e = .returned (.int .i64 r) ∧ Below w.heap.size w w' := by
  have HBX := Lib.hid (dbox_below w k a n c)
  have HD := Lib.hid hd
  have HS := Lib.hid hs
  have hcap := hd.caps
  have hml : maxLen ≤ 9223372036854775807 := by decide
  by_cases hm : D.may (k, FP.files xs)
  · have HM := Lib.hid (decide_eq_true hm)
    have HMM := Lib.hid hm
    have HR := Lib.hid hr
    clear hd hs hr hm
    go_enter Try.func22, Try.ntmps22
    go_wp2_with fail
    refine (refMay_any k a n c xs true (dbox w k a n c) (HD.out.below HBX.out) HS.out HM.out).mono ?_
    rintro e w1 ⟨rfl, hb1⟩
    have W1 := Lib.hid (HBX.out.trans (hb1.mono HBX.out.size))
    have KB := Lib.hid ((dbox_blok w k a n c).on hb1)
    clear hb1
    have k1 := dk1 KB.out
    go_wp2_with fail
    go_loopg [6] n (fun g i wr => ∃ j : Nat, i = .int .i64 j ∧ j + g = n ∧ Hid (∀ t, t < j → ((FP.files xs).getD t D.nof).1 ≠ no) ∧ wr = w1)
    case atStart => exact ⟨0, rfl, by omega, Lib.hid (fun t ht => by omega), rfl⟩
    case round =>
      obtain ⟨j, rfl, hjn, HC, rfl⟩ := hrel
      by_cases hlt : j < n
      · obtain ⟨b1, o1, no1, a1, n1, c1, B1, s1, rfl, hb1, hx, p0, p1, p2, hok⟩ := ((HD.out.below W1.out).2.1).at (i := j) (by rw [HD.out.1]; exact hlt)
        have hfx := FP.files_at hx
        by_cases hno : no1 = no
        · subst hno
          have HF : Hid (r = (j : Int)) := Lib.hid (by
            rw [← HR.out]
            have hjl : j < (FP.files xs).length := by rw [FP.files_len, HD.out.1]; exact hlt
            have hi : D.idx (FP.files xs) no1 = some j := by
              unfold D.idx
              rw [List.findIdx?_eq_some_iff_getElem]
              refine ⟨hjl, ?_, fun t ht => ?_⟩
              · rw [D.getD_lt hjl] at hfx; rw [hfx]; simp [FP.file]
              · have := HC.out t ht
                rw [D.getD_lt (by omega)] at this
                simpa using this
            unfold D.find
            rw [if_pos HMM.out]
            simp only [hi])
          clear hx hok hfx p1 p2
          go_wp2
          go_ret
          exact ⟨by rw [HF.out]; rfl, W1.out⟩
        · have hne : (no1 == no) = false := by simpa using hno
          have HC2 : Hid (∀ t, t < j + 1 → ((FP.files xs).getD t D.nof).1 ≠ no) := Lib.hid (fun t ht => by
            by_cases h : t = j
            · rw [h, hfx]; exact hno
            · exact HC.out t (by omega))
          clear hx hok hfx p1 p2
          go_wp2
          go_roundg (n - (j + 1))
          case rel => exact ⟨j + 1, by go_num, by omega, HC2, rfl⟩
          case measure => omega
      · have HF : Hid (r = -1) := Lib.hid (by
          rw [← HR.out]
          exact D.find_none_of HMM.out (fun t ht => HC.out t (by simp only [FP.files_len, HD.out.1] at ht; omega)))
        have hd : decide (j < n) = false := by simp; omega
        go_wp2
        go_ret
        exact ⟨by rw [HF.out]; rfl, W1.out⟩
  · have HM := Lib.hid (decide_eq_false hm)
    have HF : Hid (r = -1) := Lib.hid (by rw [← hr, find_no hm])
    clear hd hs hr hm
    go_enter Try.func22, Try.ntmps22
    go_wp2_with fail
    refine (refMay_any k a n c xs false (dbox w k a n c) (HD.out.below HBX.out) HS.out HM.out).mono ?_
    rintro e w1 ⟨rfl, hb1⟩
    have W1 := Lib.hid (HBX.out.trans (hb1.mono HBX.out.size))
    have KB := Lib.hid ((dbox_blok w k a n c).on hb1)
    clear hb1
    have k1 := dk1 KB.out
    go_wp2_with fail
    refine wp_loop_rounds 1 ?_
    rw [rounds_succ]
    go_wp2
    all_goals (go_ret; exact ⟨by rw [HF.out]; rfl, W1.out⟩)

set_option maxRecDepth 100000 in
theorem refAt_any (k : Int) (a : Option Addr) (n c : Nat) (no : Int) (xs : List FP) (i e0 : Int) (w : World) (hd : DiskIn w a n c xs) (hs : D.small (FP.files xs)) (hr : seekOf (k, FP.files xs) no = (i, e0)) :
    Calls Try.prog 47 #[.agg #[.int .i64 k, .slice a n c], .int .i64 no] w fun e w' => e = .returned (.tuple #[.int .i64 i, .int .i64 e0]) ∧ Below w.heap.size w w' := by
  have HBX := Lib.hid (dbox_below w k a n c)
  have HD := Lib.hid hd
  have HS := Lib.hid hs
  obtain ⟨f, hf⟩ : ∃ f, D.find (k, FP.files xs) no = f := ⟨_, rfl⟩
  obtain ⟨m, hm⟩ : ∃ m, decide (D.may (k, FP.files xs)) = m := ⟨_, rfl⟩
  have HF := Lib.hid hf
  have HM := Lib.hid hm
  have HR : Hid ((m = false ∧ i = 0 ∧ e0 = 1) ∨ (m = true ∧ f < 0 ∧ i = 0 ∧ e0 = 5) ∨ (m = true ∧ ¬ f < 0 ∧ i = f ∧ e0 = 0)) := Lib.hid (by
    unfold seekOf at hr
    unfold D.find at hf
    by_cases h : D.may (k, FP.files xs)
    · rw [if_pos h] at hr hf
      have hm' : m = true := by rw [← hm]; exact decide_eq_true h
      cases hi : D.idx (FP.files xs) no with
      | none => simp only [hi] at hr hf; simp only [Prod.mk.injEq] at hr; exact .inr (.inl ⟨hm', by omega, hr.1.symm, hr.2.symm⟩)
      | some j => simp only [hi] at hr hf; simp only [Prod.mk.injEq] at hr; exact .inr (.inr ⟨hm', by omega, by omega, hr.2.symm⟩)
    · rw [if_neg h] at hr hf
      simp only [Prod.mk.injEq] at hr
      exact .inl ⟨by rw [← hm]; exact decide_eq_false h, hr.1.symm, hr.2.symm⟩)
  clear hd hs hr hf hm
  go_enter Try.func47, Try.ntmps47
  go_wp2_with fail
  refine (refMay_any k a n c xs m (dbox w k a n c) (HD.out.below HBX.out) HS.out HM.out).mono ?_
  rintro e w1 ⟨rfl, hb1⟩
  have W1 := Lib.hid (HBX.out.trans (hb1.mono HBX.out.size))
  have KB := Lib.hid ((dbox_blok w k a n c).on hb1)
  clear hb1
  have k0 := dk0 KB.out
  have k1 := dk1 KB.out
  rcases HR.out with ⟨rfl, rfl, rfl⟩ | ⟨rfl, hf, rfl, rfl⟩ | ⟨rfl, hf, rfl, rfl⟩
  · go_wp2
    go_ret2
    exact ⟨rfl, W1.out⟩
  · have d1 : decide (f < 0) = true := by simp; omega
    go_wp2_with fail
    refine (refFind_any k a n c no xs f w1 (HD.out.below W1.out) HS.out HF.out).mono ?_
    rintro e w2 ⟨rfl, hb2⟩
    have W2 := Lib.hid (W1.out.trans (hb2.mono W1.out.size))
    clear hb2 k0 k1
    go_wp2
    go_ret2
    exact ⟨rfl, W2.out⟩
  · have d1 : decide (i < 0) = false := by simp; omega
    go_wp2_with fail
    refine (refFind_any k a n c no xs i w1 (HD.out.below W1.out) HS.out HF.out).mono ?_
    rintro e w2 ⟨rfl, hb2⟩
    have W2 := Lib.hid (W1.out.trans (hb2.mono W1.out.size))
    clear hb2 k0 k1
    go_wp2
    go_ret2
    exact ⟨rfl, W2.out⟩
end Go.Proofs.Ytcabhibbajkpkaa
