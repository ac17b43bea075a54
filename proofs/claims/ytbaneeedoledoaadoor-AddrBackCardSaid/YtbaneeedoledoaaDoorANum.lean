/-
  Walks of moorings/addr.isDigit, number: a range over a string, sign by sign, at every string (valid as UTF-8 or not).
-/
import Derived.Test.YtbaneeedoledoaaDoorALib
import Derived.Laws.RangeAny
namespace Go.Proofs.YtbaneeedoledoaaDoor
open Go.RowKit

theorem isDigit_any (r : Int) (d : Bool) (w : World) (h : decide (48 ≤ r ∧ r ≤ 57) = d) :
    Calls Tryd.prog 39 #[.int .i32 r] w fun e w' => e = .returned (.bool d) ∧ w = w' := by
  have HB := Lib.hid h
  clear h
  by_cases h1 : 48 ≤ r
  · have HB2 : Hid (d = decide (r ≤ 57)) := Lib.hid (by rw [← HB.out]; simp [h1])
    go_enter Tryd.func39, Tryd.ntmps39
    go_wp2
    go_ret
    exact ⟨by rw [HB2.out]; rfl, rfl⟩
  · have HB2 : Hid (d = false) := Lib.hid (by rw [← HB.out]; simp [h1])
    have h2 : decide (48 ≤ r) = false := by simp [h1]
    go_enter Tryd.func39, Tryd.ntmps39
    go_wp2
    go_ret
    exact ⟨by rw [HB2.out]; rfl, rfl⟩

theorem iter_below (w : World) (s : ByteArray) (pos : Nat) : Below w.heap.size w (w.iter s pos) := (Below.refl _ w).alloc (Nat.le_refl _) _

theorem bytes_at (s : ByteArray) (pos : Nat) (h : pos < s.size) : ∃ c : UInt8, s.data.toList = s.data.toList.take pos ++ c :: s.data.toList.drop (pos + 1) ∧ s.data.toList.take (pos + 1) = s.data.toList.take pos ++ [c] ∧ (s[pos]'h).toNat = c.toNat := by
  have hl : pos < s.data.toList.length := h
  refine ⟨s.data.toList[pos], ?_, ?_, ?_⟩
  · have h2 := List.take_append_drop pos s.data.toList
    rw [List.drop_eq_getElem_cons hl] at h2
    exact h2.symm
  · rw [List.take_succ_eq_append_getElem hl]
  · show (s.data[pos]).toNat = _
    rw [Array.getElem_toList]
/-- What 'next' gives of the byte at hand: its own number, if it is one of ASCII; else a sign of 128 or more. -/
theorem sign_at (s : ByteArray) (pos : Nat) (h : pos < s.size) (c : UInt8) (hc : (s[pos]'h).toNat = c.toNat) :
    ∃ r k : Nat, Utf8.decode s pos = (r, k) ∧ r ≤ 2147483647 ∧ ((r = c.toNat ∧ k = 1 ∧ A.isD c) ∨ (¬ (48 ≤ r ∧ r ≤ 57) ∧ ¬ A.isD c)) := by
  by_cases ha : (s[pos]'h).toNat < 128
  · refine ⟨_, _, decode_ascii s pos h ha, by omega, ?_⟩
    by_cases hd : A.isD c
    · exact .inl ⟨hc, rfl, hd⟩
    · exact .inr ⟨by rw [hc]; exact hd, hd⟩
  · have h1 := decode_high s pos h (by omega)
    have h2 := decode_le s pos
    rcases hdec : Utf8.decode s pos with ⟨r, k⟩
    rw [hdec] at h1 h2
    have h3 : 128 ≤ r := h1.1
    refine ⟨r, k, rfl, h2, .inr ⟨by omega, ?_⟩⟩
    rw [hc] at ha
    unfold A.isD; omega
theorem A.nv_no {top : Nat} {s : List UInt8} (h : A.nis top s = false) : A.nv top s = 0 := by unfold A.nv; rw [h]; rfl
theorem empty_eq (s : ByteArray) : (!s.toList.isEmpty) = decide (s.data.toList ≠ []) := by
  rw [ByteArray.toList_eq]
  cases s.data.toList <;> rfl

set_option maxHeartbeats 1600000 in
theorem number_any (s : ByteArray) (top v : Nat) (d : Bool) (w : World) (ht : top ≤ 1000) (hv : A.nv top s.data.toList = v) (hd : A.nis top s.data.toList = d) :
    Calls Tryd.prog 30 #[.string s, .int .i64 top] w fun e w' => e = .returned (.tuple #[.int .i64 v, .bool d]) ∧ Below w.heap.size w w' := by
  have HV := Lib.hid hv
  have HD := Lib.hid hd
  clear hv hd
  go_enter Tryd.func30, Tryd.ntmps30
  go_wp2_with fail
  go_loopw [6] (fun i wr => ∃ (pos n : Nat), i = .int .i64 n ∧ n ≤ top ∧ Hid (A.Pre (s.data.toList.take pos) n top) ∧ pos ≤ s.size ∧ wr = w.iter s pos) (fun _ wr => s.size - wr.iterPos w.heap.size)
  case atStart => exact ⟨0, 0, rfl, by omega, Lib.hid (A.Pre.start top), by omega, rfl⟩
  case round =>
    obtain ⟨pos, n, rfl, hn, HP, hpos, rfl⟩ := hrel
    by_cases hp : pos < s.size
    · obtain ⟨c, hs, hs1, hsc⟩ := bytes_at s pos hp
      obtain ⟨r, k, hdec, hr, hcase⟩ := sign_at s pos hp c hsc
      have hnx : ∀ ty, (Instr.next (.pointer (some ⟨w.heap.size, 0, none⟩)) true ty).run Tryd.prog (w.iter s pos) = .ok (.tuple #[.bool true, .int .i64 pos, .int .i32 r]) (w.iter s (pos + k)) := fun ty => by rw [run_next_any w s pos ty hp, hdec]
      have HS := Lib.hid hs
      have HS1 := Lib.hid hs1
      have HW := fun k => Lib.hid (iter_below w s k)
      clear hs hs1 hsc hdec
      rcases hcase with ⟨hrc, rfl, hD⟩ | ⟨hrd, hD⟩
      · have hD1 : 48 ≤ r ∧ r ≤ 57 := by rw [hrc]; exact hD
        obtain ⟨hD2, hD3⟩ := hD1
        have HD1 := Lib.hid hD
        have HRC := Lib.hid hrc
        clear hD hrc
        have hdg := isDigit_any r true
        have HDG : Hid (decide (48 ≤ (r : Int) ∧ (r : Int) ≤ 57) = true) := Lib.hid (decide_eq_true (by omega))
        by_cases h0 : pos > 0 ∧ n = 0
        · obtain ⟨h1, rfl⟩ := h0
          have d1 : decide (0 < (pos : Int)) = true := by simp; omega
          have HF : Hid (A.nis top s.data.toList = false) := Lib.hid (by
            rw [HS.out]; refine A.Pre.nought HP.out (fun h => ?_)
            have h2 := congrArg List.length h
            have h3 : s.data.toList.length = s.size := rfl
            rw [List.length_take, h3, List.length_nil] at h2
            omega)
          have HF1 : Hid (d = false) := Lib.hid (by rw [← HD.out, HF.out])
          have HF2 : Hid (v = 0) := Lib.hid (by rw [← HV.out, A.nv_no HF.out])
          go_wp2_with fail
          refine (hdg _ HDG.out).mono ?_
          rintro e w1 ⟨rfl, rfl⟩
          go_wp2
          go_ret2
          exact ⟨by rw [HF1.out, HF2.out]; rfl, (HW _).out⟩
        · have hn2 : 10 * n + (r - 48) ≤ 100000 := by omega
          have hz1 : IntKind.i32.wrap ((r : Int) - 48) = (r : Int) - 48 := IntWalk.i32_in _ (by omega)
          by_cases h2 : 10 * n + (r - 48) ≤ top
          · have HP2 : Hid (A.Pre (s.data.toList.take (pos + 1)) (10 * n + (r - 48)) top) := Lib.hid (by
              rw [HS1.out, HRC.out]
              refine HP.out.step HD1.out ?_ (by rw [← HRC.out]; exact h2)
              by_cases h3 : pos = 0
              · left; rw [h3]; rfl
              · right; intro h4; exact h0 ⟨by omega, h4⟩)
            by_cases hpz : 0 < pos
            · have d1 : decide (0 < (pos : Int)) = true := by simp; omega
              have hn0 : ¬ n = 0 := by intro h; exact h0 ⟨hpz, h⟩
              have d2 : ((n : Int) == 0) = false := by rw [beq_eq_false_iff_ne]; omega
              have d3 : decide ((top : Int) < 10 * (n : Int) + ((r : Int) - 48)) = false := decide_eq_false (by omega)
              clear h0
              go_wp2_with fail
              refine (hdg _ HDG.out).mono ?_
              rintro e w1 ⟨rfl, rfl⟩
              go_wp2
              go_roundw
              case rel => exact ⟨pos + 1, 10 * n + (r - 48), by go_num, h2, HP2, by omega, rfl⟩
              case measure => simp only [World.iterPos, World.iter_heap]; omega
            · have d1 : decide (0 < (pos : Int)) = false := by simp; omega
              have d3 : decide ((top : Int) < 10 * (n : Int) + ((r : Int) - 48)) = false := decide_eq_false (by omega)
              clear h0
              go_wp2_with fail
              refine (hdg _ HDG.out).mono ?_
              rintro e w1 ⟨rfl, rfl⟩
              go_wp2
              go_roundw
              case rel => exact ⟨pos + 1, 10 * n + (r - 48), by go_num, h2, HP2, by omega, rfl⟩
              case measure => simp only [World.iterPos, World.iter_heap]; omega
          · have HF : Hid (A.nis top s.data.toList = false) := Lib.hid (by
              rw [HS.out]
              refine HP.out.over ?_
              rw [← HRC.out]; omega)
            have HF1 : Hid (d = false) := Lib.hid (by rw [← HD.out, HF.out])
            have HF2 : Hid (v = 0) := Lib.hid (by rw [← HV.out, A.nv_no HF.out])
            have d3 : decide ((top : Int) < 10 * (n : Int) + ((r : Int) - 48)) = true := decide_eq_true (by omega)
            by_cases hpz : 0 < pos
            · have d1 : decide (0 < (pos : Int)) = true := by simp; omega
              have hn0 : ¬ n = 0 := by intro h; exact h0 ⟨hpz, h⟩
              have d2 : ((n : Int) == 0) = false := by rw [beq_eq_false_iff_ne]; omega
              clear h0 h2
              go_wp2_with fail
              refine (hdg _ HDG.out).mono ?_
              rintro e w1 ⟨rfl, rfl⟩
              go_wp2
              go_ret2
              exact ⟨by rw [HF1.out, HF2.out]; rfl, (HW _).out⟩
            · have d1 : decide (0 < (pos : Int)) = false := by simp; omega
              clear h0 h2
              go_wp2_with fail
              refine (hdg _ HDG.out).mono ?_
              rintro e w1 ⟨rfl, rfl⟩
              go_wp2
              go_ret2
              exact ⟨by rw [HF1.out, HF2.out]; rfl, (HW _).out⟩
      · have hdg := isDigit_any r false
        have HF : Hid (A.nis top s.data.toList = false) := Lib.hid (by rw [HS.out]; exact A.Pre.digit hD)
        have HF1 : Hid (d = false) := Lib.hid (by rw [← HD.out, HF.out])
        have HF2 : Hid (v = 0) := Lib.hid (by rw [← HV.out, A.nv_no HF.out])
        have hrd2 : ¬ (48 ≤ (r : Int) ∧ (r : Int) ≤ 57) := by omega
        have HRD := Lib.hid hrd2
        clear hrd hrd2 hD
        go_wp2_with fail
        refine (hdg _ (decide_eq_false HRD.out)).mono ?_
        rintro e w1 ⟨rfl, rfl⟩
        go_wp2
        go_ret2
        exact ⟨by rw [HF1.out, HF2.out]; rfl, (HW _).out⟩
    · have hnx : ∀ ty, (Instr.next (.pointer (some ⟨w.heap.size, 0, none⟩)) true ty).run Tryd.prog (w.iter s pos) = _ := fun ty => run_next_end w s pos ty hp
      have hfin := HP.out.fin
      rw [List.take_of_length_le (show s.data.toList.length ≤ pos by have : s.data.toList.length = s.size := rfl; omega)] at hfin
      rw [← empty_eq, HD.out, HV.out] at hfin
      have HF := Lib.hid hfin
      clear hfin
      have HW := Lib.hid (iter_below w s pos)
      go_wp2
      go_ret2
      exact ⟨by rw [HF.out.1, HF.out.2]; rfl, HW.out⟩
end Go.Proofs.YtbaneeedoledoaaDoor
