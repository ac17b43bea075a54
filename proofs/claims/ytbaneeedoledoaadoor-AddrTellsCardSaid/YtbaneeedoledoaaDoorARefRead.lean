/-
  Walks of the document's Read, ReadAll, at every text of at most 100 bytes.
-/
import Derived.Test.YtbaneeedoledoaaDoorARefNum
import Derived.Test.YtbaneeedoledoaaDoorARefText
import Derived.Test.YtbaneeedoledoaaDoorARead
namespace Go.Proofs.YtbaneeedoledoaaDoor
open Go.RowKit

theorem str_cmp (l : List UInt8) (s : ByteArray) : ((str l).toList == s.toList) = decide (l = s.data.toList) := by
  have h := str_eq l s.data.toList
  rwa [str_of] at h
/-- What the document's Read finds: four numbers below 256 whose text it is. -/
def A.four (l : List Nat) : Prop := l.length = 4 ∧ l.getD 0 0 ≤ 255 ∧ l.getD 1 0 ≤ 255 ∧ l.getD 2 0 ≤ 255 ∧ l.getD 3 0 ≤ 255
instance (l : List Nat) : Decidable (A.four l) := by unfold A.four; infer_instance
def A.sum4 (l : List Nat) : Nat := 16777216 * l.getD 0 0 + 65536 * l.getD 1 0 + 256 * l.getD 2 0 + l.getD 3 0
theorem A.sum4_lt {l : List Nat} (h1 : l.getD 0 0 ≤ 255) (h2 : l.getD 1 0 ≤ 255) (h3 : l.getD 2 0 ≤ 255) (h4 : l.getD 3 0 ≤ 255) : A.sum4 l < 4294967296 := by unfold A.sum4; omega
theorem A.four_text {a : Nat} (h : a < 4294967296) : A.four (A.nums (A.text a)) ∧ A.sum4 (A.nums (A.text a)) = a := by
  rw [A.nums_text h]
  refine ⟨⟨rfl, ?_, ?_, ?_, ?_⟩, ?_⟩
  · show a / 16777216 ≤ 255; omega
  · show a / 65536 % 256 ≤ 255; omega
  · show a / 256 % 256 ≤ 255; omega
  · show a % 256 ≤ 255; omega
  · show 16777216 * (a / 16777216) + 65536 * (a / 65536 % 256) + 256 * (a / 256 % 256) + a % 256 = a; omega
theorem A.read_no4 {s : List UInt8} (h : ¬ A.four (A.nums s)) : A.isA s = false ∧ A.adr s = 0 := by
  have : A.isA s = false := A.isA_no fun a ha he => h (by rw [← he]; exact (A.four_text ha).1)
  exact ⟨this, (A.isA_not this).1⟩
theorem A.read_no5 {s : List UInt8} (h : A.four (A.nums s)) (h2 : ¬ A.text (A.sum4 (A.nums s)) = s) : A.isA s = false ∧ A.adr s = 0 := by
  have : A.isA s = false := A.isA_no fun a ha he => by
    subst he
    rw [(A.four_text ha).2] at h2
    exact h2 rfl
  exact ⟨this, (A.isA_not this).1⟩
theorem A.read_yes {s : List UInt8} (h : A.four (A.nums s)) (h2 : A.text (A.sum4 (A.nums s)) = s) : A.isA s = true ∧ A.adr s = A.sum4 (A.nums s) := by
  have hlt := A.sum4_lt h.2.1 h.2.2.1 h.2.2.2.1 h.2.2.2.2
  exact ⟨by rw [← h2]; exact A.isA_text hlt, by conv => lhs; rw [← h2]
                                                exact A.adr_text hlt⟩

set_option maxHeartbeats 800000 in
theorem refRead_any (s : ByteArray) (v : Nat) (d : Bool) (w : World) (hz : s.size ≤ 100) (hv : A.adr s.data.toList = v) (hd : A.isA s.data.toList = d) :
    Calls Tryd.prog 14 #[.string s] w fun e w' => e = .returned (.tuple #[.int .i64 v, .bool d]) ∧ Below w.heap.size w w' := by
  have HV := Lib.hid hv
  have HD := Lib.hid hd
  have hnum := numbers_any s w hz
  obtain ⟨l, hl⟩ : ∃ l, A.nums s.data.toList = l := ⟨_, rfl⟩
  rw [hl] at hnum
  have HN := Lib.hid hl
  clear hv hd hl
  go_enter Tryd.func14, Tryd.ntmps14
  go_wp2_with fail
  refine hnum.mono ?_
  rintro e w1 ⟨sv, rfl, ho, hm, hb1⟩
  obtain ⟨a, cap, rfl, hr⟩ := own_row ho (A.ints_wf hm)
  have HR := Lib.hid hr
  have HB1 := Lib.hid hb1
  clear ho hb1 hnum
  obtain ⟨n, hn⟩ : ∃ n, l.length = n := ⟨_, rfl⟩
  rw [hn]
  by_cases h4 : n = 4
  · subst h4
    match l, hn, HR, HN, hm with
    | [x0, x1, x2, x3], _, HR, HN, hm =>
      have hz2 : ∃ b off, a = some ⟨b, off, none⟩ ∧ w1.cell? ⟨b, off, none⟩ = some (.int .i64 x0) ∧ w1.cell? ⟨b, off + 1, none⟩ = some (.int .i64 x1) ∧ w1.cell? ⟨b, off + 2, none⟩ = some (.int .i64 x2) ∧ w1.cell? ⟨b, off + 3, none⟩ = some (.int .i64 x3) := by
        rcases HR.out.2.2 with h | ⟨b, off, h, _, hc⟩
        · cases h
        · exact ⟨b, off, h, hc 0 (show 0 < 4 by decide), hc 1 (show 1 < 4 by decide), hc 2 (show 2 < 4 by decide), hc 3 (show 3 < 4 by decide)⟩
      obtain ⟨b, off, rfl, c0, c1, c2, c3⟩ := hz2
      have hcap : 4 ≤ cap := HR.out.1.1
      by_cases h0 : x0 ≤ 255
      · have d0 : decide (255 < (x0 : Int)) = false := by simp; omega
        by_cases h1 : x1 ≤ 255
        · have d1 : decide (255 < (x1 : Int)) = false := by simp; omega
          by_cases h2 : x2 ≤ 255
          · have d2 : decide (255 < (x2 : Int)) = false := by simp; omega
            by_cases h3 : x3 ≤ 255
            · have d3 : decide (255 < (x3 : Int)) = false := by simp; omega
              have HFO : Hid (A.four (A.nums s.data.toList)) := Lib.hid (by rw [HN.out]; exact ⟨rfl, h0, h1, h2, h3⟩)
              obtain ⟨m, hm4⟩ : ∃ m, A.sum4 (A.nums s.data.toList) = m := ⟨_, rfl⟩
              have hmlt : m < 4294967296 := by rw [← hm4]; exact A.sum4_lt HFO.out.2.1 HFO.out.2.2.1 HFO.out.2.2.2.1 HFO.out.2.2.2.2
              have hsum : 16777216 * (x0 : Int) + 65536 * (x1 : Int) + 256 * (x2 : Int) + (x3 : Int) = m := by
                rw [← hm4, HN.out]
                show _ = ((16777216 * x0 + 65536 * x1 + 256 * x2 + x3 : Nat) : Int)
                omega
              have z1 : IntKind.i64.wrap (16777216 * (x0 : Int)) = 16777216 * (x0 : Int) := IntWalk.i64_in _ (by omega)
              have z2 : IntKind.i64.wrap (65536 * (x1 : Int)) = 65536 * (x1 : Int) := IntWalk.i64_in _ (by omega)
              have z3 : IntKind.i64.wrap (16777216 * (x0 : Int) + 65536 * (x1 : Int)) = 16777216 * (x0 : Int) + 65536 * (x1 : Int) := IntWalk.i64_in _ (by omega)
              have z4 : IntKind.i64.wrap (256 * (x2 : Int)) = 256 * (x2 : Int) := IntWalk.i64_in _ (by omega)
              have z5 : IntKind.i64.wrap (16777216 * (x0 : Int) + 65536 * (x1 : Int) + 256 * (x2 : Int)) = 16777216 * (x0 : Int) + 65536 * (x1 : Int) + 256 * (x2 : Int) := IntWalk.i64_in _ (by omega)
              have z6 : IntKind.i64.wrap (16777216 * (x0 : Int) + 65536 * (x1 : Int) + 256 * (x2 : Int) + (x3 : Int)) = m := by rw [IntWalk.i64_in _ (by omega), hsum]
              have HM4 := Lib.hid hm4
              have htx : A.txt (m : Int) = A.text m := by unfold A.txt; rw [if_pos (by omega)]; rfl
              have hrt := refText_any (m : Int) (A.text m) (w1.drewN 0) htx
              obtain ⟨t, ht⟩ : ∃ t, str (A.text m) = t := ⟨_, rfl⟩
              have HT : Hid ((t.toList == s.toList) = decide (A.text m = s.data.toList)) := Lib.hid (by rw [← ht]; exact str_cmp _ _)
              have hrt2 := fun W => refText_any (m : Int) (A.text m) W htx
              rw [ht] at hrt2
              clear hsum hm4 hrt htx ht
              go_wp2_with fail
              go_quiet (fail)
              go_wp2_with fail
              refine (hrt2 _).mono ?_
              rintro e w2 ⟨rfl, hb2⟩
              have HB2 := Lib.hid (HB1.out.trans (((below_drewN w1.heap.size w1 nq).trans (hb2.mono (Nat.le_refl _))).mono HB1.out.size))
              clear hb2
              by_cases heq : A.text m = s.data.toList
              · have HF := Lib.hid (A.read_yes HFO.out (by rw [HM4.out]; exact heq))
                have HF1 : Hid (d = true) := Lib.hid (by rw [← HD.out, HF.out.1])
                have HF2 : Hid (v = m) := Lib.hid (by rw [← HV.out, HF.out.2, HM4.out])
                have d9 : (t.toList == s.toList) = true := by rw [HT.out]; exact decide_eq_true heq
                clear heq
                go_wp2
                go_ret2
                exact ⟨by rw [HF1.out, HF2.out]; rfl, HB2.out⟩
              · have HF := Lib.hid (A.read_no5 HFO.out (by rw [HM4.out]; exact heq))
                have HF1 : Hid (d = false) := Lib.hid (by rw [← HD.out, HF.out.1])
                have HF2 : Hid (v = 0) := Lib.hid (by rw [← HV.out, HF.out.2])
                have d9 : (t.toList == s.toList) = false := by rw [HT.out]; exact decide_eq_false heq
                clear heq
                go_wp2
                go_ret2
                exact ⟨by rw [HF1.out, HF2.out]; rfl, HB2.out⟩
            · have HF := Lib.hid (A.read_no4 (s := s.data.toList) (by rw [HN.out]; exact fun h => h3 (by have := h.2.2.2.2; exact this)))
              have HF1 : Hid (d = false) := Lib.hid (by rw [← HD.out, HF.out.1])
              have HF2 : Hid (v = 0) := Lib.hid (by rw [← HV.out, HF.out.2])
              have d3 : decide (255 < (x3 : Int)) = true := by simp; omega
              clear h3
              go_wp2
              go_ret2
              exact ⟨by rw [HF1.out, HF2.out]; rfl, HB1.out⟩
          · have HF := Lib.hid (A.read_no4 (s := s.data.toList) (by rw [HN.out]; exact fun h => h2 (by have := h.2.2.2.1; exact this)))
            have HF1 : Hid (d = false) := Lib.hid (by rw [← HD.out, HF.out.1])
            have HF2 : Hid (v = 0) := Lib.hid (by rw [← HV.out, HF.out.2])
            have d2 : decide (255 < (x2 : Int)) = true := by simp; omega
            clear h2
            go_wp2
            go_ret2
            exact ⟨by rw [HF1.out, HF2.out]; rfl, HB1.out⟩
        · have HF := Lib.hid (A.read_no4 (s := s.data.toList) (by rw [HN.out]; exact fun h => h1 (by have := h.2.2.1; exact this)))
          have HF1 : Hid (d = false) := Lib.hid (by rw [← HD.out, HF.out.1])
          have HF2 : Hid (v = 0) := Lib.hid (by rw [← HV.out, HF.out.2])
          have d1 : decide (255 < (x1 : Int)) = true := by simp; omega
          clear h1
          go_wp2
          go_ret2
          exact ⟨by rw [HF1.out, HF2.out]; rfl, HB1.out⟩
      · have HF := Lib.hid (A.read_no4 (s := s.data.toList) (by rw [HN.out]; exact fun h => h0 (by have := h.2.1; exact this)))
        have HF1 : Hid (d = false) := Lib.hid (by rw [← HD.out, HF.out.1])
        have HF2 : Hid (v = 0) := Lib.hid (by rw [← HV.out, HF.out.2])
        have d0 : decide (255 < (x0 : Int)) = true := by simp; omega
        clear h0
        go_wp2
        go_ret2
        exact ⟨by rw [HF1.out, HF2.out]; rfl, HB1.out⟩
  · have HF := Lib.hid (A.read_no4 (s := s.data.toList) (by rw [HN.out]; exact fun h => h4 (by rw [← hn]; exact h.1)))
    have HF1 : Hid (d = false) := Lib.hid (by rw [← HD.out, HF.out.1])
    have HF2 : Hid (v = 0) := Lib.hid (by rw [← HV.out, HF.out.2])
    have h5 : ¬ (n : Int) = 4 := by omega
    have h6 : ((n : Int) != 4) = true := by simpa using h5
    go_wp2
    go_ret2
    exact ⟨by rw [HF1.out, HF2.out]; rfl, HB1.out⟩
end Go.Proofs.YtbaneeedoledoaaDoor
