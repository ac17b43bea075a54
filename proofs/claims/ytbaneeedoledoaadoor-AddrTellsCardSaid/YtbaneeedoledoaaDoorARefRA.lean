/-
  Walk of the document's ReadAll, at every text of at most 100 bytes.
-/
import Derived.Test.YtbaneeedoledoaaDoorARefRead
import Derived.BigRegion
namespace Go.Proofs.YtbaneeedoledoaaDoor
open Go.RowKit

def A.five (l : List Nat) : Prop := l.length = 5 ∧ l.getD 0 0 ≤ 255 ∧ l.getD 1 0 ≤ 255 ∧ l.getD 2 0 ≤ 255 ∧ l.getD 3 0 ≤ 255
theorem A.five_text {b k : Nat} (h : b < 4294967296) (hk : k < 10000) : A.five (A.nums (A.textAll b k)) ∧ A.sum4 (A.nums (A.textAll b k)) = b ∧ (A.nums (A.textAll b k)).getD 4 0 = k := by
  rw [A.nums_textAll h hk]
  refine ⟨⟨rfl, ?_, ?_, ?_, ?_⟩, ?_, rfl⟩
  · show b / 16777216 ≤ 255; omega
  · show b / 65536 % 256 ≤ 255; omega
  · show b / 256 % 256 ≤ 255; omega
  · show b % 256 ≤ 255; omega
  · show 16777216 * (b / 16777216) + 65536 * (b / 65536 % 256) + 256 * (b / 256 % 256) + b % 256 = b; omega
theorem A.pre_no5 {s : List UInt8} (h : ¬ A.five (A.nums s)) : A.isP s = false ∧ A.prB s = 0 ∧ A.prK s = 0 := by
  have : A.isP s = false := A.isP_no fun b k hk he => h (by rw [← he]; exact (A.five_text hk.2.1 (by have := hk.1; omega)).1)
  exact ⟨this, (A.isP_not this).1, (A.isP_not this).2.1⟩
theorem A.pre_empty : A.isP [] = false ∧ A.prB [] = 0 ∧ A.prK [] = 0 := by
  have : A.isP [] = false := A.isP_no fun b k _ he => A.textAll_ne b k he
  exact ⟨this, (A.isP_not this).1, (A.isP_not this).2.1⟩
theorem A.pre_no {s : List UInt8} {b k : Nat} (hb : A.sum4 (A.nums s) = b) (hk : (A.nums s).getD 4 0 = k) (h : ¬ A.txtAll b k = s) : A.isP s = false ∧ A.prB s = 0 ∧ A.prK s = 0 := by
  have : A.isP s = false := A.isP_no fun c j hj he => h (by
    subst he
    obtain ⟨_, h1, h2⟩ := A.five_text hj.2.1 (show j < 10000 by have := hj.1; omega)
    rw [h1] at hb; rw [h2] at hk
    subst hb hk
    unfold A.txtAll
    rw [A.may_nat, decide_eq_true hj, if_pos rfl]; rfl)
  exact ⟨this, (A.isP_not this).1, (A.isP_not this).2.1⟩
theorem A.pre_yes {s : List UInt8} {b k : Nat} (hs : s ≠ []) (h : A.txtAll b k = s) : A.isP s = true ∧ A.prB s = b ∧ A.prK s = k := by
  unfold A.txtAll at h
  rw [A.may_nat] at h
  by_cases ho : A.okP b k
  · rw [decide_eq_true ho, if_pos rfl] at h
    have h2 : A.textAll b k = s := h
    rw [← h2]
    exact A.isP_text ho
  · rw [decide_eq_false ho] at h
    exact absurd h.symm hs

set_option maxHeartbeats 1600000 in
theorem refReadAll_any (s : ByteArray) (b k : Nat) (d : Bool) (w : World) (hz : s.size ≤ 100) (hb : A.prB s.data.toList = b) (hk : A.prK s.data.toList = k) (hd : A.isP s.data.toList = d) :
    Calls Tryd.prog 16 #[.string s] w fun e w' => e = .returned (.tuple #[.agg #[.int .i64 b, .int .i64 k], .bool d]) ∧ Below w.heap.size w w' := by
  have HB := Lib.hid hb
  have HK := Lib.hid hk
  have HD := Lib.hid hd
  have hnum := numbers_any s (pbox w 0 0) hz
  obtain ⟨l, hl⟩ : ∃ l, A.nums s.data.toList = l := ⟨_, rfl⟩
  rw [hl] at hnum
  have HN := Lib.hid hl
  clear hb hk hd hl
  go_enter Tryd.func16, Tryd.ntmps16
  go_wp2_with fail
  refine hnum.mono ?_
  rintro e w1 ⟨sv, rfl, ho, hm, hb1⟩
  obtain ⟨a, cap, rfl, hr⟩ := own_row ho (A.ints_wf hm)
  have HR := Lib.hid hr
  have hk1 : Blok w1 w.heap.size 23 #[.int .i64 0, .int .i64 0] := (pbox_blok w 0 0).below hb1 (pbox_blok w 0 0).lt
  have HK1 := Lib.hid hk1
  have HB1 := Lib.hid ((pbox_below w 0 0).trans (hb1.mono (pbox_below w 0 0).size))
  have f0 := hk1.frozen 0
  have f1 := hk1.frozen 1
  have g0 := pb0 hk1
  have g1 := pb1 hk1
  have HFZ := fun b k => Lib.hid (fin_pre (w := w) w.heap.size (Nat.le_refl _) HK1.out HB1.out b k)
  clear ho hb1 hnum hk1
  obtain ⟨n, hn⟩ : ∃ n, l.length = n := ⟨_, rfl⟩
  rw [hn]
  by_cases h5 : n = 5
  · subst h5
    match l, hn, HR, HN, hm with
    | [x0, x1, x2, x3, x4], _, HR, HN, hm =>
      have hz2 : ∃ q off, a = some ⟨q, off, none⟩ ∧ q < w1.heap.size ∧ w1.cell? ⟨q, off, none⟩ = some (.int .i64 x0) ∧ w1.cell? ⟨q, off + 1, none⟩ = some (.int .i64 x1) ∧ w1.cell? ⟨q, off + 2, none⟩ = some (.int .i64 x2) ∧ w1.cell? ⟨q, off + 3, none⟩ = some (.int .i64 x3) ∧ w1.cell? ⟨q, off + 4, none⟩ = some (.int .i64 x4) := by
        rcases HR.out.2.2 with h | ⟨q, off, h, hq, hc⟩
        · cases h
        · exact ⟨q, off, h, hq, hc 0 (show 0 < 5 by decide), hc 1 (show 1 < 5 by decide), hc 2 (show 2 < 5 by decide), hc 3 (show 3 < 5 by decide), hc 4 (show 4 < 5 by decide)⟩
      obtain ⟨q, off, rfl, hq, c0, c1, c2, c3, c4⟩ := hz2
      have old : ∀ (o : Obj) (i : Nat), (w1.alloc o).cell? ⟨q, i, none⟩ = w1.cell? ⟨q, i, none⟩ := fun o i => ((Below.refl w1.heap.size w1).alloc (Nat.le_refl _) o).cell (p := ⟨q, i, none⟩) hq
      have c0' : ∀ o, (w1.alloc o).cell? ⟨q, off, none⟩ = some (.int .i64 x0) := fun o => (old o _).trans c0
      have c1' : ∀ o, (w1.alloc o).cell? ⟨q, off + 1, none⟩ = some (.int .i64 x1) := fun o => (old o _).trans c1
      have c2' : ∀ o, (w1.alloc o).cell? ⟨q, off + 2, none⟩ = some (.int .i64 x2) := fun o => (old o _).trans c2
      have c3' : ∀ o, (w1.alloc o).cell? ⟨q, off + 3, none⟩ = some (.int .i64 x3) := fun o => (old o _).trans c3
      have c4' : ∀ o, (w1.alloc o).cell? ⟨q, off + 4, none⟩ = some (.int .i64 x4) := fun o => (old o _).trans c4
      clear old hq
      have hcap : 5 ≤ cap := HR.out.1.1
      by_cases h0 : x0 ≤ 255
      · have d0 : decide (255 < (x0 : Int)) = false := by simp; omega
        by_cases h1 : x1 ≤ 255
        · have d1 : decide (255 < (x1 : Int)) = false := by simp; omega
          by_cases h2 : x2 ≤ 255
          · have d2 : decide (255 < (x2 : Int)) = false := by simp; omega
            by_cases h3 : x3 ≤ 255
            · have d3 : decide (255 < (x3 : Int)) = false := by simp; omega
              obtain ⟨m, hm4⟩ : ∃ m, A.sum4 (A.nums s.data.toList) = m := ⟨_, rfl⟩
              have hmlt : m < 4294967296 := by rw [← hm4, HN.out]; exact A.sum4_lt h0 h1 h2 h3
              have hsum : 16777216 * (x0 : Int) + 65536 * (x1 : Int) + 256 * (x2 : Int) + (x3 : Int) = m := by
                rw [← hm4, HN.out]
                show _ = ((16777216 * x0 + 65536 * x1 + 256 * x2 + x3 : Nat) : Int)
                omega
              have z1 : IntKind.i64.wrap (16777216 * (x0 : Int)) = 16777216 * (x0 : Int) := IntWalk.i64_in _ (by omega)
              have z2 : IntKind.i64.wrap (65536 * (x1 : Int)) = 65536 * (x1 : Int) := IntWalk.i64_in _ (by omega)
              have z3 : IntKind.i64.wrap (16777216 * (x0 : Int) + 65536 * (x1 : Int)) = 16777216 * (x0 : Int) + 65536 * (x1 : Int) := IntWalk.i64_in _ (by omega)
              have z4 : IntKind.i64.wrap (256 * (x2 : Int)) = 256 * (x2 : Int) := IntWalk.i64_in _ (by omega)
              have z5 : IntKind.i64.wrap (16777216 * (x0 : Int) + 65536 * (x1 : Int) + 256 * (x2 : Int)) = 16777216 * (x0 : Int) + 65536 * (x1 : Int) + 256 * (x2 : Int) := IntWalk.i64_in _ (by omega)
              have z6 : IntKind.i64.wrap (16777216 * (x0 : Int) + 65536 * (x1 : Int) + 256 * (x2 : Int) + (x3 : Int)) = m := by rw [IntWalk.i64_in _ (by omega), hsum]
              have HM4 := Lib.hid hm4
              have HX4 : Hid ((A.nums s.data.toList).getD 4 0 = x4) := Lib.hid (by rw [HN.out]; rfl)
              have HPB := Lib.hid (pbox_blok w1 m x4).drew
              have HBW : Hid (Below w.heap.size w (w1.alloc (.cells #[.int .i64 m, .int .i64 x4] 23)).drew) := Lib.hid ((HB1.out.alloc HB1.out.size _).drew)
              have HKW : Hid (Blok (w1.alloc (.cells #[.int .i64 m, .int .i64 x4] 23)).drew w.heap.size 23 #[.int .i64 0, .int .i64 0]) := Lib.hid (HK1.out.alloc _).drew
              have f0' : ∀ o, (w1.alloc o).frozen? ⟨w.heap.size, 0, none⟩ = false := fun o => (HK1.out.alloc o).frozen 0
              have f1' : ∀ o, (w1.alloc o).frozen? ⟨w.heap.size, 1, none⟩ = false := fun o => (HK1.out.alloc o).frozen 1
              have g0' : ∀ o, (w1.alloc o).cell? ⟨w.heap.size, 0, none⟩ = some (.int .i64 0) := fun o => pb0 (HK1.out.alloc o)
              have g1' : ∀ o, (w1.alloc o).cell? ⟨w.heap.size, 1, none⟩ = some (.int .i64 0) := fun o => pb1 (HK1.out.alloc o)
              have HFD := fun b k => Lib.hid (fin_pre (w := w) w.heap.size (Nat.le_refl _) HKW.out HBW.out b k)
              obtain ⟨t, ht⟩ : ∃ t, str (A.txtAll m x4) = t := ⟨_, rfl⟩
              have HT : Hid ((t.toList == s.toList) = decide (A.txtAll m x4 = s.data.toList)) := Lib.hid (by rw [← ht]; exact str_cmp _ _)
              have hrt2 := fun W => refTextAll_any m x4 (A.txtAll m x4) W rfl
              rw [ht] at hrt2
              clear hsum hm4 ht
              go_wp2_with fail
              go_region
              by_cases hse : s.data.toList = []
              · have HF := Lib.hid A.pre_empty
                have HF1 : Hid (d = false) := Lib.hid (by rw [← HD.out, hse, HF.out.1])
                have HF2 : Hid (b = 0) := Lib.hid (by rw [← HB.out, hse, HF.out.2.1])
                have HF3 : Hid (k = 0) := Lib.hid (by rw [← HK.out, hse, HF.out.2.2])
                have d8 : s.toList.isEmpty = true := by rw [ByteArray.toList_eq, hse]; rfl
                clear hse
                go_wp2
                refine bodyPost_ret (ret_pre rfl w.heap.size 0 0 (by kernel_rfl) rfl (HFD _ _).out.1) rfl ?_
                exact ⟨by rw [HF1.out, HF2.out, HF3.out]; rfl, (HFD _ _).out.2⟩
              · have d8 : s.toList.isEmpty = false := by
                  rw [ByteArray.toList_eq]
                  cases hx : s.data.toList with
                  | nil => exact absurd hx hse
                  | cons _ _ => rfl
                have HSE := Lib.hid hse
                clear hse
                go_wp2_with fail
                refine (hrt2 _).mono ?_
                rintro e w5 ⟨rfl, hb5⟩
                have hk5 := HKW.out.below hb5 HKW.out.lt
                have hp5 := HPB.out.below hb5 HPB.out.lt
                have p0 : w5.cell? ⟨w1.heap.size, 0, none⟩ = some (.int .i64 m) := pb0 hp5
                have p1 : w5.cell? ⟨w1.heap.size, 1, none⟩ = some (.int .i64 x4) := pb1 hp5
                have f0 := hk5.frozen 0
                have f1 := hk5.frozen 1
                have g0 := pb0 hk5
                have g1 := pb1 hk5
                have HFQ := fun b k => Lib.hid (fin_pre (w := w) w.heap.size (Nat.le_refl _) hk5 (HBW.out.trans (hb5.mono HBW.out.size)) b k)
                clear hb5 hk5 hp5
                by_cases heq : A.txtAll m x4 = s.data.toList
                · have HF := Lib.hid (A.pre_yes HSE.out heq)
                  have HF1 : Hid (d = true) := Lib.hid (by rw [← HD.out, HF.out.1])
                  have HF2 : Hid (b = m) := Lib.hid (by rw [← HB.out, HF.out.2.1])
                  have HF3 : Hid (k = x4) := Lib.hid (by rw [← HK.out, HF.out.2.2])
                  have d9 : (t.toList == s.toList) = true := by rw [HT.out]; exact decide_eq_true heq
                  clear heq
                  go_wp2
                  refine bodyPost_ret (ret_pre rfl w.heap.size m x4 (by kernel_rfl) rfl (HFQ _ _).out.1) rfl ?_
                  exact ⟨by rw [HF1.out, HF2.out, HF3.out]; rfl, (HFQ _ _).out.2⟩
                · have HF := Lib.hid (A.pre_no HM4.out HX4.out heq)
                  have HF1 : Hid (d = false) := Lib.hid (by rw [← HD.out, HF.out.1])
                  have HF2 : Hid (b = 0) := Lib.hid (by rw [← HB.out, HF.out.2.1])
                  have HF3 : Hid (k = 0) := Lib.hid (by rw [← HK.out, HF.out.2.2])
                  have d9 : (t.toList == s.toList) = false := by rw [HT.out]; exact decide_eq_false heq
                  clear heq
                  go_wp2
                  refine bodyPost_ret (ret_pre rfl w.heap.size 0 0 (by kernel_rfl) rfl (HFQ _ _).out.1) rfl ?_
                  exact ⟨by rw [HF1.out, HF2.out, HF3.out]; rfl, (HFQ _ _).out.2⟩
            · have HF := Lib.hid (A.pre_no5 (s := s.data.toList) (by rw [HN.out]; exact fun h => h3 (by have := h.2.2.2.2; exact this)))
              have HF1 : Hid (d = false) := Lib.hid (by rw [← HD.out, HF.out.1])
              have HF2 : Hid (b = 0) := Lib.hid (by rw [← HB.out, HF.out.2.1])
              have HF3 : Hid (k = 0) := Lib.hid (by rw [← HK.out, HF.out.2.2])
              have d3 : decide (255 < (x3 : Int)) = true := by simp; omega
              clear h3
              go_wp2
              refine bodyPost_ret (ret_pre rfl w.heap.size 0 0 (by kernel_rfl) rfl (HFZ _ _).out.1) rfl ?_
              exact ⟨by rw [HF1.out, HF2.out, HF3.out]; rfl, (HFZ _ _).out.2⟩
          · have HF := Lib.hid (A.pre_no5 (s := s.data.toList) (by rw [HN.out]; exact fun h => h2 (by have := h.2.2.2.1; exact this)))
            have HF1 : Hid (d = false) := Lib.hid (by rw [← HD.out, HF.out.1])
            have HF2 : Hid (b = 0) := Lib.hid (by rw [← HB.out, HF.out.2.1])
            have HF3 : Hid (k = 0) := Lib.hid (by rw [← HK.out, HF.out.2.2])
            have d2 : decide (255 < (x2 : Int)) = true := by simp; omega
            clear h2
            go_wp2
            refine bodyPost_ret (ret_pre rfl w.heap.size 0 0 (by kernel_rfl) rfl (HFZ _ _).out.1) rfl ?_
            exact ⟨by rw [HF1.out, HF2.out, HF3.out]; rfl, (HFZ _ _).out.2⟩
        · have HF := Lib.hid (A.pre_no5 (s := s.data.toList) (by rw [HN.out]; exact fun h => h1 (by have := h.2.2.1; exact this)))
          have HF1 : Hid (d = false) := Lib.hid (by rw [← HD.out, HF.out.1])
          have HF2 : Hid (b = 0) := Lib.hid (by rw [← HB.out, HF.out.2.1])
          have HF3 : Hid (k = 0) := Lib.hid (by rw [← HK.out, HF.out.2.2])
          have d1 : decide (255 < (x1 : Int)) = true := by simp; omega
          clear h1
          go_wp2
          refine bodyPost_ret (ret_pre rfl w.heap.size 0 0 (by kernel_rfl) rfl (HFZ _ _).out.1) rfl ?_
          exact ⟨by rw [HF1.out, HF2.out, HF3.out]; rfl, (HFZ _ _).out.2⟩
      · have HF := Lib.hid (A.pre_no5 (s := s.data.toList) (by rw [HN.out]; exact fun h => h0 (by have := h.2.1; exact this)))
        have HF1 : Hid (d = false) := Lib.hid (by rw [← HD.out, HF.out.1])
        have HF2 : Hid (b = 0) := Lib.hid (by rw [← HB.out, HF.out.2.1])
        have HF3 : Hid (k = 0) := Lib.hid (by rw [← HK.out, HF.out.2.2])
        have d0 : decide (255 < (x0 : Int)) = true := by simp; omega
        clear h0
        go_wp2
        refine bodyPost_ret (ret_pre rfl w.heap.size 0 0 (by kernel_rfl) rfl (HFZ _ _).out.1) rfl ?_
        exact ⟨by rw [HF1.out, HF2.out, HF3.out]; rfl, (HFZ _ _).out.2⟩
  · have HF := Lib.hid (A.pre_no5 (s := s.data.toList) (by rw [HN.out]; exact fun h => h5 (by rw [← hn]; exact h.1)))
    have HF1 : Hid (d = false) := Lib.hid (by rw [← HD.out, HF.out.1])
    have HF2 : Hid (b = 0) := Lib.hid (by rw [← HB.out, HF.out.2.1])
    have HF3 : Hid (k = 0) := Lib.hid (by rw [← HK.out, HF.out.2.2])
    have h6 : ¬ (n : Int) = 5 := by omega
    have h7 : ((n : Int) != 5) = true := by simpa using h6
    go_wp2
    refine bodyPost_ret (ret_pre rfl w.heap.size 0 0 (by kernel_rfl) rfl (HFZ _ _).out.1) rfl ?_
    exact ⟨by rw [HF1.out, HF2.out, HF3.out]; rfl, (HFZ _ _).out.2⟩
end Go.Proofs.YtbaneeedoledoaaDoor
