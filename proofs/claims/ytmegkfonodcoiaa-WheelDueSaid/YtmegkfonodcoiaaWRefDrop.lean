/-
  A walk of mooringsref10.Drop.
-/
import Derived.Test.YtmegkfonodcoiaaWStep
import Derived.Test.YtmegkfonodcoiaaWAdd
namespace Go.Proofs.Ytmegkfonodcoiaa
open Go.RowKit
theorem W.drop_len {l : List W.Tm} {id : Int} : (l.filter (fun t => decide (t.1 ≠ id))).length = l.length ↔ W.has l id = false := by
  rw [List.length_filter_eq_length_iff, W.has_false]
  exact forall_congr' fun t => forall_congr' fun _ => by simp

set_option maxRecDepth 100000 in
set_option maxHeartbeats 2000000 in
theorem refDrop_any (k id : Int) (a : Option Addr) (n c : Nat) (l : List W.Tm) (w : World) (h : TIn w a n c l) (hn : n ≤ 800) :
    Calls Try.prog 14 #[.agg #[.int .i64 k, .slice a n c], .int .i64 id] w fun e w' => ∃ a2 n2 c2, e = .returned (.tuple #[.agg #[.int .i64 k, .slice a2 n2 c2], .bool (W.drop k l id).2]) ∧ Hid (TIn w' a2 n2 c2 (W.drop k l id).1) ∧ Below w.heap.size w w' := by
  have HT := Lib.hid h
  have HB := Lib.hid (wbox2_below w k a n c)
  have KA := Lib.hid (wbox2_arg w k a n c)
  have KR := Lib.hid (wbox2_res w k a n c)
  have hsz := wbox2_size w k a n c
  obtain ⟨W1, hW1⟩ : ∃ W1, wbox2 w k a n c = W1 := ⟨_, rfl⟩
  rw [hW1] at HB KA KR hsz
  unfold wbox2 wbox at hW1
  have a0 := KA.out.b0
  have a1 := KA.out.b1
  clear h
  obtain ⟨p, hp⟩ : ∃ p, W.may k l = p := ⟨_, rfl⟩
  have HP := Lib.hid hp
  have hfl : (l.filter (fun t => decide (t.1 ≠ id))).length ≤ l.length := List.length_filter_le _ _
  go_enter Try.func14, Try.ntmps14
  go_wp2_with fail
  refine (refMay_any k a n c l W1 (HT.out.below HB.out) (by omega) p hp).mono ?_
  rintro e w3 ⟨rfl, hbw3⟩
  have HBw3 := Lib.hid (HB.out.trans (hbw3.mono HB.out.size))
  have KAw3 := Lib.hid (KA.out.on' hbw3)
  have KRw3 := Lib.hid (KR.out.on' hbw3)
  clear hbw3 a0 a1
  have a0 := KAw3.out.b0
  have a1 := KAw3.out.b1
  clear hp hW1
  have hw13 : w.heap.size + 2 ≤ w3.heap.size := by have := KRw3.out.lt; have := HBw3.out.size; omega
  obtain ⟨base, hbase⟩ : ∃ base, base = w3.heap.size := ⟨_, rfl⟩
  obtain ⟨w4, hw4⟩ : ∃ w4, wbox w3 k none 0 0 = w4 := ⟨_, rfl⟩
  have HOb : Hid (Blok w4 base 24 #[.int .i64 k, .slice none 0 0]) := Lib.hid (by rw [← hw4, hbase]; exact wbox_blok _ _ _ _ _)
  have hb34 : Below w3.heap.size w3 w4 := by rw [← hw4]; exact wbox_below _ _ _ _ _
  have HB4 := Lib.hid (HBw3.out.trans (hb34.mono HBw3.out.size))
  have KA4 := Lib.hid (KAw3.out.on' hb34)
  have KR4 := Lib.hid (KRw3.out.on' hb34)
  have hkalt := KAw3.out.lt
  have hkrlt := KRw3.out.lt
  have hb4 : base ≤ w4.heap.size := by rw [hbase]; exact hb34.size
  unfold wbox at hw4
  have HW4 := Lib.hid hw4
  clear hb34 hw4
  go_wp2_with fail
  rw [HW4.out, ← hbase]
  clear HW4 a0 a1
  have hbw : w.heap.size + 2 ≤ base := by omega
  clear hbase
  go_loopw [8] (fun i wr => ∃ (j q : Nat) (v : Value) , i = .int .i64 j ∧ j ≤ n ∧ q ≤ n ∧ Hid (((l.take j).filter (fun t => decide (t.1 ≠ id))).length = q) ∧ Hid (wr.ownsRow base 40 2 v q (W.flat ((l.take j).filter (fun t => decide (t.1 ≠ id))))) ∧ Hid (Blok wr base 24 #[.int .i64 k, v]) ∧ Hid (Blok wr w.heap.size 24 #[.int .i64 k, .slice a n c]) ∧ Hid (Blok wr (w.heap.size + 1) 24 #[.int .i64 0, .slice none 0 0]) ∧ Hid (Below w.heap.size w wr) ∧ base ≤ wr.heap.size) (fun i _ => n - (intOf i).toNat)
  case atStart => exact ⟨0, 0, _, by go_num, by omega, by omega, Lib.hid (by simp), Lib.hid (World.ownsRow_nil _ _ _ _), HOb, KA4, KR4, HB4, hb4⟩
  case round =>
    obtain ⟨j, q, v, rfl, hjn, hqn, HQ, HO, HOB, HKA, HKR, HBr, hbr⟩ := hrel
    have a0 := HKA.out.b0
    have a1 := HKA.out.b1
    by_cases hgo : j < n ∧ p = true
    · obtain ⟨hlt, rfl⟩ := hgo
      have d1 : decide ((j : Int) < n) = true := by simp; omega
      obtain ⟨b, off, x, rfl, hbl, hx, p1, p2⟩ := (HT.out.below HBr.out).at hlt
      have HX := Lib.hid hx
      have j0 : (0 : Int) ≤ j := by omega
      have j1 : (j : Int) < n := by omega
      have hsn := filter_snoc (fun t => decide (t.1 ≠ id)) hx
      obtain ⟨z, hz⟩ : ∃ z, (x.1 == id) = z := ⟨_, rfl⟩
      have hzn : (x.1 != id) = !z := by rw [← hz]; rfl
      have hzd : decide (x.1 ≠ id) = !z := by rw [← hz, Bool.eq_iff_iff]; simp
      simp only [hzd] at hsn
      have HZ := Lib.hid hz
      have HZD := Lib.hid hzd
      clear hx hz hzd
      cases z with
      | true =>
        have HS : Hid ((l.take (j + 1)).filter (fun t => decide (t.1 ≠ id)) = (l.take j).filter (fun t => decide (t.1 ≠ id))) := Lib.hid (by rw [hsn]; simp)
        clear hsn
        rw [← HS.out] at HQ HO
        go_wp2
        go_roundw
        case rel => exact ⟨j + 1, q, v, by go_num, by omega, by omega, HQ, HO, HOB, HKA, HKR, HBr, hbr⟩
        case measure => simp [intOf] <;> omega
      | false =>
        have HS : Hid ((l.take (j + 1)).filter (fun t => decide (t.1 ≠ id)) = (l.take j).filter (fun t => decide (t.1 ≠ id)) ++ [x]) := Lib.hid (by rw [hsn]; simp)
        clear hsn
        have hq1 : q + 1 ≤ n := by
          have h1 := HQ.out
          have h2 : ((l.take (j + 1)).filter (fun t => decide (t.1 ≠ id))).length ≤ (l.take (j + 1)).length := List.length_filter_le _ _
          rw [HS.out] at h2; simp only [List.length_append, List.length_take, List.length_cons, List.length_nil] at h2; omega
        obtain ⟨acc, hacc⟩ : ∃ acc, (l.take j).filter (fun t => decide (t.1 ≠ id)) = acc := ⟨_, rfl⟩
        rw [hacc] at HQ HO HS
        clear hacc
        go_wp2_with fail
        obtain ⟨V, hV⟩ : ∃ V, wr = V := ⟨_, rfl⟩
        rw [hV] at HO HOB HKA HKR HBr hbr a0 a1 p1 p2 hbl ⊢
        have HOV := HO
        have hbV := hbr
        clear hV
        have o0 := HOB.out.b0
        have o1 := HOB.out.b1
        have o2 : ∀ o, (V.alloc o).cell? ⟨base, 1, none⟩ = some v := fun o => (HOB.out.alloc o).b1
        have o3 : ∀ o, (V.drew.alloc o).cell? ⟨base, 1, none⟩ = some v := fun o => (HOB.out.drew.alloc o).b1
        go_region_law (refine step_appendT rfl (.tmp 33) (.tmp 39) 22 rfl Try.underlying22 base v q acc x (by simp [Act.eval]) (ownsRow_below HOV.out (below_da _ _)) V.heap.size 40 (by simp [Act.eval]) (Blok.new V.drew _ _) (by omega) (Nat.le_trans hbV (by simp)) ?_; intro g cap w3 h1 h2 h3 h4; have HOB3 := Lib.hid ((HOB.out.on' (below_da V _)).grown h2 (fun e => ownT_ne HOV.out HOB.out (by decide) e.symm rfl)); have r3 := HOB3.out.b1; have f3 := HOB3.out.frozen 1)
        all_goals (
          have G3 : Hid (V.grownBy w3 v.ownBlock) := Lib.hid ((grown_none (below_none (below_da V _))).trans h2)
          have H1 := Lib.hid h1
          have HG3 : Hid (v.ownBlock = some g ∨ V.heap.size ≤ g) := Lib.hid (h3.imp (fun z => z) (fun e => by rw [e]; show V.heap.size ≤ (V.alloc _).heap.size; simp))
          clear h1 h2 h3 h4 r3 f3
          obtain ⟨HOB4, G4⟩ := set21 HOB3.out (.slice (some ⟨g, 0, none⟩) (q + 1) cap)
          obtain ⟨W4, hW4⟩ : ∃ W4, w3.setCell ⟨base, 1, none⟩ (.slice (some ⟨g, 0, none⟩) (q + 1) cap) = W4 := ⟨_, rfl⟩
          rw [hW4] at HOB4 G4
          have HOB4 := Lib.hid HOB4
          have G4 := Lib.hid G4
          have H4 := Lib.hid (H1.out.kept G4.out (.inr (fun e => ownT_ne H1.out HOB3.out (by decide) (show _ = some g from rfl) (Option.some.inj e).symm)))
          rw [hW4]
          clear hW4
          clear a0 a1 o0 o1 o2 o3 p1 p2
          have hgb := hbV
          have HKA4 := Lib.hid ((HKA.out.grown G3.out (fun e => ownT_ne HOV.out HKA.out (by decide) e.symm rfl)).grown G4.out (by simp; omega))
          have HKR4 := Lib.hid ((HKR.out.grown G3.out (fun e => ownT_ne HOV.out HKR.out (by decide) e.symm rfl)).grown G4.out (by simp; omega))
          have HBr4 := Lib.hid ((HBr.out.grown G3.out HBr.out.size (fun i hi => by have := (ownT_lt HOV.out hi).1; omega)).grown G4.out (Nat.le_trans HBr.out.size G3.out.size) (fun i hi => by cases hi; omega))
          have hbr4 : base ≤ W4.heap.size := Nat.le_trans (Nat.le_trans hbV G3.out.size) G4.out.size
          go_wp2
          go_roundw
          case rel => exact ⟨j + 1, q + 1, _, by go_num, by omega, by omega, Lib.hid (by rw [HS.out]; simp [HQ.out]), by rw [HS.out]; exact H4, HOB4, HKA4, HKR4, HBr4, hbr4⟩
          case measure => simp [intOf] <;> omega)
    · have HKl := HKA.out.lt
      cases p with
      | false =>
        have HD : Hid (W.drop k l id = (l, false)) := Lib.hid (by unfold W.drop; rw [HP.out, if_neg (by simp)])
        obtain ⟨KR9, G9⟩ := set2 HKR.out (.int .i64 k) (.slice a n c)
        obtain ⟨w9, hw9⟩ : ∃ w9, (wr.setCell ⟨w.heap.size + 1, 0, none⟩ (.int .i64 k)).setCell ⟨w.heap.size + 1, 1, none⟩ (.slice a n c) = w9 := ⟨_, rfl⟩
        rw [hw9] at KR9 G9
        have HK9 := Lib.hid KR9
        have HB9 := Lib.hid (HBr.out.grown G9 HBr.out.size (fun j hj => by cases hj; omega))
        have HG9 := Lib.hid G9
        clear KR9 G9
        have z0 := HKR.out.b0
        have z1 := HKR.out.b1
        have g0 := HKR.out.frozen 0
        have g1 := HKR.out.frozen 1
        have hT9 : Hid (TIn w9 a n c l) := Lib.hid (HT.out.below HB9.out)
        by_cases hjl : j < n
        · have d1 : decide ((j : Int) < n) = true := by simp; omega
          go_wp2
          refine bodyPost_ret (ret_w2 rfl (w.heap.size + 1) (.int .i64 k) (.slice a n c) (by kernel_rfl) rfl HK9.out) rfl ?_
          exact ⟨_, _, _, by rw [HD.out]; rfl, by rw [HD.out]; exact hT9, HB9.out⟩
        · have d1 : decide ((j : Int) < n) = false := by simp; omega
          go_wp2
          refine bodyPost_ret (ret_w2 rfl (w.heap.size + 1) (.int .i64 k) (.slice a n c) (by kernel_rfl) rfl HK9.out) rfl ?_
          exact ⟨_, _, _, by rw [HD.out]; rfl, by rw [HD.out]; exact hT9, HB9.out⟩
      | true =>
        have hjl : ¬ j < n := fun h => hgo ⟨h, rfl⟩
        have d1 : decide ((j : Int) < n) = false := by simp; omega
        have htk : l.take j = l := List.take_of_length_le (by rw [HT.out.1]; omega)
        rw [htk] at HQ HO
        obtain ⟨a9, c9, rfl, ht9⟩ := own_timers HO.out HQ.out
        have o0 := HOB.out.b0
        have o1 := HOB.out.b1
        have HDL : Hid (q = n ↔ W.has l id = false) := Lib.hid (by rw [← W.drop_len, HQ.out, HT.out.1])
        clear ht9
        by_cases hqe : q = n
        · have de : ((q : Int) == n) = true := by simp; omega
          have HD : Hid (W.drop k l id = (l, false)) := Lib.hid (by unfold W.drop; rw [if_neg (by rw [HDL.out.1 hqe]; simp)])
          have hqe' := Lib.hid hqe
          clear hqe
          obtain ⟨KR9, G9⟩ := set2 HKR.out (.int .i64 k) (.slice a n c)
          obtain ⟨w9, hw9⟩ : ∃ w9, (wr.setCell ⟨w.heap.size + 1, 0, none⟩ (.int .i64 k)).setCell ⟨w.heap.size + 1, 1, none⟩ (.slice a n c) = w9 := ⟨_, rfl⟩
          rw [hw9] at KR9 G9
          have HK9 := Lib.hid KR9
          have HB9 := Lib.hid (HBr.out.grown G9 HBr.out.size (fun j hj => by cases hj; omega))
          have HG9 := Lib.hid G9
          clear KR9 G9
          have z0 := HKR.out.b0
          have z1 := HKR.out.b1
          have g0 := HKR.out.frozen 0
          have g1 := HKR.out.frozen 1
          have hT9 : Hid (TIn w9 a n c l) := Lib.hid (HT.out.below HB9.out)
          go_wp2
          refine bodyPost_ret (ret_w2 rfl (w.heap.size + 1) (.int .i64 k) (.slice a n c) (by kernel_rfl) rfl HK9.out) rfl ?_
          exact ⟨_, _, _, by rw [HD.out]; rfl, by rw [HD.out]; exact hT9, HB9.out⟩
        · have de : ((q : Int) == n) = false := by simp; omega
          have HD : Hid (W.drop k l id = (l.filter (fun t => decide (t.1 ≠ id)), true)) := Lib.hid (by
            unfold W.drop; rw [if_pos ⟨HP.out, by
              cases hh : W.has l id with
              | true => rfl
              | false => exact absurd (HDL.out.2 hh) hqe⟩])
          obtain ⟨KR9, G9⟩ := set2 HKR.out (.int .i64 k) (.slice a9 q c9)
          obtain ⟨w9, hw9⟩ : ∃ w9, (wr.setCell ⟨w.heap.size + 1, 0, none⟩ (.int .i64 k)).setCell ⟨w.heap.size + 1, 1, none⟩ (.slice a9 q c9) = w9 := ⟨_, rfl⟩
          rw [hw9] at KR9 G9
          have HK9 := Lib.hid KR9
          have HB9 := Lib.hid (HBr.out.grown G9 HBr.out.size (fun j hj => by cases hj; omega))
          have HG9 := Lib.hid G9
          clear KR9 G9
          have z0 := HKR.out.b0
          have z1 := HKR.out.b1
          have g0 := HKR.out.frozen 0
          have g1 := HKR.out.frozen 1
          have hT9 : Hid (TIn w9 a9 q c9 (l.filter (fun t => decide (t.1 ≠ id)))) := Lib.hid (by
            have h9 := HO.out.kept HG9.out (.inr (fun e => by have h1 := (ownT_lt HO.out e).1; omega))
            obtain ⟨a10, c10, he, ht⟩ := own_timers h9 HQ.out
            cases he
            exact ht)
          go_wp2
          refine bodyPost_ret (ret_w2 rfl (w.heap.size + 1) (.int .i64 k) (.slice a9 q c9) (by kernel_rfl) rfl HK9.out) rfl ?_
          exact ⟨_, _, _, by rw [HD.out]; rfl, by rw [HD.out]; exact hT9, HB9.out⟩
end Go.Proofs.Ytmegkfonodcoiaa
