/-
  A walk of mooringsref10.Step.
-/
import Derived.Test.YtmegkfonodcoiaaWRefDrop
namespace Go.Proofs.Ytmegkfonodcoiaa
open Go.RowKit

set_option maxRecDepth 100000 in
set_option maxHeartbeats 2000000 in
theorem refStep_any (k tt : Int) (a : Option Addr) (n c : Nat) (l : List W.Tm) (w : World) (h : TIn w a n c l) (hn : n ≤ 800) :
    Calls Try.prog 16 #[.agg #[.int .i64 k, .slice a n c], .int .i64 tt] w fun e w' => ∃ a2 n2 c2 a3 n3 c3, e = .returned (.tuple #[.agg #[.int .i64 (W.step k l tt).1.1, .slice a2 n2 c2], .slice a3 n3 c3, .int .i64 (W.step k l tt).2.2]) ∧ Hid (TIn w' a2 n2 c2 (W.step k l tt).1.2) ∧ Hid (TIn w' a3 n3 c3 (W.step k l tt).2.1) ∧ Below w.heap.size w w' := by
  have HT := Lib.hid h
  have HB := Lib.hid (wbox2_below w k a n c)
  have KA := Lib.hid (wbox2_arg w k a n c)
  have KR := Lib.hid (wbox2_res w k a n c)
  have hsz := wbox2_size w k a n c
  obtain ⟨W1, hW1⟩ : ∃ W1, wbox2 w k a n c = W1 := ⟨_, rfl⟩
  rw [hW1] at HB KA KR hsz
  unfold wbox2 wbox at hW1
  have a0 := KA.out.b0
  have a1 := KA.out.b1
  clear h
  obtain ⟨p, hp⟩ : ∃ p, W.may k l = p := ⟨_, rfl⟩
  have HP := Lib.hid hp
  go_enter Try.func16, Try.ntmps16
  go_wp2_with fail
  refine (refMay_any k a n c l W1 (HT.out.below HB.out) (by omega) p hp).mono ?_
  rintro e w3 ⟨rfl, hbw3⟩
  have HBw3 := Lib.hid (HB.out.trans (hbw3.mono HB.out.size))
  have KAw3 := Lib.hid (KA.out.on' hbw3)
  have KRw3 := Lib.hid (KR.out.on' hbw3)
  clear hbw3 a0 a1
  have a0 := KAw3.out.b0
  have a1 := KAw3.out.b1
  clear hp hW1
  have hkrlt := KRw3.out.lt
  cases p with
  | false =>
    have HD : Hid (W.step k l tt = ((k, l), [], 1)) := Lib.hid (by unfold W.step; rw [if_pos HP.out])
    obtain ⟨KR9, G9⟩ := set2 KRw3.out (.int .i64 k) (.slice a n c)
    obtain ⟨w9, hw9⟩ : ∃ w9, (w3.setCell ⟨w.heap.size + 1, 0, none⟩ (.int .i64 k)).setCell ⟨w.heap.size + 1, 1, none⟩ (.slice a n c) = w9 := ⟨_, rfl⟩
    rw [hw9] at KR9 G9
    have HK9 := Lib.hid KR9
    have HB9 := Lib.hid (HBw3.out.grown G9 HBw3.out.size (fun j hj => by cases hj; omega))
    have HG9 := Lib.hid G9
    clear KR9 G9
    have z0 := KRw3.out.b0
    have z1 := KRw3.out.b1
    have g0 := KRw3.out.frozen 0
    have g1 := KRw3.out.frozen 1
    have hT9 : Hid (TIn w9 a n c l) := Lib.hid (HT.out.below HB9.out)
    go_wp2
    refine bodyPost_ret (ret_w3 rfl (w.heap.size + 1) (.int .i64 k) (.slice a n c) (by kernel_rfl) rfl rfl HK9.out) rfl ?_
    exact ⟨_, _, _, _, _, _, by rw [HD.out]; rfl, by rw [HD.out]; exact hT9, by rw [HD.out]; exact Lib.hid (TIn.nil _), HB9.out⟩
  | true =>
    have HMay : Hid (W.May k l) := Lib.hid (W.may_iff.1 HP.out)
    by_cases hbad : tt < k ∨ 1073741824 < tt
    · have HD : Hid (W.step k l tt = ((k, l), [], 10)) := Lib.hid (by unfold W.step; rw [if_neg (by rw [HP.out]; simp), if_pos hbad])
      by_cases hb1 : tt < k
      · have d1 : decide (tt < k) = true := decide_eq_true hb1
        obtain ⟨KR9, G9⟩ := set2 KRw3.out (.int .i64 k) (.slice a n c)
        obtain ⟨w9, hw9⟩ : ∃ w9, (w3.setCell ⟨w.heap.size + 1, 0, none⟩ (.int .i64 k)).setCell ⟨w.heap.size + 1, 1, none⟩ (.slice a n c) = w9 := ⟨_, rfl⟩
        rw [hw9] at KR9 G9
        have HK9 := Lib.hid KR9
        have HB9 := Lib.hid (HBw3.out.grown G9 HBw3.out.size (fun j hj => by cases hj; omega))
        have HG9 := Lib.hid G9
        clear KR9 G9
        have z0 := KRw3.out.b0
        have z1 := KRw3.out.b1
        have g0 := KRw3.out.frozen 0
        have g1 := KRw3.out.frozen 1
        have hT9 : Hid (TIn w9 a n c l) := Lib.hid (HT.out.below HB9.out)
        go_wp2
        refine bodyPost_ret (ret_w3 rfl (w.heap.size + 1) (.int .i64 k) (.slice a n c) (by kernel_rfl) rfl rfl HK9.out) rfl ?_
        exact ⟨_, _, _, _, _, _, by rw [HD.out]; rfl, by rw [HD.out]; exact hT9, by rw [HD.out]; exact Lib.hid (TIn.nil _), HB9.out⟩
      · have d1 : decide (tt < k) = false := decide_eq_false hb1
        have d2 : decide ((1073741824 : Int) < tt) = true := decide_eq_true (by omega)
        obtain ⟨KR9, G9⟩ := set2 KRw3.out (.int .i64 k) (.slice a n c)
        obtain ⟨w9, hw9⟩ : ∃ w9, (w3.setCell ⟨w.heap.size + 1, 0, none⟩ (.int .i64 k)).setCell ⟨w.heap.size + 1, 1, none⟩ (.slice a n c) = w9 := ⟨_, rfl⟩
        rw [hw9] at KR9 G9
        have HK9 := Lib.hid KR9
        have HB9 := Lib.hid (HBw3.out.grown G9 HBw3.out.size (fun j hj => by cases hj; omega))
        have HG9 := Lib.hid G9
        clear KR9 G9
        have z0 := KRw3.out.b0
        have z1 := KRw3.out.b1
        have g0 := KRw3.out.frozen 0
        have g1 := KRw3.out.frozen 1
        have hT9 : Hid (TIn w9 a n c l) := Lib.hid (HT.out.below HB9.out)
        go_wp2
        refine bodyPost_ret (ret_w3 rfl (w.heap.size + 1) (.int .i64 k) (.slice a n c) (by kernel_rfl) rfl rfl HK9.out) rfl ?_
        exact ⟨_, _, _, _, _, _, by rw [HD.out]; rfl, by rw [HD.out]; exact hT9, by rw [HD.out]; exact Lib.hid (TIn.nil _), HB9.out⟩
    · have d1 : decide (tt < k) = false := decide_eq_false (fun h => hbad (.inl h))
      have d2 : decide ((1073741824 : Int) < tt) = false := decide_eq_false (fun h => hbad (.inr h))
      have HD : Hid (W.step k l tt = ((tt, W.left tt l), W.due tt l, 0)) := Lib.hid (by unfold W.step; rw [if_neg (by rw [HP.out]; simp), if_neg hbad])
      clear hbad
      obtain ⟨base, hbase⟩ : ∃ base, base = w3.heap.size := ⟨_, rfl⟩
      obtain ⟨w4, hw4⟩ : ∃ w4, wbox w3 tt none 0 0 = w4 := ⟨_, rfl⟩
      have HOb : Hid (Blok w4 base 24 #[.int .i64 tt, .slice none 0 0]) := Lib.hid (by rw [← hw4, hbase]; exact wbox_blok _ _ _ _ _)
      have hb34 : Below w3.heap.size w3 w4 := by rw [← hw4]; exact wbox_below _ _ _ _ _
      have HB4 := Lib.hid (HBw3.out.trans (hb34.mono HBw3.out.size))
      have KA4 := Lib.hid (KAw3.out.on' hb34)
      have KR4 := Lib.hid (KRw3.out.on' hb34)
      have hb4 : base ≤ w4.heap.size := by rw [hbase]; exact hb34.size
      unfold wbox at hw4
      have HW4 := Lib.hid hw4
      clear hb34 hw4
      go_wp2_with fail
      rw [HW4.out, ← hbase]
      clear HW4 a0 a1
      have hbw : w.heap.size + 2 ≤ base := by omega
      clear hbase
      go_loopw [9, 10] (fun s9 i wr => ∃ (u : Value) (j q r : Nat) (v : Value), u = s9 ∧ i = .int .i64 j ∧ j ≤ n ∧ q ≤ n ∧ r ≤ n ∧ Hid ((W.left tt (l.take j)).length = q) ∧ Hid ((W.due tt (l.take j)).length = r) ∧ Hid (wr.ownsRow base 40 2 v q (W.flat (W.left tt (l.take j)))) ∧ Hid (wr.ownsRow base 40 2 u r (W.flat (W.due tt (l.take j)))) ∧ Hid (∀ g, u.ownBlock = some g → v.ownBlock ≠ some g) ∧ Hid (Blok wr base 24 #[.int .i64 tt, v]) ∧ Hid (Blok wr w.heap.size 24 #[.int .i64 k, .slice a n c]) ∧ Hid (Blok wr (w.heap.size + 1) 24 #[.int .i64 0, .slice none 0 0]) ∧ Hid (Below w.heap.size w wr) ∧ base ≤ wr.heap.size) (fun _ i _ => n - (intOf i).toNat)
      case atStart => exact ⟨_, 0, 0, 0, _, rfl, by go_num, by omega, by omega, by omega, Lib.hid (by simp [W.left]), Lib.hid (by simp [W.due]), Lib.hid (World.ownsRow_nil _ _ _ _), Lib.hid (World.ownsRow_nil _ _ _ _), Lib.hid (by simp [Value.ownBlock]), HOb, KA4, KR4, HB4, hb4⟩
      case round =>
        obtain ⟨u, j, q, r, v, rfl, rfl, hjn, hqn, hrn, HQ, HRq, HO, HU, HAP, HOB, HKA, HKR, HBr, hbr⟩ := hrel
        have a0 := HKA.out.b0
        have a1 := HKA.out.b1
        by_cases hlt : j < n
        · have dj : decide ((j : Int) < n) = true := by simp; omega
          obtain ⟨b, off, x, rfl, hbl, hx, p1, p2⟩ := (HT.out.below HBr.out).at hlt
          have HX := Lib.hid hx
          have j0 : (0 : Int) ≤ j := by omega
          have j1 : (j : Int) < n := by omega
          have hsl := filter_snoc (fun t => decide (tt < t.2)) hx
          have hsd := filter_snoc (fun t => decide (t.2 ≤ tt)) hx
          clear hx
          by_cases hdue : x.2 ≤ tt
          · have dd : decide (x.2 ≤ tt) = true := decide_eq_true hdue
            have HL : Hid (W.left tt (l.take (j + 1)) = W.left tt (l.take j)) := Lib.hid (by unfold W.left; rw [hsl, if_neg (by simp; omega), List.append_nil])
            have HDu : Hid (W.due tt (l.take (j + 1)) = W.due tt (l.take j) ++ [x]) := Lib.hid (by unfold W.due; rw [hsd, if_pos dd])
            clear hsl hsd
            rw [← HL.out] at HQ HO
            have hr1 : r + 1 ≤ n := by
              have h1 := HRq.out
              have h2 : (W.due tt (l.take (j + 1))).length ≤ (l.take (j + 1)).length := List.length_filter_le _ _
              rw [HDu.out] at h2; simp only [List.length_append, List.length_take, List.length_cons, List.length_nil] at h2; omega
            obtain ⟨acc, hacc⟩ : ∃ acc, W.due tt (l.take j) = acc := ⟨_, rfl⟩
            rw [hacc] at HRq HU HDu
            clear hacc
            obtain ⟨V, hV⟩ : ∃ V, wr = V := ⟨_, rfl⟩
            rw [hV] at HO HU HOB HKA HKR HBr hbr a0 a1 p1 p2 hbl ⊢
            clear hV
            go_wp2_with (at_builtin; refine wpList_appendT rfl (.tmp 42) (.tmp 48) 22 rfl Try.underlying22 base u r acc x (by simp [Act.eval]) (ownsRow_below HU.out ((Below.refl _ V).alloc (Nat.le_refl _) _)) V.heap.size 40 (by simp [Act.eval]) (Blok.new V _ _) (by omega) (Nat.le_trans hbr (by simp)) ?_; intro g cap w5 h1 h2 h3 h4)
            have G5 : Hid (V.grownBy w5 u.ownBlock) := Lib.hid ((World.grownBy_alloc _ _ _).trans h2)
            have H1 := Lib.hid h1
            have HG3 : Hid (u.ownBlock = some g ∨ V.heap.size ≤ g) := Lib.hid (h3.imp (fun z => z) (fun e => by rw [e]; simp))
            clear h1 h2 h3 h4 p1 p2 a0 a1
            have HO5 := Lib.hid (HO.out.kept G5.out (by
              cases hv : v.ownBlock with
              | none => exact .inl rfl
              | some g' => exact .inr (fun e => HAP.out g' e.symm hv)))
            have HAP5 : Hid (∀ g', (Value.slice (some ⟨g, 0, none⟩) (r + 1) cap).ownBlock = some g' → v.ownBlock ≠ some g') := Lib.hid (fun g' e e2 => by
              simp only [Value.ownBlock, Option.some.injEq] at e
              subst e
              rcases HG3.out with h1 | h1
              · exact HAP.out g h1 e2
              · have := (ownT_lt HO.out e2).2; omega)
            have HOB5 := Lib.hid (HOB.out.grown G5.out (fun e => ownT_ne HU.out HOB.out (by decide) e.symm rfl))
            have HKA5 := Lib.hid (HKA.out.grown G5.out (fun e => ownT_ne HU.out HKA.out (by decide) e.symm rfl))
            have HKR5 := Lib.hid (HKR.out.grown G5.out (fun e => ownT_ne HU.out HKR.out (by decide) e.symm rfl))
            have HBr5 := Lib.hid (HBr.out.grown G5.out HBr.out.size (fun i hi => by have := (ownT_lt HU.out hi).1; omega))
            have hbr5 : base ≤ w5.heap.size := Nat.le_trans hbr G5.out.size
            go_wp2
            go_roundw
            case rel => exact ⟨_, j + 1, q, r + 1, v, rfl, by go_num, by omega, by omega, by omega, HQ, Lib.hid (by rw [HDu.out]; simp [HRq.out]), HO5, by rw [HDu.out]; exact H1, HAP5, HOB5, HKA5, HKR5, HBr5, hbr5⟩
            case measure => simp [intOf] <;> omega
          · have dd : decide (x.2 ≤ tt) = false := decide_eq_false hdue
            have HL : Hid (W.left tt (l.take (j + 1)) = W.left tt (l.take j) ++ [x]) := Lib.hid (by unfold W.left; rw [hsl, if_pos (by simp; omega)])
            have HDu : Hid (W.due tt (l.take (j + 1)) = W.due tt (l.take j)) := Lib.hid (by unfold W.due; rw [hsd, dd]; simp)
            clear hsl hsd
            rw [← HDu.out] at HRq HU
            have hq1 : q + 1 ≤ n := by
              have h1 := HQ.out
              have h2 : (W.left tt (l.take (j + 1))).length ≤ (l.take (j + 1)).length := List.length_filter_le _ _
              rw [HL.out] at h2; simp only [List.length_append, List.length_take, List.length_cons, List.length_nil] at h2; omega
            obtain ⟨acc, hacc⟩ : ∃ acc, W.left tt (l.take j) = acc := ⟨_, rfl⟩
            rw [hacc] at HQ HO HL
            clear hacc
            go_wp2_with fail
            obtain ⟨V, hV⟩ : ∃ V, wr = V := ⟨_, rfl⟩
            rw [hV] at HO HU HOB HKA HKR HBr hbr a0 a1 p1 p2 hbl ⊢
            have HOV := HO
            have hbV := hbr
            clear hV
            have o0 := HOB.out.b0
            have o1 := HOB.out.b1
            have o2 : ∀ o, (V.alloc o).cell? ⟨base, 1, none⟩ = some v := fun o => (HOB.out.alloc o).b1
            have o3 : ∀ o, (V.drew.alloc o).cell? ⟨base, 1, none⟩ = some v := fun o => (HOB.out.drew.alloc o).b1
            go_region_law (refine step_appendT rfl (.tmp 51) (.tmp 57) 22 rfl Try.underlying22 base v q acc x (by simp [Act.eval]) (ownsRow_below HOV.out (below_da _ _)) V.heap.size 40 (by simp [Act.eval]) (Blok.new V.drew _ _) (by omega) (Nat.le_trans hbV (by simp)) ?_; intro g cap w3 h1 h2 h3 h4; have HOB3 := Lib.hid ((HOB.out.on' (below_da V _)).grown h2 (fun e => ownT_ne HOV.out HOB.out (by decide) e.symm rfl)); have r3 := HOB3.out.b1; have f3 := HOB3.out.frozen 1)
            all_goals (
              have G3 : Hid (V.grownBy w3 v.ownBlock) := Lib.hid ((grown_none (below_none (below_da V _))).trans h2)
              have H1 := Lib.hid h1
              have HG3 : Hid (v.ownBlock = some g ∨ V.heap.size ≤ g) := Lib.hid (h3.imp (fun z => z) (fun e => by rw [e]; show V.heap.size ≤ (V.alloc _).heap.size; simp))
              clear h1 h2 h3 h4 r3 f3
              obtain ⟨HOB4, G4⟩ := set21 HOB3.out (.slice (some ⟨g, 0, none⟩) (q + 1) cap)
              obtain ⟨W4, hW4⟩ : ∃ W4, w3.setCell ⟨base, 1, none⟩ (.slice (some ⟨g, 0, none⟩) (q + 1) cap) = W4 := ⟨_, rfl⟩
              rw [hW4] at HOB4 G4
              have HOB4 := Lib.hid HOB4
              have G4 := Lib.hid G4
              have H4 := Lib.hid (H1.out.kept G4.out (.inr (fun e => ownT_ne H1.out HOB3.out (by decide) (show _ = some g from rfl) (Option.some.inj e).symm)))
              rw [hW4]
              clear hW4
              clear a0 a1 o0 o1 o2 o3 p1 p2
              have HU4 := Lib.hid ((HU.out.kept G3.out (by
                cases hu : u.ownBlock with
                | none => exact .inl rfl
                | some g' => exact .inr (fun e => HAP.out g' hu e.symm))).kept G4.out (by
                cases hu : u.ownBlock with
                | none => exact .inl rfl
                | some g' => exact .inr (fun e => ownT_ne HU.out HOB.out (by decide) hu (Option.some.inj e).symm)))
              have HAP4 : Hid (∀ g', u.ownBlock = some g' → (Value.slice (some ⟨g, 0, none⟩) (q + 1) cap).ownBlock ≠ some g') := Lib.hid (fun g' e e2 => by
                simp only [Value.ownBlock, Option.some.injEq] at e2
                subst e2
                rcases HG3.out with h1 | h1
                · exact HAP.out g e h1
                · have := (ownT_lt HU.out e).2; omega)
              have HKA4 := Lib.hid ((HKA.out.grown G3.out (fun e => ownT_ne HOV.out HKA.out (by decide) e.symm rfl)).grown G4.out (by simp; omega))
              have HKR4 := Lib.hid ((HKR.out.grown G3.out (fun e => ownT_ne HOV.out HKR.out (by decide) e.symm rfl)).grown G4.out (by simp; omega))
              have HBr4 := Lib.hid ((HBr.out.grown G3.out HBr.out.size (fun i hi => by have := (ownT_lt HOV.out hi).1; omega)).grown G4.out (Nat.le_trans HBr.out.size G3.out.size) (fun i hi => by cases hi; omega))
              have hbr4 : base ≤ W4.heap.size := Nat.le_trans (Nat.le_trans hbV G3.out.size) G4.out.size
              go_wp2
              go_roundw
              case rel => exact ⟨_, j + 1, q + 1, r, _, rfl, by go_num, by omega, by omega, by omega, Lib.hid (by rw [HL.out]; simp [HQ.out]), HRq, by rw [HL.out]; exact H4, HU4, HAP4, HOB4, HKA4, HKR4, HBr4, hbr4⟩
              case measure => simp [intOf] <;> omega)
        · have dj : decide ((j : Int) < n) = false := by simp; omega
          have htk : l.take j = l := List.take_of_length_le (by rw [HT.out.1]; omega)
          rw [htk] at HQ HO HRq HU
          have hKl := HKA.out.lt
          obtain ⟨a8, c8, rfl, ht8⟩ := own_timers HO.out HQ.out
          obtain ⟨a9, c9, rfl, ht9⟩ := own_timers HU.out HRq.out
          have o0 := HOB.out.b0
          have o1 := HOB.out.b1
          clear ht8 ht9
          obtain ⟨KR9, G9⟩ := set2 HKR.out (.int .i64 tt) (.slice a8 q c8)
          obtain ⟨w9, hw9⟩ : ∃ w9, (wr.setCell ⟨w.heap.size + 1, 0, none⟩ (.int .i64 tt)).setCell ⟨w.heap.size + 1, 1, none⟩ (.slice a8 q c8) = w9 := ⟨_, rfl⟩
          rw [hw9] at KR9 G9
          have HK9 := Lib.hid KR9
          have HB9 := Lib.hid (HBr.out.grown G9 HBr.out.size (fun j hj => by cases hj; omega))
          have HG9 := Lib.hid G9
          clear KR9 G9
          have z0 := HKR.out.b0
          have z1 := HKR.out.b1
          have g0 := HKR.out.frozen 0
          have g1 := HKR.out.frozen 1
          have hT9 : Hid (TIn w9 a8 q c8 (W.left tt l)) := Lib.hid (by
            have h9 := HO.out.kept HG9.out (.inr (fun e => by have h1 := (ownT_lt HO.out e).1; omega))
            obtain ⟨a10, c10, he, ht⟩ := own_timers h9 HQ.out
            cases he
            exact ht)
          have hT10 : Hid (TIn w9 a9 r c9 (W.due tt l)) := Lib.hid (by
            have h9 := HU.out.kept HG9.out (.inr (fun e => by have h1 := (ownT_lt HU.out e).1; omega))
            obtain ⟨a10, c10, he, ht⟩ := own_timers h9 HRq.out
            cases he
            exact ht)
          go_wp2
          refine bodyPost_ret (ret_w3 rfl (w.heap.size + 1) (.int .i64 tt) (.slice a8 q c8) (by kernel_rfl) rfl rfl HK9.out) rfl ?_
          exact ⟨_, _, _, _, _, _, by rw [HD.out]; rfl, by rw [HD.out]; exact hT9, by rw [HD.out]; exact hT10, HB9.out⟩
end Go.Proofs.Ytmegkfonodcoiaa
