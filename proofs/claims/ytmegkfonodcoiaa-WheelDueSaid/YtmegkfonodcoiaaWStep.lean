/-
  A walk of wheel.Step.
-/
import Derived.Test.YtmegkfonodcoiaaWDrop
namespace Go.Proofs.Ytmegkfonodcoiaa
open Go.RowKit

theorem W.left_on {k tt : Int} {l : List W.Tm} (h : ∀ t ∈ l, W.ok k t = true) : W.left tt l = l.filter (W.on tt 1073741824) := by
  unfold W.left
  refine List.filter_congr fun t ht => ?_
  have := W.ok_iff.1 (h t ht)
  exact decide_eq_decide.2 ⟨fun h1 => ⟨h1, this.2.2⟩, fun h1 => h1.1⟩
theorem W.due_on {k tt : Int} {l : List W.Tm} (h : ∀ t ∈ l, W.ok k t = true) : W.due tt l = l.filter (W.on k tt) := by
  unfold W.due
  refine List.filter_congr fun t ht => ?_
  have := W.ok_iff.1 (h t ht)
  exact decide_eq_decide.2 ⟨fun h1 => ⟨this.2.1, h1⟩, fun h1 => h1.2⟩

set_option maxRecDepth 100000 in
set_option maxHeartbeats 2000000 in
theorem step_any (k tt : Int) (a : Option Addr) (n c : Nat) (l : List W.Tm) (w : World) (h : TIn w a n c l) (hn : n ≤ 800) :
    Calls Try.prog 15 #[.agg #[.int .i64 k, .slice a n c], .int .i64 tt] w fun e w' => ∃ a2 n2 c2 a3 n3 c3, e = .returned (.tuple #[.agg #[.int .i64 (W.step k l tt).1.1, .slice a2 n2 c2], .slice a3 n3 c3, .int .i64 (W.step k l tt).2.2]) ∧ Hid (TIn w' a2 n2 c2 (W.step k l tt).1.2) ∧ Hid (TIn w' a3 n3 c3 (W.step k l tt).2.1) ∧ Below w.heap.size w w' := by
  have HT := Lib.hid h
  have HB := Lib.hid (wbox2_below w k a n c)
  have KA := Lib.hid (wbox2_arg w k a n c)
  have KR := Lib.hid (wbox2_res w k a n c)
  have hsz := wbox2_size w k a n c
  obtain ⟨W1, hW1⟩ : ∃ W1, wbox2 w k a n c = W1 := ⟨_, rfl⟩
  rw [hW1] at HB KA KR hsz
  unfold wbox2 wbox at hW1
  have a0 := KA.out.b0
  have a1 := KA.out.b1
  clear h
  obtain ⟨p, hp⟩ : ∃ p, W.may k l = p := ⟨_, rfl⟩
  have HP := Lib.hid hp
  go_enter Try.func15, Try.ntmps15
  go_wp2_with fail
  refine (may_any k a n c l W1 (HT.out.below HB.out) (by omega) p hp).mono ?_
  rintro e w3 ⟨rfl, hbw3⟩
  have HBw3 := Lib.hid (HB.out.trans (hbw3.mono HB.out.size))
  have KAw3 := Lib.hid (KA.out.on' hbw3)
  have KRw3 := Lib.hid (KR.out.on' hbw3)
  clear hbw3 a0 a1
  have a0 := KAw3.out.b0
  have a1 := KAw3.out.b1
  clear hp hW1
  cases p with
  | false =>
    have HD : Hid (W.step k l tt = ((k, l), [], 1)) := Lib.hid (by unfold W.step; rw [if_pos HP.out])
    go_wp2_with fail
    refine (own_any k a n c l w3 (HT.out.below HBw3.out) (by omega)).mono ?_
    rintro e wE ⟨a2, c2, rfl, HOE, hbE⟩
    have HBE := Lib.hid (HBw3.out.trans (hbE.mono HBw3.out.size))
    have KRE := Lib.hid (KRw3.out.on' hbE)
    obtain ⟨KR9, G9⟩ := set2 KRE.out (.int .i64 k) (.slice a2 n c2)
    obtain ⟨w9, hw9⟩ : ∃ w9, (wE.setCell ⟨w.heap.size + 1, 0, none⟩ (.int .i64 k)).setCell ⟨w.heap.size + 1, 1, none⟩ (.slice a2 n c2) = w9 := ⟨_, rfl⟩
    rw [hw9] at KR9 G9
    have HK9 := Lib.hid KR9
    have HB9 := Lib.hid (HBE.out.grown G9 HBE.out.size (fun j hj => by cases hj; omega))
    have hT9 : Hid (TIn w9 a2 n c2 l) := Lib.hid (by
      have h9 := HOE.out.kept G9 (.inr (fun e => by have h1 := (ownT_lt HOE.out e).1; have h2 := (KRw3.out).lt; omega))
      obtain ⟨a9, c9, he, ht⟩ := own_timers h9 HT.out.1
      cases he
      exact ht)
    clear KR9 G9 hbE a0 a1
    have z0 := KRE.out.b0
    have z1 := KRE.out.b1
    have g0 := KRE.out.frozen 0
    have g1 := KRE.out.frozen 1
    go_wp2
    refine bodyPost_ret (ret_w3 rfl (w.heap.size + 1) (.int .i64 k) (.slice a2 n c2) (by kernel_rfl) rfl rfl HK9.out) rfl ?_
    exact ⟨_, _, _, _, _, _, by rw [HD.out]; rfl, by rw [HD.out]; exact hT9, by rw [HD.out]; exact Lib.hid (TIn.nil _), HB9.out⟩
  | true =>
    have HMay : Hid (W.May k l) := Lib.hid (W.may_iff.1 HP.out)
    by_cases hbad : tt < k ∨ 1073741824 < tt
    · have HD : Hid (W.step k l tt = ((k, l), [], 10)) := Lib.hid (by unfold W.step; rw [if_neg (by rw [HP.out]; simp), if_pos hbad])
      by_cases hb1 : tt < k
      · have d1 : decide (tt < k) = true := decide_eq_true hb1
        go_wp2_with fail
        refine (own_any k a n c l w3 (HT.out.below HBw3.out) (by omega)).mono ?_
        rintro e wE ⟨a2, c2, rfl, HOE, hbE⟩
        have HBE := Lib.hid (HBw3.out.trans (hbE.mono HBw3.out.size))
        have KRE := Lib.hid (KRw3.out.on' hbE)
        obtain ⟨KR9, G9⟩ := set2 KRE.out (.int .i64 k) (.slice a2 n c2)
        obtain ⟨w9, hw9⟩ : ∃ w9, (wE.setCell ⟨w.heap.size + 1, 0, none⟩ (.int .i64 k)).setCell ⟨w.heap.size + 1, 1, none⟩ (.slice a2 n c2) = w9 := ⟨_, rfl⟩
        rw [hw9] at KR9 G9
        have HK9 := Lib.hid KR9
        have HB9 := Lib.hid (HBE.out.grown G9 HBE.out.size (fun j hj => by cases hj; omega))
        have hT9 : Hid (TIn w9 a2 n c2 l) := Lib.hid (by
          have h9 := HOE.out.kept G9 (.inr (fun e => by have h1 := (ownT_lt HOE.out e).1; have h2 := (KRw3.out).lt; omega))
          obtain ⟨a9, c9, he, ht⟩ := own_timers h9 HT.out.1
          cases he
          exact ht)
        clear KR9 G9 hbE a0 a1
        have z0 := KRE.out.b0
        have z1 := KRE.out.b1
        have g0 := KRE.out.frozen 0
        have g1 := KRE.out.frozen 1
        go_wp2
        refine bodyPost_ret (ret_w3 rfl (w.heap.size + 1) (.int .i64 k) (.slice a2 n c2) (by kernel_rfl) rfl rfl HK9.out) rfl ?_
        exact ⟨_, _, _, _, _, _, by rw [HD.out]; rfl, by rw [HD.out]; exact hT9, by rw [HD.out]; exact Lib.hid (TIn.nil _), HB9.out⟩
      · have d1 : decide (tt < k) = false := decide_eq_false hb1
        have d2 : decide ((1073741824 : Int) < tt) = true := decide_eq_true (by omega)
        go_wp2_with fail
        refine (own_any k a n c l w3 (HT.out.below HBw3.out) (by omega)).mono ?_
        rintro e wE ⟨a2, c2, rfl, HOE, hbE⟩
        have HBE := Lib.hid (HBw3.out.trans (hbE.mono HBw3.out.size))
        have KRE := Lib.hid (KRw3.out.on' hbE)
        obtain ⟨KR9, G9⟩ := set2 KRE.out (.int .i64 k) (.slice a2 n c2)
        obtain ⟨w9, hw9⟩ : ∃ w9, (wE.setCell ⟨w.heap.size + 1, 0, none⟩ (.int .i64 k)).setCell ⟨w.heap.size + 1, 1, none⟩ (.slice a2 n c2) = w9 := ⟨_, rfl⟩
        rw [hw9] at KR9 G9
        have HK9 := Lib.hid KR9
        have HB9 := Lib.hid (HBE.out.grown G9 HBE.out.size (fun j hj => by cases hj; omega))
        have hT9 : Hid (TIn w9 a2 n c2 l) := Lib.hid (by
          have h9 := HOE.out.kept G9 (.inr (fun e => by have h1 := (ownT_lt HOE.out e).1; have h2 := (KRw3.out).lt; omega))
          obtain ⟨a9, c9, he, ht⟩ := own_timers h9 HT.out.1
          cases he
          exact ht)
        clear KR9 G9 hbE a0 a1
        have z0 := KRE.out.b0
        have z1 := KRE.out.b1
        have g0 := KRE.out.frozen 0
        have g1 := KRE.out.frozen 1
        go_wp2
        refine bodyPost_ret (ret_w3 rfl (w.heap.size + 1) (.int .i64 k) (.slice a2 n c2) (by kernel_rfl) rfl rfl HK9.out) rfl ?_
        exact ⟨_, _, _, _, _, _, by rw [HD.out]; rfl, by rw [HD.out]; exact hT9, by rw [HD.out]; exact Lib.hid (TIn.nil _), HB9.out⟩
    · have d1 : decide (tt < k) = false := decide_eq_false (fun h => hbad (.inl h))
      have d2 : decide ((1073741824 : Int) < tt) = false := decide_eq_false (fun h => hbad (.inr h))
      have hkt : k ≤ tt := by omega
      have htm : tt ≤ 1073741824 := by omega
      have HD : Hid (W.step k l tt = ((tt, W.left tt l), W.due tt l, 0)) := Lib.hid (by unfold W.step; rw [if_neg (by rw [HP.out]; simp), if_neg hbad])
      clear hbad
      have hlay := lay_any a n c l w3 (HT.out.below HBw3.out) (by omega) (fun t ht => by have := W.ok_iff.1 (HMay.out.2.2.2.1 t ht); have h0 := HMay.out.1; omega)
      go_wp2_with fail
      refine hlay.mono ?_
      rintro e wl ⟨vs, rfl, HRows, hbl⟩
      obtain ⟨b0, n0, c0, b1, n1, c1, b2, n2, c2, b3, n3, c3, b4, n4, c4, b5, n5, c5, b6, n6, c6, b7, n7, c7, b8, n8, c8, b9, n9, c9, b10, n10, c10, b11, n11, c11, b12, n12, c12, b13, n13, c13, b14, n14, c14, b15, n15, c15, rfl⟩ := HRows.out.letters
      have hbl2 := hbl
      have HBl := Lib.hid (HBw3.out.trans (hbl.mono HBw3.out.size))
      have KAl := Lib.hid (KAw3.out.on' hbl)
      have KRl := Lib.hid (KRw3.out.on' hbl)
      obtain ⟨wr, hwr⟩ : ∃ wr, wl.alloc (.cells #[.slice b0 n0 c0, .slice b1 n1 c1, .slice b2 n2 c2, .slice b3 n3 c3, .slice b4 n4 c4, .slice b5 n5 c5, .slice b6 n6 c6, .slice b7 n7 c7, .slice b8 n8 c8, .slice b9 n9 c9, .slice b10 n10 c10, .slice b11 n11 c11, .slice b12 n12 c12, .slice b13 n13 c13, .slice b14 n14 c14, .slice b15 n15 c15] 47) = wr := ⟨_, rfl⟩
      have hbr : Below wl.heap.size wl wr := by rw [← hwr]; exact (Below.refl _ _).alloc (Nat.le_refl _) _
      have HRing : Hid (Blok wr wl.heap.size 47 #[.slice b0 n0 c0, .slice b1 n1 c1, .slice b2 n2 c2, .slice b3 n3 c3, .slice b4 n4 c4, .slice b5 n5 c5, .slice b6 n6 c6, .slice b7 n7 c7, .slice b8 n8 c8, .slice b9 n9 c9, .slice b10 n10 c10, .slice b11 n11 c11, .slice b12 n12 c12, .slice b13 n13 c13, .slice b14 n14 c14, .slice b15 n15 c15]) := Lib.hid (by rw [← hwr]; exact Blok.new _ _ _)
      have HRows2 := Lib.hid (HRows.out.on hbr)
      have HBr := Lib.hid (HBl.out.trans (hbr.mono HBl.out.size))
      have KAr := Lib.hid (KAl.out.on' hbr)
      have KRr := Lib.hid (KRl.out.on' hbr)
      have hrbB : w3.heap.size ≤ wl.heap.size := hbl2.size
      have hrbr : wl.heap.size ≤ wr.heap.size := hbr.size
      have hKAlt := KAw3.out.lt
      have hKRlt := KRw3.out.lt
      clear hlay hbl hbl2 a0 a1
      have hdue1 := fun (V : World) (hb : Below wr.heap.size wr V) => due_any w3.heap.size wl.heap.size tt 1073741824 l (W.left tt l) _ V (HRing.out.on' hb) (HRows2.out.on hb) (by have := HMay.out.1; omega) htm (Int.le_refl _) (by rw [HT.out.1]; omega)
        HMay.out.2.2.2.2.2 (W.Asc.filter HMay.out.2.2.2.2.1 _) (by rw [W.left_on HMay.out.2.2.2.1])
      have hdue2 := fun (V : World) (hb : Below wr.heap.size wr V) => due_any w3.heap.size wl.heap.size k tt l (W.due tt l) _ V (HRing.out.on' hb) (HRows2.out.on hb) HMay.out.1 hkt htm (by rw [HT.out.1]; omega)
        HMay.out.2.2.2.2.2 (W.Asc.filter HMay.out.2.2.2.2.1 _) (by rw [W.due_on HMay.out.2.2.2.1])
      obtain ⟨R1, hR1⟩ : ∃ R, W.left tt l = R := ⟨_, rfl⟩
      obtain ⟨R2, hR2⟩ : ∃ R, W.due tt l = R := ⟨_, rfl⟩
      rw [hR1] at hdue1 HD
      rw [hR2] at hdue2 HD
      obtain ⟨N1, hN1⟩ : ∃ N, R1.length = N := ⟨_, rfl⟩
      obtain ⟨N2, hN2⟩ : ∃ N, R2.length = N := ⟨_, rfl⟩
      rw [hN1] at hdue1
      rw [hN2] at hdue2
      have HN1 := Lib.hid hN1
      have HN2 := Lib.hid hN2
      have HU1 := Lib.hid hdue1
      have HU2 := Lib.hid hdue2
      have a0 := KAr.out.b0
      have a1 := KAr.out.b1
      clear hR1 hR2 hN1 hN2 hdue1 hdue2
      go_wp2_with fail
      go_region_with (first
        | (go_at_call 29; with_reducible refine (HU1.out _ (below_drew wr)).mono ?_; rintro e w8 ⟨v8, rfl, HO8, hb8⟩; obtain ⟨a8, c8, rfl, ht8⟩ := own_timers HO8.out HN1.out; have HT8 := Lib.hid ht8; clear ht8; have HB8 := Lib.hid ((below_drew wr).trans (hb8.mono (Nat.le_refl _))); have KA8 := Lib.hid (KAr.out.on' HB8.out); have y0 := KA8.out.b0; have y1 := KA8.out.b1)
        | (go_at_call 29; with_reducible refine (HU2.out _ HB8.out).mono ?_; rintro e w9 ⟨v9, rfl, HO9, hb9⟩; obtain ⟨a9, c9, rfl, ht9⟩ := own_timers HO9.out HN2.out; have HT9 := Lib.hid ht9; clear ht9; have HB9 := Lib.hid (HB8.out.trans (hb9.mono HB8.out.size)); have KA9 := Lib.hid (KAr.out.on' HB9.out); have KR9 := Lib.hid (KRr.out.on' HB9.out); have x0 := KA9.out.b0; have x1 := KA9.out.b1; have z0 := KR9.out.b0; have z1 := KR9.out.b1; have g0 := KR9.out.frozen 0; have g1 := KR9.out.frozen 1))
      clear a0 a1
      all_goals (
        obtain ⟨KR10, G10⟩ := set2 KR9.out (.int .i64 tt) (.slice a8 N1 c8)
        obtain ⟨w10, hw10⟩ : ∃ w10, (w9.setCell ⟨w.heap.size + 1, 0, none⟩ (.int .i64 tt)).setCell ⟨w.heap.size + 1, 1, none⟩ (.slice a8 N1 c8) = w10 := ⟨_, rfl⟩
        rw [hw10] at KR10 G10
        have HK10 := Lib.hid KR10
        have hB9 : Below w.heap.size w w9 := HBr.out.trans (HB9.out.mono HBr.out.size)
        have HB10 := Lib.hid (hB9.grown G10 hB9.size (fun j hj => by cases hj; omega))
        have hkr := (KRr.out).lt
        have hs8 := HB8.out.size
        have HT10 : Hid (TIn w10 a8 N1 c8 R1) := Lib.hid (by
          have h9 := (ownsRow_below HO8.out hb9).kept G10 (.inr (fun e => by have h1 : wr.heap.size ≤ _ := (ownT_lt HO8.out e).1; omega))
          obtain ⟨a10, c10, he, ht⟩ := own_timers h9 HN1.out
          cases he
          exact ht)
        have HT11 : Hid (TIn w10 a9 N2 c9 R2) := Lib.hid (by
          have h9 := HO9.out.kept G10 (.inr (fun e => by have h1 := (ownT_lt HO9.out e).1; omega))
          obtain ⟨a10, c10, he, ht⟩ := own_timers h9 HN2.out
          cases he
          exact ht)
        rw [hw10]
        clear KR10 G10 hB9 y0 y1 x0 x1 z0 z1 g0 g1 hb8 hb9 hw10
        go_wp2
        refine bodyPost_ret (ret_w3 rfl (w.heap.size + 1) (.int .i64 tt) (.slice a8 N1 c8) (by kernel_rfl) rfl rfl HK10.out) rfl ?_
        exact ⟨_, _, _, _, _, _, by rw [HD.out]; rfl, by rw [HD.out]; exact HT10, by rw [HD.out]; exact HT11, HB10.out⟩)
end Go.Proofs.Ytmegkfonodcoiaa
