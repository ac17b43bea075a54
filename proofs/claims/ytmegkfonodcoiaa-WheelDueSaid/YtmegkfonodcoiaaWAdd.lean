/-
  A walk of wheel.Add.
-/
import Derived.Test.YtmegkfonodcoiaaWDrop
namespace Go.Proofs.Ytmegkfonodcoiaa
open Go.RowKit

theorem W.ids_add {l : List W.Tm} {x : W.Tm} (h : W.Ids l) (hn : W.has l x.1 = false) : W.Ids (l ++ [x]) := by
  refine List.pairwise_append.2 ⟨h, List.pairwise_singleton _ _, fun a ha b hb => ?_⟩
  simp only [List.mem_singleton] at hb
  subst hb
  exact W.has_false.1 hn a ha
theorem W.add_perm {k : Int} {l : List W.Tm} {x : W.Tm} (h : ∀ t ∈ l, W.ok k t = true) (hx : k < x.2 ∧ x.2 ≤ 1073741824) : (W.ins x l).Perm ((l ++ [x]).filter (W.on k 1073741824)) := by
  rw [W.filter_all (fun t ht => ?_)]
  · exact (W.ins_perm x l).trans (List.perm_append_comm (l₁ := [x]) (l₂ := l))
  · rcases List.mem_append.1 ht with ht | ht
    · have := W.ok_iff.1 (h t ht); exact decide_eq_true this.2
    · simp only [List.mem_singleton] at ht; rw [ht]; exact decide_eq_true hx

set_option maxRecDepth 100000 in
set_option maxHeartbeats 2000000 in
theorem add_any (k id at' : Int) (a : Option Addr) (n c : Nat) (l : List W.Tm) (w : World) (h : TIn w a n c l) (hn : n ≤ 800) :
    Calls Try.prog 11 #[.agg #[.int .i64 k, .slice a n c], .int .i64 id, .int .i64 at'] w fun e w' => ∃ a2 n2 c2, e = .returned (.tuple #[.agg #[.int .i64 k, .slice a2 n2 c2], .int .i64 (W.add k l id at').2]) ∧ Hid (TIn w' a2 n2 c2 (W.add k l id at').1) ∧ Below w.heap.size w w' := by
  have HT := Lib.hid h
  have HB := Lib.hid (wbox2_below w k a n c)
  have KA := Lib.hid (wbox2_arg w k a n c)
  have KR := Lib.hid (wbox2_res w k a n c)
  have hsz := wbox2_size w k a n c
  obtain ⟨W1, hW1⟩ : ∃ W1, wbox2 w k a n c = W1 := ⟨_, rfl⟩
  rw [hW1] at HB KA KR hsz
  unfold wbox2 wbox at hW1
  have a0 := KA.out.b0
  have a1 := KA.out.b1
  clear h
  obtain ⟨p, hp⟩ : ∃ p, W.may k l = p := ⟨_, rfl⟩
  have HP := Lib.hid hp
  go_enter Try.func11, Try.ntmps11
  go_wp2_with fail
  refine (may_any k a n c l W1 (HT.out.below HB.out) (by omega) p hp).mono ?_
  rintro e w3 ⟨rfl, hbw3⟩
  have HBw3 := Lib.hid (HB.out.trans (hbw3.mono HB.out.size))
  have KAw3 := Lib.hid (KA.out.on' hbw3)
  have KRw3 := Lib.hid (KR.out.on' hbw3)
  clear hbw3 a0 a1
  have a0 := KAw3.out.b0
  have a1 := KAw3.out.b1
  clear hp hW1
  by_cases hbad : p = false ∨ id < 0
  · have HD : Hid (W.add k l id at' = (l, 1)) := Lib.hid (by unfold W.add; rw [if_pos (by rw [HP.out]; exact hbad)])
    cases p with
    | false =>
      go_wp2_with fail
      refine (own_any k a n c l w3 (HT.out.below HBw3.out) (by omega)).mono ?_
      rintro e wE ⟨a2, c2, rfl, HOE, hbE⟩
      have HBE := Lib.hid (HBw3.out.trans (hbE.mono HBw3.out.size))
      have KRE := Lib.hid (KRw3.out.on' hbE)
      obtain ⟨KR9, G9⟩ := set2 KRE.out (.int .i64 k) (.slice a2 n c2)
      obtain ⟨w9, hw9⟩ : ∃ w9, (wE.setCell ⟨w.heap.size + 1, 0, none⟩ (.int .i64 k)).setCell ⟨w.heap.size + 1, 1, none⟩ (.slice a2 n c2) = w9 := ⟨_, rfl⟩
      rw [hw9] at KR9 G9
      have HK9 := Lib.hid KR9
      have HB9 := Lib.hid (HBE.out.grown G9 HBE.out.size (fun j hj => by cases hj; omega))
      have hT9 : Hid (TIn w9 a2 n c2 l) := Lib.hid (by
        have h9 := HOE.out.kept G9 (.inr (fun e => by have h1 := (ownT_lt HOE.out e).1; have h2 := (KRw3.out).lt; omega))
        obtain ⟨a9, c9, he, ht⟩ := own_timers h9 HT.out.1
        cases he
        exact ht)
      clear KR9 G9 hbE a0 a1
      have z0 := KRE.out.b0
      have z1 := KRE.out.b1
      have g0 := KRE.out.frozen 0
      have g1 := KRE.out.frozen 1
      go_wp2
      refine bodyPost_ret (ret_w2 rfl (w.heap.size + 1) (.int .i64 k) (.slice a2 n c2) (by kernel_rfl) rfl HK9.out) rfl ?_
      exact ⟨_, _, _, by rw [HD.out]; rfl, by rw [HD.out]; exact hT9, HB9.out⟩
    | true =>
      have d1 : decide (id < 0) = true := decide_eq_true (by rcases hbad with h | h; cases h; exact h)
      go_wp2_with fail
      refine (own_any k a n c l w3 (HT.out.below HBw3.out) (by omega)).mono ?_
      rintro e wE ⟨a2, c2, rfl, HOE, hbE⟩
      have HBE := Lib.hid (HBw3.out.trans (hbE.mono HBw3.out.size))
      have KRE := Lib.hid (KRw3.out.on' hbE)
      obtain ⟨KR9, G9⟩ := set2 KRE.out (.int .i64 k) (.slice a2 n c2)
      obtain ⟨w9, hw9⟩ : ∃ w9, (wE.setCell ⟨w.heap.size + 1, 0, none⟩ (.int .i64 k)).setCell ⟨w.heap.size + 1, 1, none⟩ (.slice a2 n c2) = w9 := ⟨_, rfl⟩
      rw [hw9] at KR9 G9
      have HK9 := Lib.hid KR9
      have HB9 := Lib.hid (HBE.out.grown G9 HBE.out.size (fun j hj => by cases hj; omega))
      have hT9 : Hid (TIn w9 a2 n c2 l) := Lib.hid (by
        have h9 := HOE.out.kept G9 (.inr (fun e => by have h1 := (ownT_lt HOE.out e).1; have h2 := (KRw3.out).lt; omega))
        obtain ⟨a9, c9, he, ht⟩ := own_timers h9 HT.out.1
        cases he
        exact ht)
      clear KR9 G9 hbE a0 a1
      have z0 := KRE.out.b0
      have z1 := KRE.out.b1
      have g0 := KRE.out.frozen 0
      have g1 := KRE.out.frozen 1
      go_wp2
      refine bodyPost_ret (ret_w2 rfl (w.heap.size + 1) (.int .i64 k) (.slice a2 n c2) (by kernel_rfl) rfl HK9.out) rfl ?_
      exact ⟨_, _, _, by rw [HD.out]; rfl, by rw [HD.out]; exact hT9, HB9.out⟩
  · obtain rfl : p = true := by cases p; exact absurd (.inl rfl) hbad; rfl
    have hid0 : ¬ id < 0 := fun h => hbad (.inr h)
    have d1 : decide (id < 0) = false := decide_eq_false hid0
    have HMay : Hid (W.May k l) := Lib.hid (W.may_iff.1 HP.out)
    obtain ⟨q, hq⟩ : ∃ q, decide (k < at' ∧ at' ≤ 1073741824) = q := ⟨_, rfl⟩
    go_wp2_with fail
    refine (canBe_any k at' a n c w3 q hq).mono ?_
    rintro e w4 ⟨rfl, hbw4⟩
    have HBw4 := Lib.hid (HBw3.out.trans (hbw4.mono HBw3.out.size))
    have KAw4 := Lib.hid (KAw3.out.on' hbw4)
    have KRw4 := Lib.hid (KRw3.out.on' hbw4)
    clear hbw4 a0 a1
    have a0 := KAw4.out.b0
    have a1 := KAw4.out.b1
    cases q with
    | false =>
      have HD : Hid (W.add k l id at' = (l, 10)) := Lib.hid (by
        have := of_decide_eq_false hq
        unfold W.add; rw [if_neg (by rw [HP.out]; simpa using hid0), if_pos (by omega)])
      clear hq
      go_wp2_with fail
      refine (own_any k a n c l w4 (HT.out.below HBw4.out) (by omega)).mono ?_
      rintro e wE ⟨a2, c2, rfl, HOE, hbE⟩
      have HBE := Lib.hid (HBw4.out.trans (hbE.mono HBw4.out.size))
      have KRE := Lib.hid (KRw4.out.on' hbE)
      obtain ⟨KR9, G9⟩ := set2 KRE.out (.int .i64 k) (.slice a2 n c2)
      obtain ⟨w9, hw9⟩ : ∃ w9, (wE.setCell ⟨w.heap.size + 1, 0, none⟩ (.int .i64 k)).setCell ⟨w.heap.size + 1, 1, none⟩ (.slice a2 n c2) = w9 := ⟨_, rfl⟩
      rw [hw9] at KR9 G9
      have HK9 := Lib.hid KR9
      have HB9 := Lib.hid (HBE.out.grown G9 HBE.out.size (fun j hj => by cases hj; omega))
      have hT9 : Hid (TIn w9 a2 n c2 l) := Lib.hid (by
        have h9 := HOE.out.kept G9 (.inr (fun e => by have h1 := (ownT_lt HOE.out e).1; have h2 := (KRw4.out).lt; omega))
        obtain ⟨a9, c9, he, ht⟩ := own_timers h9 HT.out.1
        cases he
        exact ht)
      clear KR9 G9 hbE a0 a1
      have z0 := KRE.out.b0
      have z1 := KRE.out.b1
      have g0 := KRE.out.frozen 0
      have g1 := KRE.out.frozen 1
      go_wp2
      refine bodyPost_ret (ret_w2 rfl (w.heap.size + 1) (.int .i64 k) (.slice a2 n c2) (by kernel_rfl) rfl HK9.out) rfl ?_
      exact ⟨_, _, _, by rw [HD.out]; rfl, by rw [HD.out]; exact hT9, HB9.out⟩
    | true =>
      have HQ : Hid (k < at' ∧ at' ≤ 1073741824) := Lib.hid (of_decide_eq_true hq)
      clear hq
      obtain ⟨r, hr⟩ : ∃ r, W.idx l id = r := ⟨_, rfl⟩
      have hf := find_any a n c id l w4 (HT.out.below HBw4.out) (by omega)
      rw [hr] at hf
      go_wp2_with fail
      refine (hf).mono ?_
      rintro e w5 ⟨rfl, hbw5⟩
      have HBw5 := Lib.hid (HBw4.out.trans (hbw5.mono HBw4.out.size))
      have KAw5 := Lib.hid (KAw4.out.on' hbw5)
      have KRw5 := Lib.hid (KRw4.out.on' hbw5)
      clear hbw5 a0 a1
      have a0 := KAw5.out.b0
      have a1 := KAw5.out.b1
      clear hf
      obtain ⟨hs, hhs⟩ : ∃ q, decide (0 ≤ r) = q := ⟨_, rfl⟩
      have HH : Hid (W.has l id = hs) := Lib.hid (by rw [← W.idx_has, hr, hhs])
      clear hr
      cases hs with
      | true =>
        have HD : Hid (W.add k l id at' = (l, 11)) := Lib.hid (by
          have h1 := HQ.out
          unfold W.add; rw [if_neg (by rw [HP.out]; simpa using hid0), if_neg (by omega), if_pos HH.out])
        go_wp2_with fail
        refine (own_any k a n c l w5 (HT.out.below HBw5.out) (by omega)).mono ?_
        rintro e wE ⟨a2, c2, rfl, HOE, hbE⟩
        have HBE := Lib.hid (HBw5.out.trans (hbE.mono HBw5.out.size))
        have KRE := Lib.hid (KRw5.out.on' hbE)
        obtain ⟨KR9, G9⟩ := set2 KRE.out (.int .i64 k) (.slice a2 n c2)
        obtain ⟨w9, hw9⟩ : ∃ w9, (wE.setCell ⟨w.heap.size + 1, 0, none⟩ (.int .i64 k)).setCell ⟨w.heap.size + 1, 1, none⟩ (.slice a2 n c2) = w9 := ⟨_, rfl⟩
        rw [hw9] at KR9 G9
        have HK9 := Lib.hid KR9
        have HB9 := Lib.hid (HBE.out.grown G9 HBE.out.size (fun j hj => by cases hj; omega))
        have hT9 : Hid (TIn w9 a2 n c2 l) := Lib.hid (by
          have h9 := HOE.out.kept G9 (.inr (fun e => by have h1 := (ownT_lt HOE.out e).1; have h2 := (KRw5.out).lt; omega))
          obtain ⟨a9, c9, he, ht⟩ := own_timers h9 HT.out.1
          cases he
          exact ht)
        clear KR9 G9 hbE a0 a1
        have z0 := KRE.out.b0
        have z1 := KRE.out.b1
        have g0 := KRE.out.frozen 0
        have g1 := KRE.out.frozen 1
        go_wp2
        refine bodyPost_ret (ret_w2 rfl (w.heap.size + 1) (.int .i64 k) (.slice a2 n c2) (by kernel_rfl) rfl HK9.out) rfl ?_
        exact ⟨_, _, _, by rw [HD.out]; rfl, by rw [HD.out]; exact hT9, HB9.out⟩
      | false =>
        by_cases h64 : n = 64
        · have d64 : ((n : Int) == 64) = true := by simp; omega
          have HD : Hid (W.add k l id at' = (l, 9)) := Lib.hid (by
            have h1 := HQ.out
            unfold W.add; rw [if_neg (by rw [HP.out]; simpa using hid0), if_neg (by omega), if_neg (by rw [HH.out]; simp), if_pos (by rw [HT.out.1]; exact h64)])
          have h64' := Lib.hid h64
          clear h64
          go_wp2_with fail
          refine (own_any k a n c l w5 (HT.out.below HBw5.out) (by omega)).mono ?_
          rintro e wE ⟨a2, c2, rfl, HOE, hbE⟩
          have HBE := Lib.hid (HBw5.out.trans (hbE.mono HBw5.out.size))
          have KRE := Lib.hid (KRw5.out.on' hbE)
          obtain ⟨KR9, G9⟩ := set2 KRE.out (.int .i64 k) (.slice a2 n c2)
          obtain ⟨w9, hw9⟩ : ∃ w9, (wE.setCell ⟨w.heap.size + 1, 0, none⟩ (.int .i64 k)).setCell ⟨w.heap.size + 1, 1, none⟩ (.slice a2 n c2) = w9 := ⟨_, rfl⟩
          rw [hw9] at KR9 G9
          have HK9 := Lib.hid KR9
          have HB9 := Lib.hid (HBE.out.grown G9 HBE.out.size (fun j hj => by cases hj; omega))
          have hT9 : Hid (TIn w9 a2 n c2 l) := Lib.hid (by
            have h9 := HOE.out.kept G9 (.inr (fun e => by have h1 := (ownT_lt HOE.out e).1; have h2 := (KRw5.out).lt; omega))
            obtain ⟨a9, c9, he, ht⟩ := own_timers h9 HT.out.1
            cases he
            exact ht)
          clear KR9 G9 hbE a0 a1
          have z0 := KRE.out.b0
          have z1 := KRE.out.b1
          have g0 := KRE.out.frozen 0
          have g1 := KRE.out.frozen 1
          go_wp2
          refine bodyPost_ret (ret_w2 rfl (w.heap.size + 1) (.int .i64 k) (.slice a2 n c2) (by kernel_rfl) rfl HK9.out) rfl ?_
          exact ⟨_, _, _, by rw [HD.out]; rfl, by rw [HD.out]; exact hT9, HB9.out⟩
        · have d64 : ((n : Int) == 64) = false := by simp; omega
          have HD : Hid (W.add k l id at' = (W.ins (id, at') l, 0)) := Lib.hid (by
            have h1 := HQ.out
            unfold W.add; rw [if_neg (by rw [HP.out]; simpa using hid0), if_neg (by omega), if_neg (by rw [HH.out]; simp), if_neg (by rw [HT.out.1]; exact h64)])
          have h64' := Lib.hid h64
          clear h64
          have hlay := lay_any a n c l w5 (HT.out.below HBw5.out) (by omega) (fun t ht => by have := W.ok_iff.1 (HMay.out.2.2.2.1 t ht); have h0 := HMay.out.1; omega)
          go_wp2_with fail
          refine hlay.mono ?_
          rintro e wl ⟨vs, rfl, HRows, hbl⟩
          obtain ⟨b0, n0, c0, b1, n1, c1, b2, n2, c2, b3, n3, c3, b4, n4, c4, b5, n5, c5, b6, n6, c6, b7, n7, c7, b8, n8, c8, b9, n9, c9, b10, n10, c10, b11, n11, c11, b12, n12, c12, b13, n13, c13, b14, n14, c14, b15, n15, c15, rfl⟩ := HRows.out.letters
          have hbl2 := hbl
          have HBl := Lib.hid (HBw5.out.trans (hbl.mono HBw5.out.size))
          have KAl := Lib.hid (KAw5.out.on' hbl)
          have KRl := Lib.hid (KRw5.out.on' hbl)
          obtain ⟨wr, hwr⟩ : ∃ wr, wl.alloc (.cells #[.slice b0 n0 c0, .slice b1 n1 c1, .slice b2 n2 c2, .slice b3 n3 c3, .slice b4 n4 c4, .slice b5 n5 c5, .slice b6 n6 c6, .slice b7 n7 c7, .slice b8 n8 c8, .slice b9 n9 c9, .slice b10 n10 c10, .slice b11 n11 c11, .slice b12 n12 c12, .slice b13 n13 c13, .slice b14 n14 c14, .slice b15 n15 c15] 47) = wr := ⟨_, rfl⟩
          have hbr : Below wl.heap.size wl wr := by rw [← hwr]; exact (Below.refl _ _).alloc (Nat.le_refl _) _
          have HRing : Hid (Blok wr wl.heap.size 47 #[.slice b0 n0 c0, .slice b1 n1 c1, .slice b2 n2 c2, .slice b3 n3 c3, .slice b4 n4 c4, .slice b5 n5 c5, .slice b6 n6 c6, .slice b7 n7 c7, .slice b8 n8 c8, .slice b9 n9 c9, .slice b10 n10 c10, .slice b11 n11 c11, .slice b12 n12 c12, .slice b13 n13 c13, .slice b14 n14 c14, .slice b15 n15 c15]) := Lib.hid (by rw [← hwr]; exact Blok.new _ _ _)
          have HRows2 := Lib.hid (HRows.out.on hbr)
          have HBr := Lib.hid (HBl.out.trans (hbr.mono HBl.out.size))
          have KAr := Lib.hid (KAl.out.on' hbr)
          have KRr := Lib.hid (KRl.out.on' hbr)
          have hrbB : w5.heap.size ≤ wl.heap.size := hbl2.size
          have hrbr : wl.heap.size ≤ wr.heap.size := hbr.size
          have hKAlt := KAw5.out.lt
          have hKRlt := KRw5.out.lt
          clear hlay hbl hbl2 a0 a1
          have hput := put_any w5.heap.size wl.heap.size l (id, at') _ wr HRing.out HRows2.out (Nat.le_trans hrbB hrbr) hrbB (by have h1 := HQ.out; have h2 := HMay.out.1; simp only; omega) (by rw [HT.out.1]; omega)
          simp only at hput
          go_wp2_with fail

          refine hput.mono ?_
          rintro e wp ⟨rfl, vs', HRing3, HRows3, HOth, HBp⟩
          have KAp := Lib.hid (HOth.out _ _ _ KAr.out (by decide) (by omega))
          have KRp := Lib.hid (HOth.out _ _ _ KRr.out (by decide) (by omega))
          have HBp2 := Lib.hid (HBr.out.trans (HBp.out.mono HBw5.out.size))
          clear hput hbr hwr
          have hdue := due_any w5.heap.size wl.heap.size k 1073741824 (l ++ [(id, at')]) (W.ins (id, at') l) vs' wp.drew HRing3.out.drew (HRows3.out.on (below_drew wp)) HMay.out.1 (by have := HMay.out.2.1; omega) (Int.le_refl _) (by have := HT.out.1; simp; omega)
            (W.ids_add HMay.out.2.2.2.2.2 HH.out) (W.ins_asc HMay.out.2.2.2.2.1 (fun t ht e => W.has_false.1 HH.out t ht (by rw [e]))) (W.add_perm HMay.out.2.2.2.1 HQ.out)
          obtain ⟨R, hR⟩ : ∃ R, W.ins (id, at') l = R := ⟨_, rfl⟩
          rw [hR] at hdue HD
          obtain ⟨N, hN⟩ : ∃ N, R.length = N := ⟨_, rfl⟩
          rw [hN] at hdue
          have a0 := KAp.out.b0
          have a1 := KAp.out.b1
          have HN := Lib.hid hN
          clear hR hN
          go_wp2_with fail
          go_region_with (go_at_call 29; refine hdue.mono ?_; rintro e w9 ⟨v9, rfl, HO9, hb9⟩; obtain ⟨a9, c9, rfl, ht9⟩ := own_timers HO9.out HN.out; have HT9 := Lib.hid ht9; clear ht9; have KA9 := Lib.hid (KAp.out.drew.on' hb9); have KR9 := Lib.hid (KRp.out.drew.on' hb9); have y0 := KA9.out.b0; have y1 := KA9.out.b1; have z0 := KR9.out.b0; have z1 := KR9.out.b1; have g0 := KR9.out.frozen 0; have g1 := KR9.out.frozen 1)
          clear hdue a0 a1
          have hBp := HBp.out.size
          all_goals (
            obtain ⟨KR10, G10⟩ := set2 KR9.out (.int .i64 k) (.slice a9 N c9)
            obtain ⟨w10, hw10⟩ : ∃ w10, (w9.setCell ⟨w.heap.size + 1, 0, none⟩ (.int .i64 k)).setCell ⟨w.heap.size + 1, 1, none⟩ (.slice a9 N c9) = w10 := ⟨_, rfl⟩
            rw [hw10] at KR10 G10
            have HK10 := Lib.hid KR10
            have HB9 : Below w.heap.size w w9 := (HBp2.out.drew).trans (hb9.mono HBp2.out.size)
            have HB10 := Lib.hid (HB9.grown G10 HB9.size (fun j hj => by cases hj; omega))
            have hlt : ∀ g, (Value.slice a9 N c9).ownBlock = some g → w.heap.size + 1 < g := fun g hg => by
              have h1 := (ownT_lt HO9.out hg).1
              have h2 : wp.heap.size ≤ g := h1
              have h3 := (KRp.out).lt
              omega
            have HT10 : Hid (TIn w10 a9 N c9 R) := Lib.hid (by
              have h9 := HO9.out.kept G10 (.inr (fun e => by have := hlt _ e; omega))
              obtain ⟨a10, c10, he, ht⟩ := own_timers h9 HN.out
              cases he
              exact ht)
            rw [hw10]
            clear KR10 G10 hlt HB9 y0 y1 z0 z1 g0 g1 hb9 hw10
            go_wp2
            refine bodyPost_ret (ret_w2 rfl (w.heap.size + 1) (.int .i64 k) (.slice a9 N c9) (by kernel_rfl) rfl HK10.out) rfl ?_
            exact ⟨_, _, _, by rw [HD.out]; rfl, by rw [HD.out]; exact HT10, HB10.out⟩)
end Go.Proofs.Ytmegkfonodcoiaa
