/-
  A walk of mooringsref10.Add.
-/
import Derived.Test.YtmegkfonodcoiaaWRefStep
namespace Go.Proofs.Ytmegkfonodcoiaa
open Go.RowKit

/-- A list on the way to one with x in its place. -/
def W.Mid (x : W.Tm) (A : List W.Tm) (d : Bool) (acc : List W.Tm) : Prop :=
  (d = true → acc = W.ins x A ∧ ∃ t ∈ A, W.lt x t = true) ∧ (d = false → acc = A ∧ ∀ t ∈ A, W.lt x t = false)
theorem W.ins_pass {x : W.Tm} : ∀ {A B : List W.Tm}, (∀ t ∈ A, W.lt x t = false) → W.ins x (A ++ B) = A ++ W.ins x B
  | [], _, _ => rfl
  | y :: A, B, h => by
    rw [List.cons_append]
    show (if W.lt x y then _ else _) = _
    rw [h y List.mem_cons_self, if_neg (by simp), W.ins_pass (fun t ht => h t (List.mem_cons_of_mem _ ht))]
    rfl
theorem W.ins_snoc {x y : W.Tm} : ∀ {A : List W.Tm}, (∃ t ∈ A, W.lt x t = true) → W.ins x (A ++ [y]) = W.ins x A ++ [y]
  | [], h => by obtain ⟨t, ht, _⟩ := h; cases ht
  | z :: A, h => by
    rw [List.cons_append]
    show (if W.lt x z then _ else _) = (if W.lt x z then _ else _) ++ [y]
    by_cases hz : W.lt x z = true
    · rw [if_pos hz, if_pos hz]; rfl
    · rw [if_neg hz, if_neg hz, W.ins_snoc]
      · rfl
      · obtain ⟨t, ht, hx⟩ := h
        rcases List.mem_cons.1 ht with rfl | ht
        · exact absurd hx hz
        · exact ⟨t, ht, hx⟩
theorem W.mid_in {x y : W.Tm} {A acc : List W.Tm} (h : W.Mid x A false acc) (hy : W.lt x y = true) : W.Mid x (A ++ [y]) true (acc ++ [x] ++ [y]) := by
  obtain ⟨rfl, h2⟩ := h.2 rfl
  refine ⟨fun _ => ⟨?_, y, by simp, hy⟩, fun e => by cases e⟩
  rw [W.ins_pass h2]
  show _ = acc ++ (if W.lt x y then _ else _)
  rw [if_pos hy]; simp
theorem W.mid_on {x y : W.Tm} {A acc : List W.Tm} (h : W.Mid x A false acc) (hy : W.lt x y = false) : W.Mid x (A ++ [y]) false (acc ++ [y]) := by
  obtain ⟨rfl, h2⟩ := h.2 rfl
  refine ⟨fun e => (by cases e), fun _ => ⟨rfl, fun t ht => ?_⟩⟩
  rcases List.mem_append.1 ht with ht | ht
  · exact h2 t ht
  · simp only [List.mem_singleton] at ht; rw [ht]; exact hy
theorem W.mid_done {x y : W.Tm} {A acc : List W.Tm} (h : W.Mid x A true acc) : W.Mid x (A ++ [y]) true (acc ++ [y]) := by
  obtain ⟨rfl, t, ht, hx⟩ := h.1 rfl
  refine ⟨fun _ => ⟨(W.ins_snoc ⟨t, ht, hx⟩).symm, t, by simp [ht], hx⟩, fun e => by cases e⟩
theorem W.mid_end {x : W.Tm} {A acc : List W.Tm} (h : W.Mid x A false acc) : acc ++ [x] = W.ins x A := by
  obtain ⟨rfl, h2⟩ := h.2 rfl
  have := W.ins_pass (B := []) h2
  rw [List.append_nil] at this
  rw [this]; rfl
theorem W.mid_step {x y : W.Tm} {l acc : List W.Tm} {j : Nat} {d : Bool} (hy : l[j]? = some y) (h : W.Mid x (l.take j ++ [y]) d acc) : W.Mid x (l.take (j + 1)) d acc := by
  obtain ⟨h1, h2⟩ := List.getElem?_eq_some_iff.1 hy
  rw [List.take_succ_eq_append_getElem h1, h2]; exact h
theorem W.mid_len {x : W.Tm} {A acc : List W.Tm} {d : Bool} (h : W.Mid x A d acc) : acc.length ≤ A.length + 1 := by
  cases d with
  | false => rw [(h.2 rfl).1]; omega
  | true => rw [(h.1 rfl).1, (W.ins_perm x A).length_eq]; simp

set_option maxRecDepth 100000 in
set_option maxHeartbeats 4000000 in
theorem refAdd_any (k id at' : Int) (a : Option Addr) (n c : Nat) (l : List W.Tm) (w : World) (h : TIn w a n c l) (hn : n ≤ 800) :
    Calls Try.prog 12 #[.agg #[.int .i64 k, .slice a n c], .int .i64 id, .int .i64 at'] w fun e w' => ∃ a2 n2 c2, e = .returned (.tuple #[.agg #[.int .i64 k, .slice a2 n2 c2], .int .i64 (W.add k l id at').2]) ∧ Hid (TIn w' a2 n2 c2 (W.add k l id at').1) ∧ Below w.heap.size w w' := by
  have HT := Lib.hid h
  have HB := Lib.hid (wbox2_below w k a n c)
  have KA := Lib.hid (wbox2_arg w k a n c)
  have KR := Lib.hid (wbox2_res w k a n c)
  have hsz := wbox2_size w k a n c
  obtain ⟨W1, hW1⟩ : ∃ W1, wbox2 w k a n c = W1 := ⟨_, rfl⟩
  rw [hW1] at HB KA KR hsz
  unfold wbox2 wbox at hW1
  have a0 := KA.out.b0
  have a1 := KA.out.b1
  clear h
  obtain ⟨p, hp⟩ : ∃ p, W.may k l = p := ⟨_, rfl⟩
  have HP := Lib.hid hp
  go_enter Try.func12, Try.ntmps12
  go_wp2_with fail
  refine (refMay_any k a n c l W1 (HT.out.below HB.out) (by omega) p hp).mono ?_
  rintro e w3 ⟨rfl, hbw3⟩
  have HBw3 := Lib.hid (HB.out.trans (hbw3.mono HB.out.size))
  have KAw3 := Lib.hid (KA.out.on' hbw3)
  have KRw3 := Lib.hid (KR.out.on' hbw3)
  clear hbw3 a0 a1
  have a0 := KAw3.out.b0
  have a1 := KAw3.out.b1
  clear hp hW1
  have hkrlt := KRw3.out.lt
  by_cases hbad : p = false ∨ id < 0
  · have HD : Hid (W.add k l id at' = (l, 1)) := Lib.hid (by unfold W.add; rw [if_pos (by rw [HP.out]; exact hbad)])
    cases p with
    | false =>
      obtain ⟨KR9, G9⟩ := set2 KRw3.out (.int .i64 k) (.slice a n c)
      obtain ⟨w9, hw9⟩ : ∃ w9, (w3.setCell ⟨w.heap.size + 1, 0, none⟩ (.int .i64 k)).setCell ⟨w.heap.size + 1, 1, none⟩ (.slice a n c) = w9 := ⟨_, rfl⟩
      rw [hw9] at KR9 G9
      have HK9 := Lib.hid KR9
      have HB9 := Lib.hid (HBw3.out.grown G9 HBw3.out.size (fun j hj => by cases hj; omega))
      have HG9 := Lib.hid G9
      clear KR9 G9
      have z0 := KRw3.out.b0
      have z1 := KRw3.out.b1
      have g0 := KRw3.out.frozen 0
      have g1 := KRw3.out.frozen 1
      have hT9 : Hid (TIn w9 a n c l) := Lib.hid (HT.out.below HB9.out)
      go_wp2
      refine bodyPost_ret (ret_w2 rfl (w.heap.size + 1) (.int .i64 k) (.slice a n c) (by kernel_rfl) rfl HK9.out) rfl ?_
      exact ⟨_, _, _, by rw [HD.out]; rfl, by rw [HD.out]; exact hT9, HB9.out⟩
    | true =>
      have d1 : decide (id < 0) = true := decide_eq_true (by rcases hbad with h | h; cases h; exact h)
      obtain ⟨KR9, G9⟩ := set2 KRw3.out (.int .i64 k) (.slice a n c)
      obtain ⟨w9, hw9⟩ : ∃ w9, (w3.setCell ⟨w.heap.size + 1, 0, none⟩ (.int .i64 k)).setCell ⟨w.heap.size + 1, 1, none⟩ (.slice a n c) = w9 := ⟨_, rfl⟩
      rw [hw9] at KR9 G9
      have HK9 := Lib.hid KR9
      have HB9 := Lib.hid (HBw3.out.grown G9 HBw3.out.size (fun j hj => by cases hj; omega))
      have HG9 := Lib.hid G9
      clear KR9 G9
      have z0 := KRw3.out.b0
      have z1 := KRw3.out.b1
      have g0 := KRw3.out.frozen 0
      have g1 := KRw3.out.frozen 1
      have hT9 : Hid (TIn w9 a n c l) := Lib.hid (HT.out.below HB9.out)
      go_wp2
      refine bodyPost_ret (ret_w2 rfl (w.heap.size + 1) (.int .i64 k) (.slice a n c) (by kernel_rfl) rfl HK9.out) rfl ?_
      exact ⟨_, _, _, by rw [HD.out]; rfl, by rw [HD.out]; exact hT9, HB9.out⟩
  · obtain rfl : p = true := by cases p; exact absurd (.inl rfl) hbad; rfl
    have hid0 : ¬ id < 0 := fun h => hbad (.inr h)
    have d1 : decide (id < 0) = false := decide_eq_false hid0
    have HMay : Hid (W.May k l) := Lib.hid (W.may_iff.1 HP.out)
    clear hbad
    by_cases hcl : at' ≤ k ∨ 1073741824 < at'
    · have HD : Hid (W.add k l id at' = (l, 10)) := Lib.hid (by unfold W.add; rw [if_neg (by rw [HP.out]; simpa using hid0), if_pos hcl])
      by_cases hb1 : at' ≤ k
      · have d3 : decide (at' ≤ k) = true := decide_eq_true hb1
        obtain ⟨KR9, G9⟩ := set2 KRw3.out (.int .i64 k) (.slice a n c)
        obtain ⟨w9, hw9⟩ : ∃ w9, (w3.setCell ⟨w.heap.size + 1, 0, none⟩ (.int .i64 k)).setCell ⟨w.heap.size + 1, 1, none⟩ (.slice a n c) = w9 := ⟨_, rfl⟩
        rw [hw9] at KR9 G9
        have HK9 := Lib.hid KR9
        have HB9 := Lib.hid (HBw3.out.grown G9 HBw3.out.size (fun j hj => by cases hj; omega))
        have HG9 := Lib.hid G9
        clear KR9 G9
        have z0 := KRw3.out.b0
        have z1 := KRw3.out.b1
        have g0 := KRw3.out.frozen 0
        have g1 := KRw3.out.frozen 1
        have hT9 : Hid (TIn w9 a n c l) := Lib.hid (HT.out.below HB9.out)
        go_wp2
        refine bodyPost_ret (ret_w2 rfl (w.heap.size + 1) (.int .i64 k) (.slice a n c) (by kernel_rfl) rfl HK9.out) rfl ?_
        exact ⟨_, _, _, by rw [HD.out]; rfl, by rw [HD.out]; exact hT9, HB9.out⟩
      · have d3 : decide (at' ≤ k) = false := decide_eq_false hb1
        have d4 : decide ((1073741824 : Int) < at') = true := decide_eq_true (by omega)
        obtain ⟨KR9, G9⟩ := set2 KRw3.out (.int .i64 k) (.slice a n c)
        obtain ⟨w9, hw9⟩ : ∃ w9, (w3.setCell ⟨w.heap.size + 1, 0, none⟩ (.int .i64 k)).setCell ⟨w.heap.size + 1, 1, none⟩ (.slice a n c) = w9 := ⟨_, rfl⟩
        rw [hw9] at KR9 G9
        have HK9 := Lib.hid KR9
        have HB9 := Lib.hid (HBw3.out.grown G9 HBw3.out.size (fun j hj => by cases hj; omega))
        have HG9 := Lib.hid G9
        clear KR9 G9
        have z0 := KRw3.out.b0
        have z1 := KRw3.out.b1
        have g0 := KRw3.out.frozen 0
        have g1 := KRw3.out.frozen 1
        have hT9 : Hid (TIn w9 a n c l) := Lib.hid (HT.out.below HB9.out)
        go_wp2
        refine bodyPost_ret (ret_w2 rfl (w.heap.size + 1) (.int .i64 k) (.slice a n c) (by kernel_rfl) rfl HK9.out) rfl ?_
        exact ⟨_, _, _, by rw [HD.out]; rfl, by rw [HD.out]; exact hT9, HB9.out⟩
    · have d3 : decide (at' ≤ k) = false := decide_eq_false (fun h => hcl (.inl h))
      have d4 : decide ((1073741824 : Int) < at') = false := decide_eq_false (fun h => hcl (.inr h))
      have HCL := Lib.hid hcl
      clear hcl
      go_wp2_with fail
      go_loop [9] (fun i => ∃ j : Nat, i = .int .i64 j ∧ j ≤ n ∧ Hid (∀ m y, m < j → l[m]? = some y → y.1 ≠ id)) (fun i => n - (intOf i).toNat)
      case atStart => exact ⟨0, by go_num, by omega, Lib.hid (fun m y hm => absurd hm (Nat.not_lt_zero _))⟩
      case round =>
        obtain ⟨j, rfl, hjn, HF⟩ := hrel
        by_cases hlt : j < n
        · have dj : decide ((j : Int) < n) = true := by simp; omega
          obtain ⟨b, off, x, rfl, hbl, hx, p1, p2⟩ := (HT.out.below HBw3.out).at hlt
          have HX := Lib.hid hx
          have j0 : (0 : Int) ≤ j := by omega
          have j1 : (j : Int) < n := by omega
          clear hx
          obtain ⟨z, hz⟩ : ∃ z, (x.1 == id) = z := ⟨_, rfl⟩
          have HZ := Lib.hid hz
          cases z with
          | true =>
            have HD : Hid (W.add k l id at' = (l, 11)) := Lib.hid (by
              have hh : W.has l id = true := W.has_iff.2 ⟨x, List.mem_of_getElem? HX.out, by simpa using HZ.out⟩
              unfold W.add; rw [if_neg (by rw [HP.out]; simpa using hid0), if_neg HCL.out, if_pos hh])
            have hne2 : ∀ b : Nat, b = w.heap.size → b ≠ w.heap.size + 1 := fun b hb => by omega
            obtain ⟨KR9, G9⟩ := set2 KRw3.out (.int .i64 k) (.slice (some ⟨b, off, none⟩) n c)
            obtain ⟨w9, hw9⟩ : ∃ w9, (w3.setCell ⟨w.heap.size + 1, 0, none⟩ (.int .i64 k)).setCell ⟨w.heap.size + 1, 1, none⟩ (.slice (some ⟨b, off, none⟩) n c) = w9 := ⟨_, rfl⟩
            rw [hw9] at KR9 G9
            have HK9 := Lib.hid KR9
            have HB9 := Lib.hid (HBw3.out.grown G9 HBw3.out.size (fun j hj => by cases hj; omega))
            have HG9 := Lib.hid G9
            clear KR9 G9
            have z0 := KRw3.out.b0
            have z1 := KRw3.out.b1
            have g0 := KRw3.out.frozen 0
            have g1 := KRw3.out.frozen 1
            have hT9 : Hid (TIn w9 (some ⟨b, off, none⟩) n c l) := Lib.hid (HT.out.below HB9.out)
            go_wp2
            refine bodyPost_ret (ret_w2 rfl (w.heap.size + 1) (.int .i64 k) (.slice (some ⟨b, off, none⟩) n c) (by kernel_rfl) rfl HK9.out) rfl ?_
            exact ⟨_, _, _, by rw [HD.out]; rfl, by rw [HD.out]; exact hT9, HB9.out⟩
          | false =>
            have HF2 : Hid (∀ m y, m < j + 1 → l[m]? = some y → y.1 ≠ id) := Lib.hid (fun m y hm hy => by
              by_cases hmj : m = j
              · subst hmj; rw [HX.out] at hy; cases hy; simpa using HZ.out
              · exact HF.out m y (by omega) hy)
            go_wp2
            go_round
            case rel => exact ⟨j + 1, by go_num, by omega, HF2⟩
            case measure => simp [intOf] <;> omega
        · have dj : decide ((j : Int) < n) = false := by simp; omega
          have HH : Hid (W.has l id = false) := Lib.hid (W.has_false.2 (fun t ht => by
            obtain ⟨m, hm, rfl⟩ := List.mem_iff_getElem.1 ht
            exact HF.out m _ (by have := HT.out.1; omega) (List.getElem?_eq_getElem hm)))
          by_cases h64 : n = 64
          · have d64 : ((n : Int) == 64) = true := by simp; omega
            have HD : Hid (W.add k l id at' = (l, 9)) := Lib.hid (by
              unfold W.add; rw [if_neg (by rw [HP.out]; simpa using hid0), if_neg HCL.out, if_neg (by rw [HH.out]; simp), if_pos (by rw [HT.out.1]; exact h64)])
            have h64' := Lib.hid h64
            clear h64
            obtain ⟨KR9, G9⟩ := set2 KRw3.out (.int .i64 k) (.slice a n c)
            obtain ⟨w9, hw9⟩ : ∃ w9, (w3.setCell ⟨w.heap.size + 1, 0, none⟩ (.int .i64 k)).setCell ⟨w.heap.size + 1, 1, none⟩ (.slice a n c) = w9 := ⟨_, rfl⟩
            rw [hw9] at KR9 G9
            have HK9 := Lib.hid KR9
            have HB9 := Lib.hid (HBw3.out.grown G9 HBw3.out.size (fun j hj => by cases hj; omega))
            have HG9 := Lib.hid G9
            clear KR9 G9
            have z0 := KRw3.out.b0
            have z1 := KRw3.out.b1
            have g0 := KRw3.out.frozen 0
            have g1 := KRw3.out.frozen 1
            have hT9 : Hid (TIn w9 a n c l) := Lib.hid (HT.out.below HB9.out)
            go_wp2
            refine bodyPost_ret (ret_w2 rfl (w.heap.size + 1) (.int .i64 k) (.slice a n c) (by kernel_rfl) rfl HK9.out) rfl ?_
            exact ⟨_, _, _, by rw [HD.out]; rfl, by rw [HD.out]; exact hT9, HB9.out⟩
          · have d64 : ((n : Int) == 64) = false := by simp; omega
            have HD : Hid (W.add k l id at' = (W.ins (id, at') l, 0)) := Lib.hid (by
              unfold W.add; rw [if_neg (by rw [HP.out]; simpa using hid0), if_neg HCL.out, if_neg (by rw [HH.out]; simp), if_neg (by rw [HT.out.1]; exact h64)])
            have h64' := Lib.hid h64
            clear h64
            obtain ⟨xb, hxb⟩ : ∃ xb, xb = w3.heap.size := ⟨_, rfl⟩
            obtain ⟨base, hbase⟩ : ∃ base, base = w3.heap.size + 1 := ⟨_, rfl⟩
            obtain ⟨w4, hw4⟩ : ∃ w4, wbox (tbox w3 (id, at')) k none 0 0 = w4 := ⟨_, rfl⟩
            have hts : (tbox w3 (id, at')).heap.size = w3.heap.size + 1 := by simp [tbox]
            have HOb : Hid (Blok w4 base 24 #[.int .i64 k, .slice none 0 0]) := Lib.hid (by rw [← hw4, hbase, ← hts]; exact wbox_blok _ _ _ _ _)
            have HXb : Hid (Blok w4 xb 40 #[.int .i64 id, .int .i64 at']) := Lib.hid (by rw [← hw4, hxb]; exact (tbox_blok w3 (id, at')).on' (wbox_below _ _ _ _ _))
            have hb34 : Below w3.heap.size w3 w4 := by rw [← hw4]; exact (tbox_below _ _).trans ((wbox_below _ _ _ _ _).mono (by rw [hts]; omega))
            have HB4 := Lib.hid (HBw3.out.trans (hb34.mono HBw3.out.size))
            have KA4 := Lib.hid (KAw3.out.on' hb34)
            have KR4 := Lib.hid (KRw3.out.on' hb34)
            have hb4 : base ≤ w4.heap.size := by have := HOb.out.lt; omega
            unfold wbox tbox at hw4
            have HW4 := Lib.hid hw4
            have HXS : Hid (xb + 1 = base) := Lib.hid (by omega)
            have aa0 := fun o => (KAw3.out.alloc o).b0
            have aa1 := fun o => (KAw3.out.alloc o).b1
            clear hb34 hw4 hts
            go_wp2_with fail
            rw [HW4.out, ← hbase, ← hxb]
            clear HW4 a0 a1 aa0 aa1
            have hbw : w.heap.size + 2 ≤ xb := by omega
            have hxbb : xb < base := by omega
            clear hbase hxb
            go_loopw [12, 13] (fun s12 i wr => ∃ (d : Bool) (j q : Nat) (v : Value) (acc : List W.Tm), s12 = .bool d ∧ i = .int .i64 j ∧ j ≤ n ∧ q ≤ j + 1 ∧ Hid (acc.length = q) ∧ Hid (W.Mid (id, at') (l.take j) d acc) ∧ Hid (wr.ownsRow base 40 2 v q (W.flat acc)) ∧ Hid (Blok wr base 24 #[.int .i64 k, v]) ∧ Hid (Blok wr xb 40 #[.int .i64 id, .int .i64 at']) ∧ Hid (Blok wr w.heap.size 24 #[.int .i64 k, .slice a n c]) ∧ Hid (Blok wr (w.heap.size + 1) 24 #[.int .i64 0, .slice none 0 0]) ∧ Hid (Below w.heap.size w wr) ∧ base ≤ wr.heap.size) (fun _ i _ => n - (intOf i).toNat)
            case atStart => exact ⟨false, 0, 0, _, [], rfl, by go_num, by omega, by omega, Lib.hid rfl, Lib.hid ⟨fun e => (by cases e), fun _ => ⟨by simp, by simp⟩⟩, Lib.hid (World.ownsRow_nil _ _ _ _), HOb, HXb, KA4, KR4, HB4, hb4⟩
            case round =>
              obtain ⟨d, j, q, v, acc, rfl, rfl, hjn2, hqj, HQ, HM, HO, HOB, HXB, HKA, HKR, HBr, hbr⟩ := hrel
              have a0 := HKA.out.b0
              have a1 := HKA.out.b1
              by_cases hlt2 : j < n
              · have dj2 : decide ((j : Int) < n) = true := by simp; omega
                obtain ⟨b, off, y, rfl, hb0, hy, py1, py2⟩ := HT.out.at hlt2
                have p1 := (HBr.out.cell (p := ⟨b, off + j * 2, none⟩) hb0).trans py1
                have p2 := (HBr.out.cell (p := ⟨b, off + j * 2 + 1, none⟩) hb0).trans py2
                have PY1 := Lib.hid py1
                have PY2 := Lib.hid py2
                clear py1 py2
                have HY := Lib.hid hy
                have j0 : (0 : Int) ≤ j := by omega
                have j1 : (j : Int) < n := by omega
                clear hy
                obtain ⟨e0, he0⟩ : ∃ e, W.lt (id, at') y = e := ⟨_, rfl⟩
                have hbf := fun V => before_any (id, at') y V e0 he0
                simp only at hbf
                have HE := Lib.hid he0
                clear he0
                have x0 := HXB.out.b0
                have x1 := HXB.out.b1
                have cx0 := fun d os => cell_regrown x0 d os
                have cx1 := fun d os => cell_regrown x1 d os
                have ca0 := fun d os => cell_regrown a0 d os
                have ca1 := fun d os => cell_regrown a1 d os
                have cp1 := fun d os => cell_regrown p1 d os
                have cp2 := fun d os => cell_regrown p2 d os
                go_wp2_with fail
                refine wp_region_quiet_below (by kernel_rfl) (by kernel_rfl) ?_
                repeat (go_big_quiet_step (first | with_reducible exact Calls.regrown_of (hbf _)))
                refine wpQuiet_nil ?_
                intro _ hw'
                obtain ⟨⟨dq, osq⟩, hw''⟩ := hw'
                subst hw''
                clear cx0 cx1 ca0 ca1 cp1 cp2 hbf
                obtain ⟨V, hV⟩ : ∃ V, Go.Sort.grow (redrawn wr dq) osq = V := ⟨_, rfl⟩
                have hbV' : Below wr.heap.size wr V := by rw [← hV]; exact below_regrown _ _ _
                rw [hV]
                clear hV x0 x1 a0 a1
                clear p1 p2
                have HOV := Lib.hid (ownsRow_below HO.out hbV')
                have HOB := Lib.hid (HOB.out.on' hbV')
                have HXB := Lib.hid (HXB.out.on' hbV')
                have HKA := Lib.hid (HKA.out.on' hbV')
                have HKR := Lib.hid (HKR.out.on' hbV')
                have hbV : base ≤ V.heap.size := Nat.le_trans hbr hbV'.size
                have HBr := Lib.hid (HBr.out.trans (hbV'.mono HBr.out.size))
                have p1 := (HBr.out.cell (p := ⟨b, off + j * 2, none⟩) hb0).trans PY1.out
                have p2 := (HBr.out.cell (p := ⟨b, off + j * 2 + 1, none⟩) hb0).trans PY2.out
                clear hbV' HO
                cases d with
                | true =>
                  skip
                  cases e0 <;> (
                    go_wp2_with fail
                    have a0 := HKA.out.b0
                    have a1 := HKA.out.b1
                    have o0 := HOB.out.b0
                    have o1 := HOB.out.b1
                    have o2 : ∀ o, (V.alloc o).cell? ⟨base, 1, none⟩ = some v := fun o => (HOB.out.alloc o).b1
                    have o3 : ∀ o, (V.drew.alloc o).cell? ⟨base, 1, none⟩ = some v := fun o => (HOB.out.drew.alloc o).b1
                    go_region_law (refine step_appendT rfl (.tmp 86) (.tmp 92) 22 rfl Try.underlying22 base v q acc y (by simp [Act.eval]) (ownsRow_below HOV.out (below_da _ _)) V.heap.size 40 (by simp [Act.eval]) (Blok.new V.drew _ _) (by omega) (Nat.le_trans hbV (by simp)) ?_; intro g cap w3 h1 h2 h3 h4; have HOB3 := Lib.hid ((HOB.out.on' (below_da V _)).grown h2 (fun e => ownT_ne HOV.out HOB.out (by decide) e.symm rfl)); have r3 := HOB3.out.b1; have f3 := HOB3.out.frozen 1)
                    all_goals (
                      have G3 : Hid (V.grownBy w3 v.ownBlock) := Lib.hid ((grown_none (below_none (below_da V _))).trans h2)
                      have H1 := Lib.hid h1
                      have HG3 : Hid (v.ownBlock = some g ∨ V.heap.size ≤ g) := Lib.hid (h3.imp (fun z => z) (fun e => by rw [e]; show V.heap.size ≤ (V.alloc _).heap.size; simp))
                      clear h1 h2 h3 h4 r3 f3
                      obtain ⟨HOB4, G4⟩ := set21 HOB3.out (.slice (some ⟨g, 0, none⟩) (q + 1) cap)
                      obtain ⟨W4, hW4⟩ : ∃ W4, w3.setCell ⟨base, 1, none⟩ (.slice (some ⟨g, 0, none⟩) (q + 1) cap) = W4 := ⟨_, rfl⟩
                      rw [hW4] at HOB4 G4
                      have HOB4 := Lib.hid HOB4
                      have G4 := Lib.hid G4
                      have H4 := Lib.hid (H1.out.kept G4.out (.inr (fun e => ownT_ne H1.out HOB3.out (by decide) (show _ = some g from rfl) (Option.some.inj e).symm)))
                      rw [hW4]
                      clear hW4
                      have HXB4 := Lib.hid ((HXB.out.grown G3.out (fun e => by have := HXS.out; have := (ownT_lt HOV.out e.symm).1; omega)).grown G4.out (by simp; omega))
                      have HKA4 := Lib.hid ((HKA.out.grown G3.out (fun e => ownT_ne HOV.out HKA.out (by decide) e.symm rfl)).grown G4.out (by simp; omega))
                      have HKR4 := Lib.hid ((HKR.out.grown G3.out (fun e => ownT_ne HOV.out HKR.out (by decide) e.symm rfl)).grown G4.out (by simp; omega))
                      have HBr4 := Lib.hid ((HBr.out.grown G3.out HBr.out.size (fun i hi => by have := (ownT_lt HOV.out hi).1; omega)).grown G4.out (Nat.le_trans HBr.out.size G3.out.size) (fun i hi => by cases hi; omega))
                      have hbr4 : base ≤ W4.heap.size := Nat.le_trans (Nat.le_trans hbV G3.out.size) G4.out.size
                      have hM2 := W.mid_step HY.out (W.mid_done HM.out)
                      clear a0 a1 o0 o1 o2 o3 p1 p2
                      go_wp2
                      go_roundw
                      case rel => exact ⟨true, j + 1, q + 1, _, acc ++ [y], rfl, by go_num, by omega, by omega, Lib.hid (by simp [HQ.out]), Lib.hid hM2, H4, HOB4, HXB4, HKA4, HKR4, HBr4, hbr4⟩
                      case measure => simp [intOf] <;> omega))
                | false =>
                  cases e0 with
                  | false =>
                    go_wp2_with fail
                    have a0 := HKA.out.b0
                    have a1 := HKA.out.b1
                    have o0 := HOB.out.b0
                    have o1 := HOB.out.b1
                    have o2 : ∀ o, (V.alloc o).cell? ⟨base, 1, none⟩ = some v := fun o => (HOB.out.alloc o).b1
                    have o3 : ∀ o, (V.drew.alloc o).cell? ⟨base, 1, none⟩ = some v := fun o => (HOB.out.drew.alloc o).b1
                    go_region_law (refine step_appendT rfl (.tmp 86) (.tmp 92) 22 rfl Try.underlying22 base v q acc y (by simp [Act.eval]) (ownsRow_below HOV.out (below_da _ _)) V.heap.size 40 (by simp [Act.eval]) (Blok.new V.drew _ _) (by omega) (Nat.le_trans hbV (by simp)) ?_; intro g cap w3 h1 h2 h3 h4; have HOB3 := Lib.hid ((HOB.out.on' (below_da V _)).grown h2 (fun e => ownT_ne HOV.out HOB.out (by decide) e.symm rfl)); have r3 := HOB3.out.b1; have f3 := HOB3.out.frozen 1)
                    all_goals (
                      have G3 : Hid (V.grownBy w3 v.ownBlock) := Lib.hid ((grown_none (below_none (below_da V _))).trans h2)
                      have H1 := Lib.hid h1
                      have HG3 : Hid (v.ownBlock = some g ∨ V.heap.size ≤ g) := Lib.hid (h3.imp (fun z => z) (fun e => by rw [e]; show V.heap.size ≤ (V.alloc _).heap.size; simp))
                      clear h1 h2 h3 h4 r3 f3
                      obtain ⟨HOB4, G4⟩ := set21 HOB3.out (.slice (some ⟨g, 0, none⟩) (q + 1) cap)
                      obtain ⟨W4, hW4⟩ : ∃ W4, w3.setCell ⟨base, 1, none⟩ (.slice (some ⟨g, 0, none⟩) (q + 1) cap) = W4 := ⟨_, rfl⟩
                      rw [hW4] at HOB4 G4
                      have HOB4 := Lib.hid HOB4
                      have G4 := Lib.hid G4
                      have H4 := Lib.hid (H1.out.kept G4.out (.inr (fun e => ownT_ne H1.out HOB3.out (by decide) (show _ = some g from rfl) (Option.some.inj e).symm)))
                      rw [hW4]
                      clear hW4
                      have HXB4 := Lib.hid ((HXB.out.grown G3.out (fun e => by have := HXS.out; have := (ownT_lt HOV.out e.symm).1; omega)).grown G4.out (by simp; omega))
                      have HKA4 := Lib.hid ((HKA.out.grown G3.out (fun e => ownT_ne HOV.out HKA.out (by decide) e.symm rfl)).grown G4.out (by simp; omega))
                      have HKR4 := Lib.hid ((HKR.out.grown G3.out (fun e => ownT_ne HOV.out HKR.out (by decide) e.symm rfl)).grown G4.out (by simp; omega))
                      have HBr4 := Lib.hid ((HBr.out.grown G3.out HBr.out.size (fun i hi => by have := (ownT_lt HOV.out hi).1; omega)).grown G4.out (Nat.le_trans HBr.out.size G3.out.size) (fun i hi => by cases hi; omega))
                      have hbr4 : base ≤ W4.heap.size := Nat.le_trans (Nat.le_trans hbV G3.out.size) G4.out.size
                      have hM2 := W.mid_step HY.out (W.mid_on HM.out HE.out)
                      clear a0 a1 o0 o1 o2 o3 p1 p2
                      go_wp2
                      go_roundw
                      case rel => exact ⟨false, j + 1, q + 1, _, acc ++ [y], rfl, by go_num, by omega, by omega, Lib.hid (by simp [HQ.out]), Lib.hid hM2, H4, HOB4, HXB4, HKA4, HKR4, HBr4, hbr4⟩
                      case measure => simp [intOf] <;> omega)
                  | true =>
                    have a0 := HKA.out.b0
                    have a1 := HKA.out.b1
                    go_upto_region 21 with fail
                    have o0 := HOB.out.b0
                    have o1 := HOB.out.b1
                    have x0 := HXB.out.b0
                    have x1 := HXB.out.b1
                    go_wp2_with (at_builtin; refine wpList_appendT rfl (.tmp 80) (.tmp 82) 22 rfl Try.underlying22 base v q acc (id, at') (by simp [Act.eval]) (ownsRow_below HOV.out ((Below.refl _ V).alloc (Nat.le_refl _) _)) V.heap.size 40 (by simp [Act.eval]) (Blok.new V _ _) (by omega) (Nat.le_trans hbV (by simp)) ?_; intro g cap w3 h1 h2 h3 h4; have HOB3 := Lib.hid ((HOB.out.on' ((Below.refl _ V).alloc (Nat.le_refl _) (.cells #[.int .i64 id, .int .i64 at'] 40))).grown h2 (fun e => ownT_ne HOV.out HOB.out (by decide) e.symm rfl)); have r3 := HOB3.out.b1; have f3 := HOB3.out.frozen 1)
                    have G3 : Hid (V.grownBy w3 v.ownBlock) := Lib.hid ((World.grownBy_alloc _ _ _).trans h2)
                    have H1 := Lib.hid h1
                    have HG3 : Hid (v.ownBlock = some g ∨ V.heap.size ≤ g) := Lib.hid (h3.imp (fun z => z) (fun e => by rw [e]; simp))
                    clear h1 h2 h3 h4 r3 f3
                    obtain ⟨HOB4, G4⟩ := set21 HOB3.out (.slice (some ⟨g, 0, none⟩) (q + 1) cap)
                    obtain ⟨W4, hW4⟩ : ∃ W4, w3.setCell ⟨base, 1, none⟩ (.slice (some ⟨g, 0, none⟩) (q + 1) cap) = W4 := ⟨_, rfl⟩
                    rw [hW4] at HOB4 G4
                    have HOB4 := Lib.hid HOB4
                    have G4 := Lib.hid G4
                    have H4 := Lib.hid (H1.out.kept G4.out (.inr (fun e => ownT_ne H1.out HOB3.out (by decide) (show _ = some g from rfl) (Option.some.inj e).symm)))
                    have HXB4 := Lib.hid ((HXB.out.grown G3.out (fun e => by have := HXS.out; have := (ownT_lt HOV.out e.symm).1; omega)).grown G4.out (by simp; omega))
                    have HKA4 := Lib.hid ((HKA.out.grown G3.out (fun e => ownT_ne HOV.out HKA.out (by decide) e.symm rfl)).grown G4.out (by simp; omega))
                    have HKR4 := Lib.hid ((HKR.out.grown G3.out (fun e => ownT_ne HOV.out HKR.out (by decide) e.symm rfl)).grown G4.out (by simp; omega))
                    have HBr4 := Lib.hid ((HBr.out.grown G3.out HBr.out.size (fun i hi => by have := (ownT_lt HOV.out hi).1; omega)).grown G4.out (Nat.le_trans HBr.out.size G3.out.size) (fun i hi => by cases hi; omega))
                    have hbr4 : base ≤ W4.heap.size := Nat.le_trans (Nat.le_trans hbV G3.out.size) G4.out.size
                    rw [hW4]
                    clear hW4 a0 a1 o0 o1 x0 x1 p1 p2
                    have p1 := (HBr4.out.cell (p := ⟨b, off + j * 2, none⟩) hb0).trans PY1.out
                    have p2 := (HBr4.out.cell (p := ⟨b, off + j * 2 + 1, none⟩) hb0).trans PY2.out
                    obtain ⟨vv, hvv⟩ : ∃ vv, Value.slice (some ⟨g, 0, none⟩) (q + 1) cap = vv := ⟨_, rfl⟩
                    rw [hvv] at H4 HOB4
                    obtain ⟨aa, haa⟩ : ∃ aa, acc ++ [(id, at')] = aa := ⟨_, rfl⟩
                    have HMM : Hid (W.Mid (id, at') (l.take j ++ [y]) true (aa ++ [y])) := Lib.hid (by rw [← haa]; exact W.mid_in HM.out HE.out)
                    have HQQ : Hid (aa.length = q + 1) := Lib.hid (by rw [← haa]; simp [HQ.out])
                    rw [haa] at H4
                    obtain ⟨qq, hqq⟩ : ∃ qq, q + 1 = qq := ⟨_, rfl⟩
                    rw [hqq] at H4 HQQ
                    have hq0 : q ≤ j := by
                      have h1 := (HM.out.2 rfl).1
                      have h2 := HQ.out
                      rw [h1] at h2
                      simp at h2; omega
                    have hqq2 : qq ≤ j + 1 := by omega
                    clear hvv haa hqq
                    have a0 := HKA4.out.b0
                    have a1 := HKA4.out.b1
                    have o0 := HOB4.out.b0
                    have o1 := HOB4.out.b1
                    have o2 : ∀ o, (W4.alloc o).cell? ⟨base, 1, none⟩ = some vv := fun o => (HOB4.out.alloc o).b1
                    have o3 : ∀ o, (W4.drew.alloc o).cell? ⟨base, 1, none⟩ = some vv := fun o => (HOB4.out.drew.alloc o).b1
                    go_region_law (refine step_appendT rfl (.tmp 86) (.tmp 92) 22 rfl Try.underlying22 base vv qq aa y (by simp [Act.eval]) (ownsRow_below H4.out (below_da _ _)) W4.heap.size 40 (by simp [Act.eval]) (Blok.new W4.drew _ _) (by omega) (Nat.le_trans hbr4 (by simp)) ?_; intro gg cc w7 h1 h2 h3 h4; have HOB7 := Lib.hid ((HOB4.out.on' (below_da W4 _)).grown h2 (fun e => ownT_ne H4.out HOB4.out (by decide) e.symm rfl)); have r3 := HOB7.out.b1; have f3 := HOB7.out.frozen 1)
                    all_goals (
                      have G7 : Hid (W4.grownBy w7 vv.ownBlock) := Lib.hid ((grown_none (below_none (below_da W4 _))).trans h2)
                      have H5 := Lib.hid h1
                      have HG7 : Hid (vv.ownBlock = some gg ∨ W4.heap.size ≤ gg) := Lib.hid (h3.imp (fun z => z) (fun e => by rw [e]; show W4.heap.size ≤ (W4.alloc _).heap.size; simp))
                      clear h1 h2 h3 h4 r3 f3
                      obtain ⟨HOB8, G8⟩ := set21 HOB7.out (.slice (some ⟨gg, 0, none⟩) (qq + 1) cc)
                      obtain ⟨W8, hW8⟩ : ∃ W8, w7.setCell ⟨base, 1, none⟩ (.slice (some ⟨gg, 0, none⟩) (qq + 1) cc) = W8 := ⟨_, rfl⟩
                      rw [hW8] at HOB8 G8
                      have HOB8 := Lib.hid HOB8
                      have G8 := Lib.hid G8
                      have H8 := Lib.hid (H5.out.kept G8.out (.inr (fun e => ownT_ne H5.out HOB7.out (by decide) (show _ = some gg from rfl) (Option.some.inj e).symm)))
                      rw [hW8]
                      clear hW8
                      have HXB8 := Lib.hid ((HXB4.out.grown G7.out (fun e => by have := HXS.out; have := (ownT_lt H4.out e.symm).1; omega)).grown G8.out (by simp; omega))
                      have HKA8 := Lib.hid ((HKA4.out.grown G7.out (fun e => ownT_ne H4.out HKA4.out (by decide) e.symm rfl)).grown G8.out (by simp; omega))
                      have HKR8 := Lib.hid ((HKR4.out.grown G7.out (fun e => ownT_ne H4.out HKR4.out (by decide) e.symm rfl)).grown G8.out (by simp; omega))
                      have HBr8 := Lib.hid ((HBr4.out.grown G7.out HBr4.out.size (fun i hi => by have := (ownT_lt H4.out hi).1; omega)).grown G8.out (Nat.le_trans HBr4.out.size G7.out.size) (fun i hi => by cases hi; omega))
                      have hbr8 : base ≤ W8.heap.size := Nat.le_trans (Nat.le_trans hbr4 G7.out.size) G8.out.size
                      have hM2 := W.mid_step HY.out (HMM.out)
                      clear a0 a1 o0 o1 o2 o3 p1 p2
                      go_wp2
                      go_roundw
                      case rel => exact ⟨true, j + 1, qq + 1, _, aa ++ [y], rfl, by go_num, by omega, by omega, Lib.hid (by simp [HQQ.out]), Lib.hid hM2, H8, HOB8, HXB8, HKA8, HKR8, HBr8, hbr8⟩
                      case measure => simp [intOf] <;> omega)
              · have dj2 : decide ((j : Int) < n) = false := by simp; omega
                have htk : l.take j = l := List.take_of_length_le (by rw [HT.out.1]; omega)
                rw [htk] at HM
                have HKl := HKA.out.lt
                have hql : q ≤ 801 := by omega
                cases d with
                | true =>
                  have HR : Hid (acc = W.ins (id, at') l) := Lib.hid (HM.out.1 rfl).1
                  obtain ⟨a9, c9, rfl, ht9⟩ := own_timers HO.out HQ.out
                  have o0 := HOB.out.b0
                  have o1 := HOB.out.b1
                  clear ht9
                  obtain ⟨KR9, G9⟩ := set2 HKR.out (.int .i64 k) (.slice a9 q c9)
                  obtain ⟨w9, hw9⟩ : ∃ w9, (wr.setCell ⟨w.heap.size + 1, 0, none⟩ (.int .i64 k)).setCell ⟨w.heap.size + 1, 1, none⟩ (.slice a9 q c9) = w9 := ⟨_, rfl⟩
                  rw [hw9] at KR9 G9
                  have HK9 := Lib.hid KR9
                  have HB9 := Lib.hid (HBr.out.grown G9 HBr.out.size (fun j hj => by cases hj; omega))
                  have HG9 := Lib.hid G9
                  clear KR9 G9
                  have z0 := HKR.out.b0
                  have z1 := HKR.out.b1
                  have g0 := HKR.out.frozen 0
                  have g1 := HKR.out.frozen 1
                  have hT9 : Hid (TIn w9 a9 q c9 (W.ins (id, at') l)) := Lib.hid (by
                    have h9 := HO.out.kept HG9.out (.inr (fun e => by have h1 := (ownT_lt HO.out e).1; omega))
                    obtain ⟨a10, c10, he, ht⟩ := own_timers h9 HQ.out
                    cases he
                    rw [← HR.out]; exact ht)
                  go_wp2
                  refine bodyPost_ret (ret_w2 rfl (w.heap.size + 1) (.int .i64 k) (.slice a9 q c9) (by kernel_rfl) rfl HK9.out) rfl ?_
                  exact ⟨_, _, _, by rw [HD.out]; rfl, by rw [HD.out]; exact hT9, HB9.out⟩
                | false =>
                  have HR : Hid (acc ++ [(id, at')] = W.ins (id, at') l) := Lib.hid (W.mid_end HM.out)
                  obtain ⟨V, hV⟩ : ∃ V, wr = V := ⟨_, rfl⟩
                  rw [hV] at HO HOB HXB HKA HKR HBr hbr a0 a1 HKl ⊢
                  have HOV := HO
                  have hbV := hbr
                  clear hV
                  go_upto_region 25 with fail
                  have o0 := HOB.out.b0
                  have o1 := HOB.out.b1
                  have x0 := HXB.out.b0
                  have x1 := HXB.out.b1
                  go_upto_region 26 with (at_builtin; refine wpList_appendT rfl (.tmp 98) (.tmp 100) 22 rfl Try.underlying22 base v q acc (id, at') (by simp [Act.eval]) (ownsRow_below HOV.out ((Below.refl _ V).alloc (Nat.le_refl _) _)) V.heap.size 40 (by simp [Act.eval]) (Blok.new V _ _) (by omega) (Nat.le_trans hbV (by simp)) ?_; intro g cap w3 h1 h2 h3 h4; have HOB3 := Lib.hid ((HOB.out.on' ((Below.refl _ V).alloc (Nat.le_refl _) (.cells #[.int .i64 id, .int .i64 at'] 40))).grown h2 (fun e => ownT_ne HOV.out HOB.out (by decide) e.symm rfl)); have r3 := HOB3.out.b1; have f3 := HOB3.out.frozen 1)
                  have G3 : Hid (V.grownBy w3 v.ownBlock) := Lib.hid ((World.grownBy_alloc _ _ _).trans h2)
                  have H1 := Lib.hid h1
                  have HG3 : Hid (v.ownBlock = some g ∨ V.heap.size ≤ g) := Lib.hid (h3.imp (fun z => z) (fun e => by rw [e]; simp))
                  clear h1 h2 h3 h4 r3 f3
                  obtain ⟨HOB4, G4⟩ := set21 HOB3.out (.slice (some ⟨g, 0, none⟩) (q + 1) cap)
                  obtain ⟨W4, hW4⟩ : ∃ W4, w3.setCell ⟨base, 1, none⟩ (.slice (some ⟨g, 0, none⟩) (q + 1) cap) = W4 := ⟨_, rfl⟩
                  rw [hW4] at HOB4 G4
                  have HOB4 := Lib.hid HOB4
                  have G4 := Lib.hid G4
                  have H4 := Lib.hid (H1.out.kept G4.out (.inr (fun e => ownT_ne H1.out HOB3.out (by decide) (show _ = some g from rfl) (Option.some.inj e).symm)))
                  have HXB4 := Lib.hid ((HXB.out.grown G3.out (fun e => by have := HXS.out; have := (ownT_lt HOV.out e.symm).1; omega)).grown G4.out (by simp; omega))
                  have HKA4 := Lib.hid ((HKA.out.grown G3.out (fun e => ownT_ne HOV.out HKA.out (by decide) e.symm rfl)).grown G4.out (by simp; omega))
                  have HKR4 := Lib.hid ((HKR.out.grown G3.out (fun e => ownT_ne HOV.out HKR.out (by decide) e.symm rfl)).grown G4.out (by simp; omega))
                  have HBr4 := Lib.hid ((HBr.out.grown G3.out HBr.out.size (fun i hi => by have := (ownT_lt HOV.out hi).1; omega)).grown G4.out (Nat.le_trans HBr.out.size G3.out.size) (fun i hi => by cases hi; omega))
                  have hbr4 : base ≤ W4.heap.size := Nat.le_trans (Nat.le_trans hbV G3.out.size) G4.out.size
                  have HR2 : Hid ((acc ++ [(id, at')]).length = q + 1) := Lib.hid (by simp [HQ.out])
                  rw [HR.out] at H4 HR2
                  rw [hW4]
                  have o0' := HOB4.out.b0
                  have o1' := HOB4.out.b1
                  clear hW4 a0 a1 o0 o1 x0 x1
                  obtain ⟨KR9, G9⟩ := set2 HKR4.out (.int .i64 k) (.slice (some ⟨g, 0, none⟩) (q + 1) cap)
                  obtain ⟨w9, hw9⟩ : ∃ w9, (W4.setCell ⟨w.heap.size + 1, 0, none⟩ (.int .i64 k)).setCell ⟨w.heap.size + 1, 1, none⟩ (.slice (some ⟨g, 0, none⟩) (q + 1) cap) = w9 := ⟨_, rfl⟩
                  rw [hw9] at KR9 G9
                  have HK9 := Lib.hid KR9
                  have HB9 := Lib.hid (HBr4.out.grown G9 HBr4.out.size (fun j hj => by cases hj; omega))
                  have HG9 := Lib.hid G9
                  clear KR9 G9
                  have z0 := HKR4.out.b0
                  have z1 := HKR4.out.b1
                  have g0 := HKR4.out.frozen 0
                  have g1 := HKR4.out.frozen 1
                  have hT9 : Hid (TIn w9 (some ⟨g, 0, none⟩) (q + 1) cap (W.ins (id, at') l)) := Lib.hid (by
                    have h9 := H4.out.kept HG9.out (.inr (fun e => by have h1 := (ownT_lt H4.out e).1; omega))
                    obtain ⟨a10, c10, he, ht⟩ := own_timers h9 HR2.out
                    cases he
                    exact ht)
                  go_wp2
                  refine bodyPost_ret (ret_w2 rfl (w.heap.size + 1) (.int .i64 k) (.slice (some ⟨g, 0, none⟩) (q + 1) cap) (by kernel_rfl) rfl HK9.out) rfl ?_
                  exact ⟨_, _, _, by rw [HD.out]; rfl, by rw [HD.out]; exact hT9, HB9.out⟩
end Go.Proofs.Ytmegkfonodcoiaa
