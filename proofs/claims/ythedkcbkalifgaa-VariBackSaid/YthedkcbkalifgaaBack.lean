/-
  Walk of moorings/mooringslaw01.VariBack: for every input it returns true.
-/
import Derived.Test.YthedkcbkalifgaaTells
namespace Go.Proofs.Ythedkcbkalifgaa
open Go.RowKit
attribute [local go_sem ↓] Go.wp_at_zero Go.wp_at_succ

/-- Put's slice, nil told. -/
theorem putNil_any (n : Int) (lp : Nat) (w : World) (hl : (M.put n).length = lp) : Calls Try.prog 17 #[.int .i64 n] w fun e w' => ∃ a cap, e = .returned (.slice a lp cap) ∧ Hid (RowIn .u8 w' a cap (M.put n)) ∧ Hid (a = none → lp = 0 ∧ cap = 0) ∧ Below w.heap.size w w' :=
  (put_any n w).mono fun e w' ⟨v, he, ho, hb⟩ => by
    rw [hl] at ho
    obtain ⟨a', cap', rfl, _, hr⟩ := ownsRow_rowIn ho (put_wf n)
    refine ⟨a', cap', he, hr, ?_, hb⟩
    intro h
    rcases ho.2 with ⟨h1, h2⟩ | ⟨g, c, cur, h1, _⟩
    · simp at h1; exact ⟨h2, h1.2.2⟩
    · simp [h] at h1

/-- An operation of a region that calls a function, by the function's contract. -/
theorem wp_call_of {P : Program} {o : Oper} {a : Act} {w : World} {K : Act → World → Prop} {Q : Exit → Act → World → Prop} {f : FuncId} {args : Array Value} {R : Ending → World → Prop} (h : (execOp a.eval o).run P w = .ok (.enter f args) w) (hc : Calls P f args w R)
    (hR : ∀ e w', R e w' → ∃ v, e = .returned v ∧ K (a.put o.dst v) w') : o.wp P a w K Q := by
  unfold Oper.wp
  rw [h]
  exact hc.mono (fun e w' he => by obtain ⟨v, rfl, hk⟩ := hR e w' he; exact hk)
theorem ite_true_of {c t e : Prop} [Decidable c] (hc : c) (h : t) : if c then t else e := by rw [if_pos hc]; exact h
/-- An operation of a region that yields a value. -/
theorem wp_value_of {P : Program} {o : Oper} {a : Act} {w : World} {K : Act → World → Prop} {Q : Exit → Act → World → Prop} {v : Value} (h : (execOp a.eval o).run P w = .ok (.value v) w) (hk : K (a.put o.dst v) w) : o.wp P a w K Q := by
  unfold Oper.wp
  rw [h]
  exact hk

/-- Where one operation alone may come up, and it calls a function: by the function's contract. -/
theorem wpAnyH_call {P : Program} {md : Region.Mode} {ops : Array Oper} {Q : Exit → Act → World → Prop} {S : World → Prop} {fuel : Nat} {listed : Array Bool} {a : Act} {w : World} {i : Nat} {o : Oper} {f : FuncId} {args : Array Value} {R : Ending → World → Prop}
    (hr : Region.ready md ops listed = [i]) (ho : ops[i]? = some o) (hw : Region.wanted o (yielded ops a.tmps) = true) (h : (execOp a.eval o).run P w = .ok (.enter f args) w) (hc : Calls P f args w R)
    (hR : ∀ e w', R e w' → ∃ v, e = .returned v ∧ S w' ∧ wpAnyH P md ops Q S fuel (listed.setIfInBounds i true) (a.put o.dst v) w') : wpAnyH P md ops Q S (fuel + 1) listed a w := by
  refine wpAnyH_all hr (by simp) fun j hj => ?_
  obtain rfl : j = i := by simpa using hj
  refine wpOp_step ho fun K hK => ?_
  rw [if_pos hw]
  exact wp_call_of h hc fun e w' he => by obtain ⟨v, h1, h2, h3⟩ := hR e w' he; exact ⟨v, h1, hK _ _ ⟨h2, h3⟩⟩
/-- Where one operation alone may come up, and it yields a value. -/
theorem wpAnyH_value {P : Program} {md : Region.Mode} {ops : Array Oper} {Q : Exit → Act → World → Prop} {S : World → Prop} {fuel : Nat} {listed : Array Bool} {a : Act} {w : World} {i : Nat} {o : Oper} {v : Value}
    (hr : Region.ready md ops listed = [i]) (ho : ops[i]? = some o) (hw : Region.wanted o (yielded ops a.tmps) = true) (h : (execOp a.eval o).run P w = .ok (.value v) w) (hS : S w)
    (hk : wpAnyH P md ops Q S fuel (listed.setIfInBounds i true) (a.put o.dst v) w) : wpAnyH P md ops Q S (fuel + 1) listed a w := by
  refine wpAnyH_all hr (by simp) fun j hj => ?_
  obtain rfl : j = i := by simpa using hj
  refine wpOp_step ho fun K hK => ?_
  rw [if_pos hw]
  exact wp_value_of h (hK _ _ ⟨hS, hk⟩)

theorem row_sub {k : IntKind} {w : World} {b off cap q e : Nat} {L : List Int} (h : RowIn k w (some ⟨b, off, none⟩) cap L) (hq : q + e ≤ L.length) (he : 0 < e) : RowIn k w (some ⟨b, off + q, none⟩) (cap - q) ((L.drop q).take e) := by
  refine ⟨⟨by have := h.1.1; simp; omega, by have := h.1.2; omega⟩, fun n hn => h.2.1 n (List.mem_of_mem_drop (List.mem_of_mem_take hn)), ?_⟩
  rcases h.2.2 with rfl | ⟨b', off', hx, hb, hc⟩
  · simp at hq; omega
  · cases hx
    refine .inr ⟨_, _, rfl, hb, fun i hi => ?_⟩
    simp at hi
    have := hc (q + i) (by omega)
    rw [show off + q + i = off + (q + i) by omega, this]
    simp [show i < e by omega, show q + i < L.length by omega]

theorem get_mid {n : Int} (h : M.isn n) (A B : List Int) : M.get (A ++ M.put n ++ B) (A.length : Nat) = (n, (A.length : Int) + (M.put n).length) := by
  refine get_some ?_
  rw [List.append_assoc, List.drop_left]
  exact head_put h B

set_option maxRecDepth 100000 in
set_option maxHeartbeats 4000000 in
theorem back_none (n p : Int) (a1 a2 : Option Addr) (l1 l2 c1 c2 : Nat) (A B : List Int) (w : World) (h1 : A.length = l1) (h2 : B.length = l2) (r1 : RowIn .u8 w a1 c1 A) (r2 : RowIn .u8 w a2 c2 B) (n1 : a1 = none → l1 = 0 ∧ c1 = 0) (n2 : a2 = none → l2 = 0 ∧ c2 = 0) (hl1 : l1 ≤ 500) (hl2 : l2 ≤ 500) (hgn : M.get B p = (0, -1)) :
    Calls Try.prog 4 #[.int .i64 n, .slice a1 l1 c1, .slice a2 l2 c2, .int .i64 p] w fun e w' => e = .returned (.bool true) ∧ Below w.heap.size w w' := by
  have HG := Lib.hid hgn
  clear hgn
  obtain ⟨i0, hi, hz0, hz1, hz2⟩ := info_parts info5
  have d1 : decide (500 < (l1 : Int)) = false := by simp; omega
  have d2 : decide (500 < (l2 : Int)) = false := by simp; omega
  obtain ⟨lp, hlp⟩ : ∃ l, (M.put n).length = l := ⟨_, rfl⟩
  obtain ⟨gm, ge, hg⟩ : ∃ x y, M.get (A ++ M.put n ++ B) (l1 : Nat) = (x, y) := ⟨_, _, rfl⟩
  have hp6 : lp ≤ 6 := by rw [← hlp]; exact M.put_len6 n
  have hp6' : decide (6 < (lp : Int)) = false := by simp; omega
  have hcase : (0 ≤ n ∧ n ≤ 1099511627776 ∧ 0 < lp ∧ n = gm ∧ ge = (l1 : Int) + lp) ∨ (n < 0 ∧ decide (0 < lp) = false) ∨ (0 ≤ n ∧ decide (n ≤ 1099511627776) = false ∧ decide (0 < lp) = false) := by
    by_cases e1 : 0 ≤ n
    · by_cases e2 : n ≤ 1099511627776
      · refine .inl ⟨e1, e2, by rw [← hlp]; exact put_pos ⟨e1, e2⟩, ?_⟩
        have := get_mid ⟨e1, e2⟩ A B
        rw [h1, hlp, hg] at this
        cases this; exact ⟨rfl, rfl⟩
      · exact .inr (.inr ⟨e1, by simp; omega, by rw [← hlp, M.put_no (by omega)]; rfl⟩)
    · exact .inr (.inl ⟨by omega, by rw [← hlp, M.put_no (by omega)]; rfl⟩)
  have L1 := Lib.hid h1
  have L2 := Lib.hid h2
  have R1 := Lib.hid r1
  have R2 := Lib.hid r2
  have N1 := Lib.hid n1
  have N2 := Lib.hid n2
  have LP := Lib.hid hlp
  have KG := Lib.hid hg
  clear h1 h2 r1 r2 n1 n2 hlp hg
  go_enter Try.func4, Try.ntmps4
  go_wp2_with fail
  refine (awake_any _).mono ?_
  rintro e w1 ⟨rfl, hb1⟩
  have W1 := Lib.hid hb1
  clear hb1
  go_wp2_with fail
  refine (putNil_any n lp _ LP.out).mono ?_
  rintro e w2 ⟨a3, c3, rfl, r3, n3, hb2⟩
  have W2 := Lib.hid (W1.out.trans (hb2.mono W1.out.size))
  have hs2 := W2.out.size
  clear hb2
  rcases hcase with ⟨e1, e2, e3, rfl, rfl⟩ | ⟨e1, e3⟩ | ⟨e1, e2, e3⟩
  · go_wp2_with (first
      | (at_builtin; refine wpList_append_row _ rfl (.const (.slice none 0 0)) (.tmp 47) 22 rfl w2.heap.size 5 i0 (.int .u8 0) 1 Try.underlying22 hi hz0 hz1 hz2 rfl _ 0 [] rfl (World.ownsRow_nil _ _ _ _) .u8 _ l1 c1 A rfl (R1.out.below W2.out) L1.out N1.out (by unfold maxLen; omega) (by omega) (Nat.le_refl _) ?_; intro v3 w3 hown3 hgrow3; have hg3 : w2.grownBy w3 none := hgrow3; clear hgrow3; have b3 : Below w2.heap.size w2 w3 := (Below.refl _ _).grown hg3 (Nat.le_refl _) (by simp))
      | (at_builtin; refine wpList_append_row _ rfl (.tmp 48) (.tmp 49) 22 rfl w2.heap.size 5 i0 (.int .u8 0) 1 Try.underlying22 hi hz0 hz1 hz2 rfl _ (0 + l1) _ rfl hown3 .u8 _ lp c3 (M.put n) rfl (r3.out.below b3) LP.out n3.out (by unfold maxLen; omega) (by omega) b3.size ?_; intro v4 w4 hown4 hgrow4; have b4 : Below w2.heap.size w2 w4 := b3.grown hgrow4 b3.size (fun k e => (hown3.lt k e).1))
      | (at_builtin; refine wpList_append_row _ rfl (.tmp 50) (.tmp 51) 22 rfl w2.heap.size 5 i0 (.int .u8 0) 1 Try.underlying22 hi hz0 hz1 hz2 rfl _ (0 + l1 + lp) _ rfl hown4 .u8 _ l2 c2 B rfl (R2.out.below (W2.out.trans (b4.mono hs2))) L2.out N2.out (by unfold maxLen; omega) (by omega) b4.size ?_; intro v5 w5 hown5 hgrow5; have b5 : Below w2.heap.size w2 w5 := b4.grown hgrow5 b4.size (fun k e => (hown4.lt k e).1)))
    have hown5' : w5.ownsRow w2.heap.size 5 1 v5 (l1 + lp + l2) ((A ++ M.put n ++ B).map (Value.int .u8)) := by simpa using hown5
    obtain ⟨a5, c5, rfl, r5⟩ := own_row hown5' (fun x hx => (List.mem_append.1 hx).elim (fun hx => (List.mem_append.1 hx).elim (R1.out.2.1 x) (put_wf n x)) (R2.out.2.1 x))
    have R5 := Lib.hid r5
    have W5 := Lib.hid (W2.out.trans (b5.mono hs2))
    clear hown3 hown4 hown5 hown5' hg3 hgrow4 hgrow5 b3 b4 b5 r5
    refine (getIs_of KG.out (get_any a5 (l1 + lp + l2) c5 _ _ _ (by rw [List.length_append, List.length_append, L1.out, LP.out, L2.out]) R5.out)).mono ?_
    rintro e w5' ⟨rfl, rfl⟩
    go_wp2_with fail
    refine (getIs_of HG.out (get_any a2 l2 c2 _ B _ L2.out (R2.out.below W5.out))).mono ?_
    rintro e w5' ⟨rfl, rfl⟩
    go_wp2
    go_ret
    exact ⟨rfl, W5.out⟩
  · go_wp2_with (first
      | (at_builtin; refine wpList_append_row _ rfl (.const (.slice none 0 0)) (.tmp 47) 22 rfl w2.heap.size 5 i0 (.int .u8 0) 1 Try.underlying22 hi hz0 hz1 hz2 rfl _ 0 [] rfl (World.ownsRow_nil _ _ _ _) .u8 _ l1 c1 A rfl (R1.out.below W2.out) L1.out N1.out (by unfold maxLen; omega) (by omega) (Nat.le_refl _) ?_; intro v3 w3 hown3 hgrow3; have hg3 : w2.grownBy w3 none := hgrow3; clear hgrow3; have b3 : Below w2.heap.size w2 w3 := (Below.refl _ _).grown hg3 (Nat.le_refl _) (by simp))
      | (at_builtin; refine wpList_append_row _ rfl (.tmp 48) (.tmp 49) 22 rfl w2.heap.size 5 i0 (.int .u8 0) 1 Try.underlying22 hi hz0 hz1 hz2 rfl _ (0 + l1) _ rfl hown3 .u8 _ lp c3 (M.put n) rfl (r3.out.below b3) LP.out n3.out (by unfold maxLen; omega) (by omega) b3.size ?_; intro v4 w4 hown4 hgrow4; have b4 : Below w2.heap.size w2 w4 := b3.grown hgrow4 b3.size (fun k e => (hown3.lt k e).1))
      | (at_builtin; refine wpList_append_row _ rfl (.tmp 50) (.tmp 51) 22 rfl w2.heap.size 5 i0 (.int .u8 0) 1 Try.underlying22 hi hz0 hz1 hz2 rfl _ (0 + l1 + lp) _ rfl hown4 .u8 _ l2 c2 B rfl (R2.out.below (W2.out.trans (b4.mono hs2))) L2.out N2.out (by unfold maxLen; omega) (by omega) b4.size ?_; intro v5 w5 hown5 hgrow5; have b5 : Below w2.heap.size w2 w5 := b4.grown hgrow5 b4.size (fun k e => (hown4.lt k e).1)))
    have hown5' : w5.ownsRow w2.heap.size 5 1 v5 (l1 + lp + l2) ((A ++ M.put n ++ B).map (Value.int .u8)) := by simpa using hown5
    obtain ⟨a5, c5, rfl, r5⟩ := own_row hown5' (fun x hx => (List.mem_append.1 hx).elim (fun hx => (List.mem_append.1 hx).elim (R1.out.2.1 x) (put_wf n x)) (R2.out.2.1 x))
    have R5 := Lib.hid r5
    have W5 := Lib.hid (W2.out.trans (b5.mono hs2))
    clear hown3 hown4 hown5 hown5' hg3 hgrow4 hgrow5 b3 b4 b5 r5
    refine (getIs_of KG.out (get_any a5 (l1 + lp + l2) c5 _ _ _ (by rw [List.length_append, List.length_append, L1.out, LP.out, L2.out]) R5.out)).mono ?_
    rintro e w5' ⟨rfl, rfl⟩
    go_wp2_with fail
    refine (getIs_of HG.out (get_any a2 l2 c2 _ B _ L2.out (R2.out.below W5.out))).mono ?_
    rintro e w5' ⟨rfl, rfl⟩
    go_wp2
    go_ret
    exact ⟨rfl, W5.out⟩
  · go_wp2_with (first
      | (at_builtin; refine wpList_append_row _ rfl (.const (.slice none 0 0)) (.tmp 47) 22 rfl w2.heap.size 5 i0 (.int .u8 0) 1 Try.underlying22 hi hz0 hz1 hz2 rfl _ 0 [] rfl (World.ownsRow_nil _ _ _ _) .u8 _ l1 c1 A rfl (R1.out.below W2.out) L1.out N1.out (by unfold maxLen; omega) (by omega) (Nat.le_refl _) ?_; intro v3 w3 hown3 hgrow3; have hg3 : w2.grownBy w3 none := hgrow3; clear hgrow3; have b3 : Below w2.heap.size w2 w3 := (Below.refl _ _).grown hg3 (Nat.le_refl _) (by simp))
      | (at_builtin; refine wpList_append_row _ rfl (.tmp 48) (.tmp 49) 22 rfl w2.heap.size 5 i0 (.int .u8 0) 1 Try.underlying22 hi hz0 hz1 hz2 rfl _ (0 + l1) _ rfl hown3 .u8 _ lp c3 (M.put n) rfl (r3.out.below b3) LP.out n3.out (by unfold maxLen; omega) (by omega) b3.size ?_; intro v4 w4 hown4 hgrow4; have b4 : Below w2.heap.size w2 w4 := b3.grown hgrow4 b3.size (fun k e => (hown3.lt k e).1))
      | (at_builtin; refine wpList_append_row _ rfl (.tmp 50) (.tmp 51) 22 rfl w2.heap.size 5 i0 (.int .u8 0) 1 Try.underlying22 hi hz0 hz1 hz2 rfl _ (0 + l1 + lp) _ rfl hown4 .u8 _ l2 c2 B rfl (R2.out.below (W2.out.trans (b4.mono hs2))) L2.out N2.out (by unfold maxLen; omega) (by omega) b4.size ?_; intro v5 w5 hown5 hgrow5; have b5 : Below w2.heap.size w2 w5 := b4.grown hgrow5 b4.size (fun k e => (hown4.lt k e).1)))
    have hown5' : w5.ownsRow w2.heap.size 5 1 v5 (l1 + lp + l2) ((A ++ M.put n ++ B).map (Value.int .u8)) := by simpa using hown5
    obtain ⟨a5, c5, rfl, r5⟩ := own_row hown5' (fun x hx => (List.mem_append.1 hx).elim (fun hx => (List.mem_append.1 hx).elim (R1.out.2.1 x) (put_wf n x)) (R2.out.2.1 x))
    have R5 := Lib.hid r5
    have W5 := Lib.hid (W2.out.trans (b5.mono hs2))
    clear hown3 hown4 hown5 hown5' hg3 hgrow4 hgrow5 b3 b4 b5 r5
    refine (getIs_of KG.out (get_any a5 (l1 + lp + l2) c5 _ _ _ (by rw [List.length_append, List.length_append, L1.out, LP.out, L2.out]) R5.out)).mono ?_
    rintro e w5' ⟨rfl, rfl⟩
    go_wp2_with fail
    refine (getIs_of HG.out (get_any a2 l2 c2 _ B _ L2.out (R2.out.below W5.out))).mono ?_
    rintro e w5' ⟨rfl, rfl⟩
    go_wp2
    go_ret
    exact ⟨rfl, W5.out⟩

set_option maxRecDepth 100000 in
set_option maxHeartbeats 4000000 in
/-- The region whose order is open, and what follows it. -/
theorem back_some (n : Int) (a1 : Option Addr) (l1 l2 c1 c2 : Nat) (bb off q e : Nat) (gk : Int) (A B : List Int) (w : World) (h1 : A.length = l1) (h2 : B.length = l2) (r1 : RowIn .u8 w a1 c1 A) (r2 : RowIn .u8 w (some ⟨bb, off, none⟩) c2 B) (n1 : a1 = none → l1 = 0 ∧ c1 = 0) (hl1 : l1 ≤ 500) (hl2 : l2 ≤ 500)
    (hgn : M.get B (q : Int) = (gk, (q : Int) + e)) (he0 : 0 < e) (hqe : q + e ≤ l2) (hput : (B.drop q).take e = M.put gk) :
    Calls Try.prog 4 #[.int .i64 n, .slice a1 l1 c1, .slice (some ⟨bb, off, none⟩) l2 c2, .int .i64 q] w fun e w' => e = .returned (.bool true) ∧ Below w.heap.size w w' := by
  have HG := Lib.hid hgn
  have HP := Lib.hid hput
  have n2 : (some ⟨bb, off, none⟩ : Option Addr) = none → l2 = 0 ∧ c2 = 0 := fun h => by cases h
  have hc2 : l2 ≤ c2 := by have := r2.1.1; omega
  have hc2m : c2 ≤ 9223372036854775807 := by have := r2.1.2; unfold maxLen at this; omega
  clear hgn hput
  obtain ⟨i0, hi, hz0, hz1, hz2⟩ := info_parts info5
  have d1 : decide (500 < (l1 : Int)) = false := by simp; omega
  have d2 : decide (500 < (l2 : Int)) = false := by simp; omega
  obtain ⟨lp, hlp⟩ : ∃ l, (M.put n).length = l := ⟨_, rfl⟩
  obtain ⟨gm, ge, hg⟩ : ∃ x y, M.get (A ++ M.put n ++ B) (l1 : Nat) = (x, y) := ⟨_, _, rfl⟩
  have hp6 : lp ≤ 6 := by rw [← hlp]; exact M.put_len6 n
  have hp6' : decide (6 < (lp : Int)) = false := by simp; omega
  have hcase : (0 ≤ n ∧ n ≤ 1099511627776 ∧ 0 < lp ∧ n = gm ∧ ge = (l1 : Int) + lp) ∨ (n < 0 ∧ decide (0 < lp) = false) ∨ (0 ≤ n ∧ decide (n ≤ 1099511627776) = false ∧ decide (0 < lp) = false) := by
    by_cases e1 : 0 ≤ n
    · by_cases e2 : n ≤ 1099511627776
      · refine .inl ⟨e1, e2, by rw [← hlp]; exact put_pos ⟨e1, e2⟩, ?_⟩
        have := get_mid ⟨e1, e2⟩ A B
        rw [h1, hlp, hg] at this
        cases this; exact ⟨rfl, rfl⟩
      · exact .inr (.inr ⟨e1, by simp; omega, by rw [← hlp, M.put_no (by omega)]; rfl⟩)
    · exact .inr (.inl ⟨by omega, by rw [← hlp, M.put_no (by omega)]; rfl⟩)
  have L1 := Lib.hid h1
  have L2 := Lib.hid h2
  have R1 := Lib.hid r1
  have R2 := Lib.hid r2
  have N1 := Lib.hid n1
  have N2 := Lib.hid n2
  have LP := Lib.hid hlp
  have KG := Lib.hid hg
  clear h1 h2 r1 r2 n1 n2 hlp hg
  go_enter Try.func4, Try.ntmps4
  go_wp2_with fail
  refine (awake_any _).mono ?_
  rintro e w1 ⟨rfl, hb1⟩
  have W1 := Lib.hid hb1
  clear hb1
  go_wp2_with fail
  refine (putNil_any n lp _ LP.out).mono ?_
  rintro e w2 ⟨a3, c3, rfl, r3, n3, hb2⟩
  have W2 := Lib.hid (W1.out.trans (hb2.mono W1.out.size))
  have hs2 := W2.out.size
  clear hb2
  rcases hcase with ⟨e1, e2, e3, rfl, rfl⟩ | ⟨e1, e3⟩ | ⟨e1, e2, e3⟩
  · go_wp2_with (first
      | (at_builtin; refine wpList_append_row _ rfl (.const (.slice none 0 0)) (.tmp 47) 22 rfl w2.heap.size 5 i0 (.int .u8 0) 1 Try.underlying22 hi hz0 hz1 hz2 rfl _ 0 [] rfl (World.ownsRow_nil _ _ _ _) .u8 _ l1 c1 A rfl (R1.out.below W2.out) L1.out N1.out (by unfold maxLen; omega) (by omega) (Nat.le_refl _) ?_; intro v3 w3 hown3 hgrow3; have hg3 : w2.grownBy w3 none := hgrow3; clear hgrow3; have b3 : Below w2.heap.size w2 w3 := (Below.refl _ _).grown hg3 (Nat.le_refl _) (by simp))
      | (at_builtin; refine wpList_append_row _ rfl (.tmp 48) (.tmp 49) 22 rfl w2.heap.size 5 i0 (.int .u8 0) 1 Try.underlying22 hi hz0 hz1 hz2 rfl _ (0 + l1) _ rfl hown3 .u8 _ lp c3 (M.put n) rfl (r3.out.below b3) LP.out n3.out (by unfold maxLen; omega) (by omega) b3.size ?_; intro v4 w4 hown4 hgrow4; have b4 : Below w2.heap.size w2 w4 := b3.grown hgrow4 b3.size (fun k e => (hown3.lt k e).1))
      | (at_builtin; refine wpList_append_row _ rfl (.tmp 50) (.tmp 51) 22 rfl w2.heap.size 5 i0 (.int .u8 0) 1 Try.underlying22 hi hz0 hz1 hz2 rfl _ (0 + l1 + lp) _ rfl hown4 .u8 _ l2 c2 B rfl (R2.out.below (W2.out.trans (b4.mono hs2))) L2.out N2.out (by unfold maxLen; omega) (by omega) b4.size ?_; intro v5 w5 hown5 hgrow5; have b5 : Below w2.heap.size w2 w5 := b4.grown hgrow5 b4.size (fun k e => (hown4.lt k e).1)))
    have hown5' : w5.ownsRow w2.heap.size 5 1 v5 (l1 + lp + l2) ((A ++ M.put n ++ B).map (Value.int .u8)) := by simpa using hown5
    obtain ⟨a5, c5, rfl, r5⟩ := own_row hown5' (fun x hx => (List.mem_append.1 hx).elim (fun hx => (List.mem_append.1 hx).elim (R1.out.2.1 x) (put_wf n x)) (R2.out.2.1 x))
    have R5 := Lib.hid r5
    have W5 := Lib.hid (W2.out.trans (b5.mono hs2))
    clear hown3 hown4 hown5 hown5' hg3 hgrow4 hgrow5 b3 b4 b5 r5
    refine (getIs_of KG.out (get_any a5 (l1 + lp + l2) c5 _ _ _ (by rw [List.length_append, List.length_append, L1.out, LP.out, L2.out]) R5.out)).mono ?_
    rintro e w5' ⟨rfl, rfl⟩
    go_wp2_with fail
    refine (getIs_of HG.out (get_any _ l2 c2 _ B _ L2.out (R2.out.below W5.out))).mono ?_
    rintro e w5' ⟨rfl, rfl⟩
    go_wp2_with fail
    clear KG R1 N1 N2 L1 LP r3 n3 R5 hi hz0 hz1 hz2 d1 d2 hp6 hp6'
    refine wp_region_held (S := fun w' => Below w5.heap.size w5 w') (by kernel_rfl) ?_
    change wpAnyH _ _ _ _ _ _ _ _ (World.drew _)
    have HS : (fun w' => Below w5.heap.size w5 w') (World.drew w5) := below_drew w5
    have RB5 : Hid _ := Lib.hid (row_sub (R2.out.below W5.out) (q := q) (e := e) (by rw [L2.out]; omega) he0)
    have LB : Hid (((B.drop q).take e).length = e) := Lib.hid (by have := L2.out; simp; omega)
    obtain ⟨sk, hsk⟩ : ∃ s, strOf (M.put gk) = s := ⟨_, rfl⟩
    have SK := Lib.hid hsk
    clear hsk
    have t1 : (q : Int) < q + e := by omega
    have t2 : (q : Int) + e ≤ l2 := by omega
    have t3 : (q : Int) + e ≤ c2 := by omega
    have t4 : (q : Int) ≤ q + e := by omega
    have t5 : ¬ c2 = q := by omega
    have t6 : ((q : Int) + e).toNat = q + e := by omega
    refine wpAnyH_take (i := 0) (v := (.int .i64 q)) rfl (by kernel_rfl) (by kernel_rfl) (by kernel_rfl) (fun _ _ _ h => h) (.inl ⟨by kernel_rfl, fun w9 hS => by kernel_rfl⟩) HS ?_
    refine wpAnyH_take (i := 1) (v := (.bool true)) rfl (by kernel_rfl) (by kernel_rfl) (by kernel_rfl) (fun _ _ _ h => h) (.inl ⟨by kernel_rfl, fun w9 hS => by go_simp⟩) HS ?_
    refine wpAnyH_take (i := 2) (v := (.bool true)) rfl (by kernel_rfl) (by kernel_rfl) (by kernel_rfl) (fun _ _ _ h => h) (.inl ⟨by kernel_rfl, fun w9 hS => by kernel_rfl⟩) HS ?_
    refine wpAnyH_take (i := 3) (v := (.int .i64 ((q : Int) + e))) rfl (by kernel_rfl) (by kernel_rfl) (by kernel_rfl) (fun _ _ _ h => h) (.inl ⟨by kernel_rfl, fun w9 hS => by kernel_rfl⟩) HS ?_
    refine wpAnyH_take (i := 4) (v := (.int .i64 q)) rfl (by kernel_rfl) (by kernel_rfl) (by kernel_rfl) (fun _ _ _ h => h) (.inl ⟨by kernel_rfl, fun w9 hS => by kernel_rfl⟩) HS ?_
    refine wpAnyH_take (i := 5) (v := (.bool true)) rfl (by kernel_rfl) (by kernel_rfl) (by kernel_rfl) (fun _ _ _ h => h) (.inl ⟨by kernel_rfl, fun w9 hS => by go_simp⟩) HS ?_
    refine wpAnyH_take (i := 6) (v := (.bool true)) rfl (by kernel_rfl) (by kernel_rfl) (by kernel_rfl) (fun _ _ _ h => h) (.inl ⟨by kernel_rfl, fun w9 hS => by kernel_rfl⟩) HS ?_
    refine wpAnyH_take (i := 7) (v := (.bool true)) rfl (by kernel_rfl) (by kernel_rfl) (by kernel_rfl) (fun _ _ _ h => h) (.inl ⟨by kernel_rfl, fun w9 hS => by kernel_rfl⟩) HS ?_
    refine wpAnyH_take (i := 8) (v := (.int .i64 ((q : Int) + e))) rfl (by kernel_rfl) (by kernel_rfl) (by kernel_rfl) (fun _ _ _ h => h) (.inl ⟨by kernel_rfl, fun w9 hS => by kernel_rfl⟩) HS ?_
    refine wpAnyH_take (i := 9) (v := (.slice (some ⟨bb, off, none⟩) l2 c2)) rfl (by kernel_rfl) (by kernel_rfl) (by kernel_rfl) (fun _ _ _ h => h) (.inl ⟨by kernel_rfl, fun w9 hS => by kernel_rfl⟩) HS ?_
    refine wpAnyH_take (i := 10) (v := (.int .i64 l2)) rfl (by kernel_rfl) (by kernel_rfl) (by kernel_rfl) (fun _ _ _ h => h) (.inl ⟨by kernel_rfl, fun w9 hS => by go_simp⟩) HS ?_
    refine wpAnyH_take (i := 11) (v := (.bool true)) rfl (by kernel_rfl) (by kernel_rfl) (by kernel_rfl) (fun _ _ _ h => h) (.inl ⟨by kernel_rfl, fun w9 hS => by go_simp⟩) HS ?_
    refine wpAnyH_take (i := 12) (v := (.bool true)) rfl (by kernel_rfl) (by kernel_rfl) (by kernel_rfl) (fun _ _ _ h => h) (.inl ⟨by kernel_rfl, fun w9 hS => by kernel_rfl⟩) HS ?_
    refine wpAnyH_take (i := 13) (v := (.bool true)) rfl (by kernel_rfl) (by kernel_rfl) (by kernel_rfl) (fun _ _ _ h => h) (.inl ⟨by kernel_rfl, fun w9 hS => by kernel_rfl⟩) HS ?_
    refine wpAnyH_take (i := 14) (v := (.int .i64 gk)) rfl (by kernel_rfl) (by kernel_rfl) (by kernel_rfl) (fun _ _ _ h => h) (.inl ⟨by kernel_rfl, fun w9 hS => by kernel_rfl⟩) HS ?_
    refine wpAnyH_take (i := 17) (v := (.slice (some ⟨bb, off, none⟩) l2 c2)) rfl (by kernel_rfl) (by kernel_rfl) (by kernel_rfl) (fun _ _ _ h => h) (.inl ⟨by kernel_rfl, fun w9 hS => by kernel_rfl⟩) HS ?_
    refine wpAnyH_take (i := 18) (v := (.int .i64 q)) rfl (by kernel_rfl) (by kernel_rfl) (by kernel_rfl) (fun _ _ _ h => h) (.inl ⟨by kernel_rfl, fun w9 hS => by kernel_rfl⟩) HS ?_
    refine wpAnyH_take (i := 19) (v := (.int .i64 ((q : Int) + e))) rfl (by kernel_rfl) (by kernel_rfl) (by kernel_rfl) (fun _ _ _ h => h) (.inl ⟨by kernel_rfl, fun w9 hS => by kernel_rfl⟩) HS ?_
    refine wpAnyH_take (i := 20) (v := (.slice (some ⟨bb, off + q, none⟩) e (c2 - q))) rfl (by kernel_rfl) (by kernel_rfl) (by kernel_rfl) (fun _ _ _ h => h) (.inl ⟨by kernel_rfl, fun w9 hS => by go_simp⟩) HS ?_
    refine wpAnyH_take (i := 21) (v := (.string sk)) rfl (by kernel_rfl) (by kernel_rfl) (by kernel_rfl) (fun _ _ _ h => h) (.inl ⟨by kernel_rfl, fun w9 hS => by have k := conv_row (RB5.out.below hS) LB.out; rw [HP.out, SK.out] at k; go_simp⟩) HS ?_
    refine wpAnyH_call (i := 15) (f := 17) (args := #[.int .i64 gk]) (by kernel_rfl) rfl (by kernel_rfl) (by kernel_rfl) (putRow_any gk _) ?_
    rintro e6 w6 ⟨a6, c6, n6, rfl, l6, r6, hb6⟩
    have hS6 : Below w5.heap.size w5 w6 := (below_drew w5).trans hb6
    refine ⟨_, rfl, hS6, ?_⟩
    have k6 := conv_row r6.out l6.out
    rw [SK.out] at k6
    refine wpAnyH_value (i := 16) (v := .string sk) (by kernel_rfl) rfl (by kernel_rfl) (by go_simp) hS6 ?_
    clear k6
    have HS6 : (fun w' => Below w5.heap.size w5 w') w6 := hS6
    refine wpAnyH_take (i := 22) (v := (.bool true)) rfl (by kernel_rfl) (by kernel_rfl) (by kernel_rfl) (fun _ _ _ h => h) (.inl ⟨by kernel_rfl, fun w9 hS => (show _ = Result.ok (.value (.bool (sk.toList == sk.toList))) w9 by kernel_rfl).trans (by rw [beq_self_eq_true])⟩) HS6 ?_
    refine wpAnyH_take (i := 23) (v := (.bool true)) rfl (by kernel_rfl) (by kernel_rfl) (by kernel_rfl) (fun _ _ _ h => h) (.inl ⟨by kernel_rfl, fun w9 hS => by kernel_rfl⟩) HS6 ?_
    refine wpAnyH_take (i := 24) (v := (.bool true)) rfl (by kernel_rfl) (by kernel_rfl) (by kernel_rfl) (fun _ _ _ h => h) (.inl ⟨by kernel_rfl, fun w9 hS => by kernel_rfl⟩) HS6 ?_
    refine wpAnyH_done (by kernel_rfl) ?_ _
    go_wp2
    go_ret
    exact ⟨rfl, W5.out.trans (hS6.mono W5.out.size)⟩
  · go_wp2_with (first
      | (at_builtin; refine wpList_append_row _ rfl (.const (.slice none 0 0)) (.tmp 47) 22 rfl w2.heap.size 5 i0 (.int .u8 0) 1 Try.underlying22 hi hz0 hz1 hz2 rfl _ 0 [] rfl (World.ownsRow_nil _ _ _ _) .u8 _ l1 c1 A rfl (R1.out.below W2.out) L1.out N1.out (by unfold maxLen; omega) (by omega) (Nat.le_refl _) ?_; intro v3 w3 hown3 hgrow3; have hg3 : w2.grownBy w3 none := hgrow3; clear hgrow3; have b3 : Below w2.heap.size w2 w3 := (Below.refl _ _).grown hg3 (Nat.le_refl _) (by simp))
      | (at_builtin; refine wpList_append_row _ rfl (.tmp 48) (.tmp 49) 22 rfl w2.heap.size 5 i0 (.int .u8 0) 1 Try.underlying22 hi hz0 hz1 hz2 rfl _ (0 + l1) _ rfl hown3 .u8 _ lp c3 (M.put n) rfl (r3.out.below b3) LP.out n3.out (by unfold maxLen; omega) (by omega) b3.size ?_; intro v4 w4 hown4 hgrow4; have b4 : Below w2.heap.size w2 w4 := b3.grown hgrow4 b3.size (fun k e => (hown3.lt k e).1))
      | (at_builtin; refine wpList_append_row _ rfl (.tmp 50) (.tmp 51) 22 rfl w2.heap.size 5 i0 (.int .u8 0) 1 Try.underlying22 hi hz0 hz1 hz2 rfl _ (0 + l1 + lp) _ rfl hown4 .u8 _ l2 c2 B rfl (R2.out.below (W2.out.trans (b4.mono hs2))) L2.out N2.out (by unfold maxLen; omega) (by omega) b4.size ?_; intro v5 w5 hown5 hgrow5; have b5 : Below w2.heap.size w2 w5 := b4.grown hgrow5 b4.size (fun k e => (hown4.lt k e).1)))
    have hown5' : w5.ownsRow w2.heap.size 5 1 v5 (l1 + lp + l2) ((A ++ M.put n ++ B).map (Value.int .u8)) := by simpa using hown5
    obtain ⟨a5, c5, rfl, r5⟩ := own_row hown5' (fun x hx => (List.mem_append.1 hx).elim (fun hx => (List.mem_append.1 hx).elim (R1.out.2.1 x) (put_wf n x)) (R2.out.2.1 x))
    have R5 := Lib.hid r5
    have W5 := Lib.hid (W2.out.trans (b5.mono hs2))
    clear hown3 hown4 hown5 hown5' hg3 hgrow4 hgrow5 b3 b4 b5 r5
    refine (getIs_of KG.out (get_any a5 (l1 + lp + l2) c5 _ _ _ (by rw [List.length_append, List.length_append, L1.out, LP.out, L2.out]) R5.out)).mono ?_
    rintro e w5' ⟨rfl, rfl⟩
    go_wp2_with fail
    refine (getIs_of HG.out (get_any _ l2 c2 _ B _ L2.out (R2.out.below W5.out))).mono ?_
    rintro e w5' ⟨rfl, rfl⟩
    go_wp2_with fail
    clear KG R1 N1 N2 L1 LP r3 n3 R5 hi hz0 hz1 hz2 d1 d2 hp6 hp6'
    refine wp_region_held (S := fun w' => Below w5.heap.size w5 w') (by kernel_rfl) ?_
    change wpAnyH _ _ _ _ _ _ _ _ (World.drew _)
    have HS : (fun w' => Below w5.heap.size w5 w') (World.drew w5) := below_drew w5
    have RB5 : Hid _ := Lib.hid (row_sub (R2.out.below W5.out) (q := q) (e := e) (by rw [L2.out]; omega) he0)
    have LB : Hid (((B.drop q).take e).length = e) := Lib.hid (by have := L2.out; simp; omega)
    obtain ⟨sk, hsk⟩ : ∃ s, strOf (M.put gk) = s := ⟨_, rfl⟩
    have SK := Lib.hid hsk
    clear hsk
    have t1 : (q : Int) < q + e := by omega
    have t2 : (q : Int) + e ≤ l2 := by omega
    have t3 : (q : Int) + e ≤ c2 := by omega
    have t4 : (q : Int) ≤ q + e := by omega
    have t5 : ¬ c2 = q := by omega
    have t6 : ((q : Int) + e).toNat = q + e := by omega
    refine wpAnyH_take (i := 0) (v := (.int .i64 q)) rfl (by kernel_rfl) (by kernel_rfl) (by kernel_rfl) (fun _ _ _ h => h) (.inl ⟨by kernel_rfl, fun w9 hS => by kernel_rfl⟩) HS ?_
    refine wpAnyH_take (i := 1) (v := (.bool true)) rfl (by kernel_rfl) (by kernel_rfl) (by kernel_rfl) (fun _ _ _ h => h) (.inl ⟨by kernel_rfl, fun w9 hS => by go_simp⟩) HS ?_
    refine wpAnyH_take (i := 2) (v := (.bool true)) rfl (by kernel_rfl) (by kernel_rfl) (by kernel_rfl) (fun _ _ _ h => h) (.inl ⟨by kernel_rfl, fun w9 hS => by kernel_rfl⟩) HS ?_
    refine wpAnyH_take (i := 3) (v := (.int .i64 ((q : Int) + e))) rfl (by kernel_rfl) (by kernel_rfl) (by kernel_rfl) (fun _ _ _ h => h) (.inl ⟨by kernel_rfl, fun w9 hS => by kernel_rfl⟩) HS ?_
    refine wpAnyH_take (i := 4) (v := (.int .i64 q)) rfl (by kernel_rfl) (by kernel_rfl) (by kernel_rfl) (fun _ _ _ h => h) (.inl ⟨by kernel_rfl, fun w9 hS => by kernel_rfl⟩) HS ?_
    refine wpAnyH_take (i := 5) (v := (.bool true)) rfl (by kernel_rfl) (by kernel_rfl) (by kernel_rfl) (fun _ _ _ h => h) (.inl ⟨by kernel_rfl, fun w9 hS => by go_simp⟩) HS ?_
    refine wpAnyH_take (i := 6) (v := (.bool true)) rfl (by kernel_rfl) (by kernel_rfl) (by kernel_rfl) (fun _ _ _ h => h) (.inl ⟨by kernel_rfl, fun w9 hS => by kernel_rfl⟩) HS ?_
    refine wpAnyH_take (i := 7) (v := (.bool true)) rfl (by kernel_rfl) (by kernel_rfl) (by kernel_rfl) (fun _ _ _ h => h) (.inl ⟨by kernel_rfl, fun w9 hS => by kernel_rfl⟩) HS ?_
    refine wpAnyH_take (i := 8) (v := (.int .i64 ((q : Int) + e))) rfl (by kernel_rfl) (by kernel_rfl) (by kernel_rfl) (fun _ _ _ h => h) (.inl ⟨by kernel_rfl, fun w9 hS => by kernel_rfl⟩) HS ?_
    refine wpAnyH_take (i := 9) (v := (.slice (some ⟨bb, off, none⟩) l2 c2)) rfl (by kernel_rfl) (by kernel_rfl) (by kernel_rfl) (fun _ _ _ h => h) (.inl ⟨by kernel_rfl, fun w9 hS => by kernel_rfl⟩) HS ?_
    refine wpAnyH_take (i := 10) (v := (.int .i64 l2)) rfl (by kernel_rfl) (by kernel_rfl) (by kernel_rfl) (fun _ _ _ h => h) (.inl ⟨by kernel_rfl, fun w9 hS => by go_simp⟩) HS ?_
    refine wpAnyH_take (i := 11) (v := (.bool true)) rfl (by kernel_rfl) (by kernel_rfl) (by kernel_rfl) (fun _ _ _ h => h) (.inl ⟨by kernel_rfl, fun w9 hS => by go_simp⟩) HS ?_
    refine wpAnyH_take (i := 12) (v := (.bool true)) rfl (by kernel_rfl) (by kernel_rfl) (by kernel_rfl) (fun _ _ _ h => h) (.inl ⟨by kernel_rfl, fun w9 hS => by kernel_rfl⟩) HS ?_
    refine wpAnyH_take (i := 13) (v := (.bool true)) rfl (by kernel_rfl) (by kernel_rfl) (by kernel_rfl) (fun _ _ _ h => h) (.inl ⟨by kernel_rfl, fun w9 hS => by kernel_rfl⟩) HS ?_
    refine wpAnyH_take (i := 14) (v := (.int .i64 gk)) rfl (by kernel_rfl) (by kernel_rfl) (by kernel_rfl) (fun _ _ _ h => h) (.inl ⟨by kernel_rfl, fun w9 hS => by kernel_rfl⟩) HS ?_
    refine wpAnyH_take (i := 17) (v := (.slice (some ⟨bb, off, none⟩) l2 c2)) rfl (by kernel_rfl) (by kernel_rfl) (by kernel_rfl) (fun _ _ _ h => h) (.inl ⟨by kernel_rfl, fun w9 hS => by kernel_rfl⟩) HS ?_
    refine wpAnyH_take (i := 18) (v := (.int .i64 q)) rfl (by kernel_rfl) (by kernel_rfl) (by kernel_rfl) (fun _ _ _ h => h) (.inl ⟨by kernel_rfl, fun w9 hS => by kernel_rfl⟩) HS ?_
    refine wpAnyH_take (i := 19) (v := (.int .i64 ((q : Int) + e))) rfl (by kernel_rfl) (by kernel_rfl) (by kernel_rfl) (fun _ _ _ h => h) (.inl ⟨by kernel_rfl, fun w9 hS => by kernel_rfl⟩) HS ?_
    refine wpAnyH_take (i := 20) (v := (.slice (some ⟨bb, off + q, none⟩) e (c2 - q))) rfl (by kernel_rfl) (by kernel_rfl) (by kernel_rfl) (fun _ _ _ h => h) (.inl ⟨by kernel_rfl, fun w9 hS => by go_simp⟩) HS ?_
    refine wpAnyH_take (i := 21) (v := (.string sk)) rfl (by kernel_rfl) (by kernel_rfl) (by kernel_rfl) (fun _ _ _ h => h) (.inl ⟨by kernel_rfl, fun w9 hS => by have k := conv_row (RB5.out.below hS) LB.out; rw [HP.out, SK.out] at k; go_simp⟩) HS ?_
    refine wpAnyH_call (i := 15) (f := 17) (args := #[.int .i64 gk]) (by kernel_rfl) rfl (by kernel_rfl) (by kernel_rfl) (putRow_any gk _) ?_
    rintro e6 w6 ⟨a6, c6, n6, rfl, l6, r6, hb6⟩
    have hS6 : Below w5.heap.size w5 w6 := (below_drew w5).trans hb6
    refine ⟨_, rfl, hS6, ?_⟩
    have k6 := conv_row r6.out l6.out
    rw [SK.out] at k6
    refine wpAnyH_value (i := 16) (v := .string sk) (by kernel_rfl) rfl (by kernel_rfl) (by go_simp) hS6 ?_
    clear k6
    have HS6 : (fun w' => Below w5.heap.size w5 w') w6 := hS6
    refine wpAnyH_take (i := 22) (v := (.bool true)) rfl (by kernel_rfl) (by kernel_rfl) (by kernel_rfl) (fun _ _ _ h => h) (.inl ⟨by kernel_rfl, fun w9 hS => (show _ = Result.ok (.value (.bool (sk.toList == sk.toList))) w9 by kernel_rfl).trans (by rw [beq_self_eq_true])⟩) HS6 ?_
    refine wpAnyH_take (i := 23) (v := (.bool true)) rfl (by kernel_rfl) (by kernel_rfl) (by kernel_rfl) (fun _ _ _ h => h) (.inl ⟨by kernel_rfl, fun w9 hS => by kernel_rfl⟩) HS6 ?_
    refine wpAnyH_take (i := 24) (v := (.bool true)) rfl (by kernel_rfl) (by kernel_rfl) (by kernel_rfl) (fun _ _ _ h => h) (.inl ⟨by kernel_rfl, fun w9 hS => by kernel_rfl⟩) HS6 ?_
    refine wpAnyH_done (by kernel_rfl) ?_ _
    go_wp2
    go_ret
    exact ⟨rfl, W5.out.trans (hS6.mono W5.out.size)⟩
  · go_wp2_with (first
      | (at_builtin; refine wpList_append_row _ rfl (.const (.slice none 0 0)) (.tmp 47) 22 rfl w2.heap.size 5 i0 (.int .u8 0) 1 Try.underlying22 hi hz0 hz1 hz2 rfl _ 0 [] rfl (World.ownsRow_nil _ _ _ _) .u8 _ l1 c1 A rfl (R1.out.below W2.out) L1.out N1.out (by unfold maxLen; omega) (by omega) (Nat.le_refl _) ?_; intro v3 w3 hown3 hgrow3; have hg3 : w2.grownBy w3 none := hgrow3; clear hgrow3; have b3 : Below w2.heap.size w2 w3 := (Below.refl _ _).grown hg3 (Nat.le_refl _) (by simp))
      | (at_builtin; refine wpList_append_row _ rfl (.tmp 48) (.tmp 49) 22 rfl w2.heap.size 5 i0 (.int .u8 0) 1 Try.underlying22 hi hz0 hz1 hz2 rfl _ (0 + l1) _ rfl hown3 .u8 _ lp c3 (M.put n) rfl (r3.out.below b3) LP.out n3.out (by unfold maxLen; omega) (by omega) b3.size ?_; intro v4 w4 hown4 hgrow4; have b4 : Below w2.heap.size w2 w4 := b3.grown hgrow4 b3.size (fun k e => (hown3.lt k e).1))
      | (at_builtin; refine wpList_append_row _ rfl (.tmp 50) (.tmp 51) 22 rfl w2.heap.size 5 i0 (.int .u8 0) 1 Try.underlying22 hi hz0 hz1 hz2 rfl _ (0 + l1 + lp) _ rfl hown4 .u8 _ l2 c2 B rfl (R2.out.below (W2.out.trans (b4.mono hs2))) L2.out N2.out (by unfold maxLen; omega) (by omega) b4.size ?_; intro v5 w5 hown5 hgrow5; have b5 : Below w2.heap.size w2 w5 := b4.grown hgrow5 b4.size (fun k e => (hown4.lt k e).1)))
    have hown5' : w5.ownsRow w2.heap.size 5 1 v5 (l1 + lp + l2) ((A ++ M.put n ++ B).map (Value.int .u8)) := by simpa using hown5
    obtain ⟨a5, c5, rfl, r5⟩ := own_row hown5' (fun x hx => (List.mem_append.1 hx).elim (fun hx => (List.mem_append.1 hx).elim (R1.out.2.1 x) (put_wf n x)) (R2.out.2.1 x))
    have R5 := Lib.hid r5
    have W5 := Lib.hid (W2.out.trans (b5.mono hs2))
    clear hown3 hown4 hown5 hown5' hg3 hgrow4 hgrow5 b3 b4 b5 r5
    refine (getIs_of KG.out (get_any a5 (l1 + lp + l2) c5 _ _ _ (by rw [List.length_append, List.length_append, L1.out, LP.out, L2.out]) R5.out)).mono ?_
    rintro e w5' ⟨rfl, rfl⟩
    go_wp2_with fail
    refine (getIs_of HG.out (get_any _ l2 c2 _ B _ L2.out (R2.out.below W5.out))).mono ?_
    rintro e w5' ⟨rfl, rfl⟩
    go_wp2_with fail
    clear KG R1 N1 N2 L1 LP r3 n3 R5 hi hz0 hz1 hz2 d1 d2 hp6 hp6'
    refine wp_region_held (S := fun w' => Below w5.heap.size w5 w') (by kernel_rfl) ?_
    change wpAnyH _ _ _ _ _ _ _ _ (World.drew _)
    have HS : (fun w' => Below w5.heap.size w5 w') (World.drew w5) := below_drew w5
    have RB5 : Hid _ := Lib.hid (row_sub (R2.out.below W5.out) (q := q) (e := e) (by rw [L2.out]; omega) he0)
    have LB : Hid (((B.drop q).take e).length = e) := Lib.hid (by have := L2.out; simp; omega)
    obtain ⟨sk, hsk⟩ : ∃ s, strOf (M.put gk) = s := ⟨_, rfl⟩
    have SK := Lib.hid hsk
    clear hsk
    have t1 : (q : Int) < q + e := by omega
    have t2 : (q : Int) + e ≤ l2 := by omega
    have t3 : (q : Int) + e ≤ c2 := by omega
    have t4 : (q : Int) ≤ q + e := by omega
    have t5 : ¬ c2 = q := by omega
    have t6 : ((q : Int) + e).toNat = q + e := by omega
    refine wpAnyH_take (i := 0) (v := (.int .i64 q)) rfl (by kernel_rfl) (by kernel_rfl) (by kernel_rfl) (fun _ _ _ h => h) (.inl ⟨by kernel_rfl, fun w9 hS => by kernel_rfl⟩) HS ?_
    refine wpAnyH_take (i := 1) (v := (.bool true)) rfl (by kernel_rfl) (by kernel_rfl) (by kernel_rfl) (fun _ _ _ h => h) (.inl ⟨by kernel_rfl, fun w9 hS => by go_simp⟩) HS ?_
    refine wpAnyH_take (i := 2) (v := (.bool true)) rfl (by kernel_rfl) (by kernel_rfl) (by kernel_rfl) (fun _ _ _ h => h) (.inl ⟨by kernel_rfl, fun w9 hS => by kernel_rfl⟩) HS ?_
    refine wpAnyH_take (i := 3) (v := (.int .i64 ((q : Int) + e))) rfl (by kernel_rfl) (by kernel_rfl) (by kernel_rfl) (fun _ _ _ h => h) (.inl ⟨by kernel_rfl, fun w9 hS => by kernel_rfl⟩) HS ?_
    refine wpAnyH_take (i := 4) (v := (.int .i64 q)) rfl (by kernel_rfl) (by kernel_rfl) (by kernel_rfl) (fun _ _ _ h => h) (.inl ⟨by kernel_rfl, fun w9 hS => by kernel_rfl⟩) HS ?_
    refine wpAnyH_take (i := 5) (v := (.bool true)) rfl (by kernel_rfl) (by kernel_rfl) (by kernel_rfl) (fun _ _ _ h => h) (.inl ⟨by kernel_rfl, fun w9 hS => by go_simp⟩) HS ?_
    refine wpAnyH_take (i := 6) (v := (.bool true)) rfl (by kernel_rfl) (by kernel_rfl) (by kernel_rfl) (fun _ _ _ h => h) (.inl ⟨by kernel_rfl, fun w9 hS => by kernel_rfl⟩) HS ?_
    refine wpAnyH_take (i := 7) (v := (.bool true)) rfl (by kernel_rfl) (by kernel_rfl) (by kernel_rfl) (fun _ _ _ h => h) (.inl ⟨by kernel_rfl, fun w9 hS => by kernel_rfl⟩) HS ?_
    refine wpAnyH_take (i := 8) (v := (.int .i64 ((q : Int) + e))) rfl (by kernel_rfl) (by kernel_rfl) (by kernel_rfl) (fun _ _ _ h => h) (.inl ⟨by kernel_rfl, fun w9 hS => by kernel_rfl⟩) HS ?_
    refine wpAnyH_take (i := 9) (v := (.slice (some ⟨bb, off, none⟩) l2 c2)) rfl (by kernel_rfl) (by kernel_rfl) (by kernel_rfl) (fun _ _ _ h => h) (.inl ⟨by kernel_rfl, fun w9 hS => by kernel_rfl⟩) HS ?_
    refine wpAnyH_take (i := 10) (v := (.int .i64 l2)) rfl (by kernel_rfl) (by kernel_rfl) (by kernel_rfl) (fun _ _ _ h => h) (.inl ⟨by kernel_rfl, fun w9 hS => by go_simp⟩) HS ?_
    refine wpAnyH_take (i := 11) (v := (.bool true)) rfl (by kernel_rfl) (by kernel_rfl) (by kernel_rfl) (fun _ _ _ h => h) (.inl ⟨by kernel_rfl, fun w9 hS => by go_simp⟩) HS ?_
    refine wpAnyH_take (i := 12) (v := (.bool true)) rfl (by kernel_rfl) (by kernel_rfl) (by kernel_rfl) (fun _ _ _ h => h) (.inl ⟨by kernel_rfl, fun w9 hS => by kernel_rfl⟩) HS ?_
    refine wpAnyH_take (i := 13) (v := (.bool true)) rfl (by kernel_rfl) (by kernel_rfl) (by kernel_rfl) (fun _ _ _ h => h) (.inl ⟨by kernel_rfl, fun w9 hS => by kernel_rfl⟩) HS ?_
    refine wpAnyH_take (i := 14) (v := (.int .i64 gk)) rfl (by kernel_rfl) (by kernel_rfl) (by kernel_rfl) (fun _ _ _ h => h) (.inl ⟨by kernel_rfl, fun w9 hS => by kernel_rfl⟩) HS ?_
    refine wpAnyH_take (i := 17) (v := (.slice (some ⟨bb, off, none⟩) l2 c2)) rfl (by kernel_rfl) (by kernel_rfl) (by kernel_rfl) (fun _ _ _ h => h) (.inl ⟨by kernel_rfl, fun w9 hS => by kernel_rfl⟩) HS ?_
    refine wpAnyH_take (i := 18) (v := (.int .i64 q)) rfl (by kernel_rfl) (by kernel_rfl) (by kernel_rfl) (fun _ _ _ h => h) (.inl ⟨by kernel_rfl, fun w9 hS => by kernel_rfl⟩) HS ?_
    refine wpAnyH_take (i := 19) (v := (.int .i64 ((q : Int) + e))) rfl (by kernel_rfl) (by kernel_rfl) (by kernel_rfl) (fun _ _ _ h => h) (.inl ⟨by kernel_rfl, fun w9 hS => by kernel_rfl⟩) HS ?_
    refine wpAnyH_take (i := 20) (v := (.slice (some ⟨bb, off + q, none⟩) e (c2 - q))) rfl (by kernel_rfl) (by kernel_rfl) (by kernel_rfl) (fun _ _ _ h => h) (.inl ⟨by kernel_rfl, fun w9 hS => by go_simp⟩) HS ?_
    refine wpAnyH_take (i := 21) (v := (.string sk)) rfl (by kernel_rfl) (by kernel_rfl) (by kernel_rfl) (fun _ _ _ h => h) (.inl ⟨by kernel_rfl, fun w9 hS => by have k := conv_row (RB5.out.below hS) LB.out; rw [HP.out, SK.out] at k; go_simp⟩) HS ?_
    refine wpAnyH_call (i := 15) (f := 17) (args := #[.int .i64 gk]) (by kernel_rfl) rfl (by kernel_rfl) (by kernel_rfl) (putRow_any gk _) ?_
    rintro e6 w6 ⟨a6, c6, n6, rfl, l6, r6, hb6⟩
    have hS6 : Below w5.heap.size w5 w6 := (below_drew w5).trans hb6
    refine ⟨_, rfl, hS6, ?_⟩
    have k6 := conv_row r6.out l6.out
    rw [SK.out] at k6
    refine wpAnyH_value (i := 16) (v := .string sk) (by kernel_rfl) rfl (by kernel_rfl) (by go_simp) hS6 ?_
    clear k6
    have HS6 : (fun w' => Below w5.heap.size w5 w') w6 := hS6
    refine wpAnyH_take (i := 22) (v := (.bool true)) rfl (by kernel_rfl) (by kernel_rfl) (by kernel_rfl) (fun _ _ _ h => h) (.inl ⟨by kernel_rfl, fun w9 hS => (show _ = Result.ok (.value (.bool (sk.toList == sk.toList))) w9 by kernel_rfl).trans (by rw [beq_self_eq_true])⟩) HS6 ?_
    refine wpAnyH_take (i := 23) (v := (.bool true)) rfl (by kernel_rfl) (by kernel_rfl) (by kernel_rfl) (fun _ _ _ h => h) (.inl ⟨by kernel_rfl, fun w9 hS => by kernel_rfl⟩) HS6 ?_
    refine wpAnyH_take (i := 24) (v := (.bool true)) rfl (by kernel_rfl) (by kernel_rfl) (by kernel_rfl) (fun _ _ _ h => h) (.inl ⟨by kernel_rfl, fun w9 hS => by kernel_rfl⟩) HS6 ?_
    refine wpAnyH_done (by kernel_rfl) ?_ _
    go_wp2
    go_ret
    exact ⟨rfl, W5.out.trans (hS6.mono W5.out.size)⟩
end Go.Proofs.Ythedkcbkalifgaa
