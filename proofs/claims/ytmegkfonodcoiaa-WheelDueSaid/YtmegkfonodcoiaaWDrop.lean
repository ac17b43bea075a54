/-
  A walk of wheel.Drop.
-/
import Derived.Test.YtmegkfonodcoiaaWSame
namespace Go.Proofs.Ytmegkfonodcoiaa
open Go.RowKit

theorem W.idx_some {l : List W.Tm} {id : Int} (h : 0 ≤ W.idx l id) : ∃ (i : Nat) (x : W.Tm), W.idx l id = i ∧ l[i]? = some x ∧ x.1 = id := by
  unfold W.idx at h ⊢
  cases hf : W.find l id with
  | none => rw [hf] at h; simp at h
  | some i =>
    unfold W.find at hf
    obtain ⟨h1, h2, _⟩ := List.findIdx?_eq_some_iff_getElem.1 hf
    exact ⟨i, _, rfl, List.getElem?_eq_getElem h1, by simpa using h2⟩
theorem W.filter_all {l : List W.Tm} {p : W.Tm → Bool} (h : ∀ t ∈ l, p t = true) : l.filter p = l := List.filter_eq_self.2 h
theorem W.drop_at {l : List W.Tm} {i : Nat} {x : W.Tm} (hi : W.Ids l) (hx : l[i]? = some x) : l.filter (fun t => decide (t.1 ≠ x.1)) = l.take i ++ l.drop (i + 1) := by
  obtain ⟨h1, h2⟩ := List.getElem?_eq_some_iff.1 hx
  have hp := List.pairwise_iff_getElem.1 hi
  have e : l = l.take i ++ (x :: l.drop (i + 1)) := by rw [← h2, ← List.drop_eq_getElem_cons h1, List.take_append_drop]
  have hA : ∀ t ∈ l.take i, decide (t.1 ≠ x.1) = true := fun t ht => by
    obtain ⟨j, hj, rfl⟩ := List.mem_iff_getElem.1 ht
    simp at hj
    rw [List.getElem_take]
    have := hp j i (by omega) h1 (by omega)
    rw [h2] at this
    exact decide_eq_true this
  have hB : ∀ t ∈ l.drop (i + 1), decide (t.1 ≠ x.1) = true := fun t ht => by
    obtain ⟨j, hj, rfl⟩ := List.mem_iff_getElem.1 ht
    simp at hj
    rw [List.getElem_drop]
    have := hp i (i + 1 + j) h1 (by omega) (by omega)
    rw [h2] at this
    exact decide_eq_true (Ne.symm this)
  conv => lhs; rw [e]
  rw [List.filter_append, W.filter_all hA, List.filter_cons]
  rw [if_neg (by simp), W.filter_all hB]
theorem ownT_some {V : World} {B n : Nat} {v : Value} {xs : List Value} (h : V.ownsRow B 40 2 v n xs) (hn : 0 < n) : ∃ g c, v = .slice (some ⟨g, 0, none⟩) n c := by
  rcases h.2 with ⟨_, h0⟩ | ⟨g, cap, _, rfl, _⟩
  · omega
  · exact ⟨g, cap, rfl⟩

set_option maxRecDepth 100000 in
set_option maxHeartbeats 1000000 in
theorem drop_any (k id : Int) (a : Option Addr) (n c : Nat) (l : List W.Tm) (w : World) (h : TIn w a n c l) (hn : n ≤ 900) :
    Calls Try.prog 13 #[.agg #[.int .i64 k, .slice a n c], .int .i64 id] w fun e w' => ∃ a2 n2 c2, e = .returned (.tuple #[.agg #[.int .i64 k, .slice a2 n2 c2], .bool (W.drop k l id).2]) ∧ Hid (TIn w' a2 n2 c2 (W.drop k l id).1) ∧ Below w.heap.size w w' := by
  have HT := Lib.hid h
  have HB := Lib.hid (wbox2_below w k a n c)
  have KA := Lib.hid (wbox2_arg w k a n c)
  have KR := Lib.hid (wbox2_res w k a n c)
  have hsz := wbox2_size w k a n c
  obtain ⟨W1, hW1⟩ : ∃ W1, wbox2 w k a n c = W1 := ⟨_, rfl⟩
  rw [hW1] at HB KA KR hsz
  unfold wbox2 wbox at hW1
  have a0 := KA.out.b0
  have a1 := KA.out.b1
  clear h
  go_enter Try.func13, Try.ntmps13
  go_wp2_with fail
  refine (own_any k a n c l W1 (HT.out.below HB.out) (by omega)).mono ?_
  rintro e w3 ⟨a2, c2, rfl, HO, hb3⟩
  have HL := Lib.hid (wbox_blok w3 k a2 n c2)
  have HLB := Lib.hid (wbox_below w3 k a2 n c2)
  have hb4 := hb3.trans (HLB.out.mono hb3.size)
  have HB4 := Lib.hid (HB.out.trans (hb4.mono HB.out.size))
  have KA4 := Lib.hid (KA.out.on' hb4)
  have KR4 := Lib.hid (KR.out.on' hb4)
  have HO4 := Lib.hid (ownsRow_below HO.out HLB.out)
  have hL1 : W1.heap.size ≤ w3.heap.size := hb3.size
  obtain ⟨w4, hw4⟩ : ∃ w4, wbox w3 k a2 n c2 = w4 := ⟨_, rfl⟩
  rw [hw4] at HL HLB HB4 KA4 KR4 HO4
  unfold wbox at hw4
  clear hb3 hb4 a0 a1 hW1
  have a0 := KA4.out.b0
  have a1 := KA4.out.b1
  obtain ⟨r, hr⟩ : ∃ r, W.idx l id = r := ⟨_, rfl⟩
  have hf := find_any a n c id l w4 (HT.out.below HB4.out) (by omega)
  rw [hr] at hf
  go_wp2_with fail
  refine hf.mono ?_
  rintro e w5 ⟨rfl, hb5⟩
  have HL5 := Lib.hid (HL.out.on' hb5)
  have HB5 := Lib.hid (HB4.out.trans (hb5.mono HB4.out.size))
  have KA5 := Lib.hid (KA4.out.on' hb5)
  have KR5 := Lib.hid (KR4.out.on' hb5)
  have HO5 := Lib.hid (ownsRow_below HO4.out hb5)
  clear hf hb5 a0 a1 hw4
  have a0 := KA5.out.b0
  have a1 := KA5.out.b1
  obtain ⟨p, hp⟩ : ∃ p, W.may k l = p := ⟨_, rfl⟩
  have hm := may_any k a n c l w5 (HT.out.below HB5.out) (by omega) p hp
  go_wp2_with fail
  refine hm.mono ?_
  rintro e w6 ⟨rfl, hb6⟩
  have HL6 := Lib.hid (HL5.out.on' hb6)
  have HB6 := Lib.hid (HB5.out.trans (hb6.mono HB5.out.size))
  have KR6 := Lib.hid (KR5.out.on' hb6)
  have HO6 := Lib.hid (ownsRow_below HO5.out hb6)
  clear hm hb6 a0 a1
  have l0 := HL6.out.b0
  have l1 := HL6.out.b1
  have f1 := HL6.out.frozen 1
  have z0 := KR6.out.b0
  have z1 := KR6.out.b1
  have g0 := KR6.out.frozen 0
  have g1 := KR6.out.frozen 1
  have hwL : w.heap.size + 2 ≤ w3.heap.size := by omega
  have hgr : ∀ g, (Value.slice a2 n c2).ownBlock = some g → w.heap.size + 2 ≤ g := fun g hg => by have := (ownT_lt HO.out hg).1; omega
  by_cases hok : p = true ∧ 0 ≤ r
  · obtain ⟨rfl, hr0⟩ := hok
    obtain ⟨i, x, hi, hx, hxi⟩ := W.idx_some (by rw [hr]; exact hr0)
    rw [hr] at hi
    subst hi
    have hil : i < n := by rw [← HT.out.1]; exact (List.getElem?_eq_some_iff.1 hx).1
    have hmay := W.may_iff.1 hp
    have HD : Hid (W.drop k l id = (l.take i ++ l.drop (i + 1), true)) := Lib.hid (by
      unfold W.drop
      have hh : W.has l id = true := by rw [← W.idx_has, hr]; exact decide_eq_true hr0
      rw [if_pos ⟨hp, hh⟩, ← hxi, W.drop_at hmay.2.2.2.2.2 hx])
    obtain ⟨g, c', hg⟩ := ownT_some HO6.out (by omega)
    simp only [Value.slice.injEq, true_and] at hg
    obtain ⟨rfl, rfl⟩ := hg
    have hdel := delete_any g n c2 i (i + 1) W1.heap.size l w6 HO6.out HT.out.1 hil rfl (by omega)
    rw [show ((i + 1 : Nat) : Int) = (i : Int) + 1 by omega] at hdel
    have hg2 := hgr g rfl
    have hgL : w3.heap.size ≠ g := fun e => ownT_ne HO6.out HL6.out (by decide) rfl e
    have dr : decide ((i : Int) < 0) = false := decide_eq_false (by omega)
    clear hr hx hmay hp
    go_wp2_with fail
    refine hdel.mono ?_
    rintro e w7 ⟨rfl, HO7, HG7⟩
    have HL7 := HL6.out.grown HG7.out (by simpa using hgL)
    have KR7 := KR6.out.grown HG7.out (by simp <;> omega)
    have HB7 := HB6.out.grown HG7.out HB6.out.size (fun j hj => by cases hj; omega)
    obtain ⟨HL8, G8⟩ := set21 HL7 (.slice (some ⟨g, 0, none⟩) (n - 1) c2)
    obtain ⟨w8, hw8⟩ : ∃ w8, w7.setCell ⟨w3.heap.size, 1, none⟩ (.slice (some ⟨g, 0, none⟩) (n - 1) c2) = w8 := ⟨_, rfl⟩
    rw [hw8] at HL8 G8
    have KR8 := KR7.grown G8 (by simp <;> omega)
    obtain ⟨KR9, G9⟩ := set2 KR8 (.int .i64 k) (.slice (some ⟨g, 0, none⟩) (n - 1) c2)
    obtain ⟨w9, hw9⟩ : ∃ w9, (w8.setCell ⟨w.heap.size + 1, 0, none⟩ (.int .i64 k)).setCell ⟨w.heap.size + 1, 1, none⟩ (.slice (some ⟨g, 0, none⟩) (n - 1) c2) = w9 := ⟨_, rfl⟩
    rw [hw9] at KR9 G9
    have HK9 := Lib.hid KR9
    have HB9 := Lib.hid ((HB7.grown G8 (Nat.le_trans HB6.out.size HG7.out.size) (fun j hj => by cases hj; omega)).grown G9 (Nat.le_trans (Nat.le_trans HB6.out.size HG7.out.size) G8.size) (fun j hj => by cases hj; omega))
    have hT9 : Hid (TIn w9 (some ⟨g, 0, none⟩) (n - 1) c2 (l.take i ++ l.drop (i + 1))) := Lib.hid (by
      have h9 := (HO7.out.kept G8 (.inr (by simp [Value.ownBlock] <;> omega))).kept G9 (.inr (by simp [Value.ownBlock] <;> omega))
      obtain ⟨a9, c9, he, ht⟩ := own_timers h9 (by have := HT.out.1; simp; omega)
      cases he
      exact ht)
    clear l0 l1 f1 z0 z1 g0 g1
    have l0 := HL7.b0
    have l1 := HL7.b1
    have f1 := HL7.frozen 1
    have m0 := HL8.b0
    have m1 := HL8.b1
    have z0 := KR8.b0
    have z1 := KR8.b1
    have g0 := KR8.frozen 0
    have g1 := KR8.frozen 1
    clear HL7 KR7 HB7 HL8 G8 KR8 KR9 G9 hdel
    go_wp2
    refine bodyPost_ret (ret_w2 rfl (w.heap.size + 1) (.int .i64 k) (.slice (some ⟨g, 0, none⟩) (n - 1) c2) (by kernel_rfl) rfl HK9.out) rfl ?_
    exact ⟨_, _, _, by rw [HD.out]; rfl, by rw [HD.out]; exact hT9, HB9.out⟩
  · have HD : Hid (W.drop k l id = (l, false)) := Lib.hid (by
      unfold W.drop
      rw [if_neg]
      rintro ⟨h1, h2⟩
      refine hok ⟨by rw [← hp]; exact h1, ?_⟩
      rw [← W.idx_has, hr] at h2
      exact of_decide_eq_true h2)
    obtain ⟨KR9, G9⟩ := set2 KR6.out (.int .i64 k) (.slice a2 n c2)
    obtain ⟨w9, hw9⟩ : ∃ w9, (w6.setCell ⟨w.heap.size + 1, 0, none⟩ (.int .i64 k)).setCell ⟨w.heap.size + 1, 1, none⟩ (.slice a2 n c2) = w9 := ⟨_, rfl⟩
    rw [hw9] at KR9 G9
    have HK9 := Lib.hid KR9
    have HB9 := Lib.hid (HB6.out.grown G9 HB6.out.size (fun j hj => by cases hj; omega))
    have hT9 : Hid (TIn w9 a2 n c2 l) := Lib.hid (by
      have h9 := HO6.out.kept G9 (.inr (fun e => by have := hgr _ e; omega))
      obtain ⟨a9, c9, he, ht⟩ := own_timers h9 HT.out.1
      cases he
      exact ht)
    clear KR9 G9 hr hp
    cases p with
    | false =>
      go_wp2
      refine bodyPost_ret (ret_w2 rfl (w.heap.size + 1) (.int .i64 k) (.slice a2 n c2) (by kernel_rfl) rfl HK9.out) rfl ?_
      exact ⟨_, _, _, by rw [HD.out]; rfl, by rw [HD.out]; exact hT9, HB9.out⟩
    | true =>
      have dr : decide (r < 0) = true := decide_eq_true (by have : ¬ 0 ≤ r := fun h => hok ⟨rfl, h⟩; omega)
      go_wp2
      refine bodyPost_ret (ret_w2 rfl (w.heap.size + 1) (.int .i64 k) (.slice a2 n c2) (by kernel_rfl) rfl HK9.out) rfl ?_
      exact ⟨_, _, _, by rw [HD.out]; rfl, by rw [HD.out]; exact hT9, HB9.out⟩
end Go.Proofs.Ytmegkfonodcoiaa
