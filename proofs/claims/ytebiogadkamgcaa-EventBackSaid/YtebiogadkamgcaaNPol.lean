/-
  What reads events: policy.
-/
import Derived.Test.YtebiogadkamgcaaNGet
namespace Go.Proofs.Ytebiogadkamgcaa
open Go.RowKit
theorem N.tails {L : List Int} (h : ∀ x ∈ L, M.isn x) : (∀ x ∈ L.tail, M.isn x) ∧ (∀ x ∈ L.tail.tail, M.isn x) ∧ (∀ x ∈ L.tail.tail.tail, M.isn x) := ⟨N.tail_isn h, N.tail_isn (N.tail_isn h), N.tail_isn (N.tail_isn (N.tail_isn h))⟩
set_option maxRecDepth 100000 in
set_option maxHeartbeats 400000 in
theorem rdPolicy_any (g r : Nat) (L : List Int) (n0 n1 n2 n3 : Int) (w : World) (h0 : L.headD 0 = n0) (h1 : L.tail.headD 0 = n1) (h2 : L.tail.tail.headD 0 = n2) (h3 : L.tail.tail.tail.headD 0 = n3) (h : N.Left w g r L) (hL : L.length ≤ 1000) (hg : g < w.heap.size) (hr : r < w.heap.size) :
    Calls Try.prog 46 #[.pointer (some ⟨g, 0, none⟩)] w (N.Got w g r ⟨0, 0, 0, 0, 0, ⟨n0, n1, n2, decide (n3 = 1)⟩⟩ L.tail.tail.tail.tail) := by
  obtain ⟨w1, hw1, hb, hk⟩ := Zn w 34 #[.int .i64 0, .int .i64 0, .int .i64 0, .int .i64 0, .int .i64 0, .int .i64 0, .int .i64 0, .int .i64 0, .bool false]
  have HB1 := Lib.hid hb
  have KR1 := Lib.hid hk
  have HL1 := Lib.hid (h.below hb)
  have e1 : w1.heap.size = w.heap.size + 1 := by rw [← hw1]; simp
  clear hb hk h
  obtain ⟨w2, hw2, hb, hk⟩ := Zn w1 58 #[.int .i64 0, .int .i64 0, .int .i64 0, .int .i64 0]
  rw [e1] at hk
  have HB2 := Zt HB1 hb
  have KR2 := Zk KR1 hb
  have KN2 := Lib.hid hk
  have HL2 := Lib.hid (HL1.out.below hb)
  have HG2 : Hid (w.grownBy w2 (some g)) := Lib.hid ⟨HB2.out.os, HB2.out.tape, HB2.out.output, HB2.out.size, fun i hi _ => HB2.out.block i hi⟩
  have H0 := Lib.hid h0
  have H1 := Lib.hid h1
  have H2 := Lib.hid h2
  have H3 := Lib.hid h3
  clear hb hk h0 h1 h2 h3
  go_enter Try.func46, Try.ntmps46
  go_wp2_with fail
  refine wp_loop_rounds 5 ?_
  rw [rounds_succ]
  go_wp2_with fail
  refine (next_any g r (L) w2 HL2.out (by first | exact hL | (simp; omega))).mono ?_
  rintro e w3 ⟨rfl, hl, hgr⟩
  rw [H0.out]
  have KN3 := Lib.hid (KN2.out.grown hgr (by simp; omega))
  have KR3 := Lib.hid (KR2.out.grown hgr (by simp; omega))
  obtain ⟨w4, hw4⟩ : ∃ W, w3.setCell ⟨w.heap.size + 1, 0, none⟩ (.int .i64 n0) = W := ⟨_, rfl⟩
  have hs : w3.grownBy w4 (some (w.heap.size + 1)) := by rw [← hw4]; exact grown_set1 _ _ _ _
  have HG4 : Hid (w.grownBy w4 (some g)) := Lib.hid (N.grown2 (N.grown_tr HG2.out hgr) hs (by omega))
  have HL4 := Lib.hid (hl.kept hs (by omega) (by omega))
  have KR4 := Lib.hid (KR3.out.grown hs (by simp))
  have KN4 : Hid (Blok w4 (w.heap.size + 1) 58 #[.int .i64 n0, .int .i64 0, .int .i64 0, .int .i64 0]) := Lib.hid (by rw [← hw4]; simpa using KN3.out.set 0 (.int .i64 n0))
  have q := Zv KN3.out 0 (.int .i64 0)
  have z := KN3.out.frozen 0
  clear hl hgr hs
  go_wp2_with fail
  clear q z hw4
  rw [rounds_succ]
  go_wp2_with fail
  refine (next_any g r (L.tail) w4 HL4.out (by first | exact hL | (simp; omega))).mono ?_
  rintro e w5 ⟨rfl, hl, hgr⟩
  rw [H1.out]
  have KN5 := Lib.hid (KN4.out.grown hgr (by simp; omega))
  have KR5 := Lib.hid (KR4.out.grown hgr (by simp; omega))
  obtain ⟨w6, hw6⟩ : ∃ W, w5.setCell ⟨w.heap.size + 1, 1, none⟩ (.int .i64 n1) = W := ⟨_, rfl⟩
  have hs : w5.grownBy w6 (some (w.heap.size + 1)) := by rw [← hw6]; exact grown_set1 _ _ _ _
  have HG6 : Hid (w.grownBy w6 (some g)) := Lib.hid (N.grown2 (N.grown_tr HG4.out hgr) hs (by omega))
  have HL6 := Lib.hid (hl.kept hs (by omega) (by omega))
  have KR6 := Lib.hid (KR5.out.grown hs (by simp))
  have KN6 : Hid (Blok w6 (w.heap.size + 1) 58 #[.int .i64 n0, .int .i64 n1, .int .i64 0, .int .i64 0]) := Lib.hid (by rw [← hw6]; simpa using KN5.out.set 1 (.int .i64 n1))
  have q := Zv KN5.out 1 (.int .i64 0)
  have z := KN5.out.frozen 1
  clear hl hgr hs
  go_wp2_with fail
  clear q z hw6
  rw [rounds_succ]
  go_wp2_with fail
  refine (next_any g r (L.tail.tail) w6 HL6.out (by first | exact hL | (simp; omega))).mono ?_
  rintro e w7 ⟨rfl, hl, hgr⟩
  rw [H2.out]
  have KN7 := Lib.hid (KN6.out.grown hgr (by simp; omega))
  have KR7 := Lib.hid (KR6.out.grown hgr (by simp; omega))
  obtain ⟨w8, hw8⟩ : ∃ W, w7.setCell ⟨w.heap.size + 1, 2, none⟩ (.int .i64 n2) = W := ⟨_, rfl⟩
  have hs : w7.grownBy w8 (some (w.heap.size + 1)) := by rw [← hw8]; exact grown_set1 _ _ _ _
  have HG8 : Hid (w.grownBy w8 (some g)) := Lib.hid (N.grown2 (N.grown_tr HG6.out hgr) hs (by omega))
  have HL8 := Lib.hid (hl.kept hs (by omega) (by omega))
  have KR8 := Lib.hid (KR7.out.grown hs (by simp))
  have KN8 : Hid (Blok w8 (w.heap.size + 1) 58 #[.int .i64 n0, .int .i64 n1, .int .i64 n2, .int .i64 0]) := Lib.hid (by rw [← hw8]; simpa using KN7.out.set 2 (.int .i64 n2))
  have q := Zv KN7.out 2 (.int .i64 0)
  have z := KN7.out.frozen 2
  clear hl hgr hs
  go_wp2_with fail
  clear q z hw8
  rw [rounds_succ]
  go_wp2_with fail
  refine (next_any g r (L.tail.tail.tail) w8 HL8.out (by first | exact hL | (simp; omega))).mono ?_
  rintro e w9 ⟨rfl, hl, hgr⟩
  rw [H3.out]
  have KN9 := Lib.hid (KN8.out.grown hgr (by simp; omega))
  have KR9 := Lib.hid (KR8.out.grown hgr (by simp; omega))
  obtain ⟨w10, hw10⟩ : ∃ W, w9.setCell ⟨w.heap.size + 1, 3, none⟩ (.int .i64 n3) = W := ⟨_, rfl⟩
  have hs : w9.grownBy w10 (some (w.heap.size + 1)) := by rw [← hw10]; exact grown_set1 _ _ _ _
  have HG10 : Hid (w.grownBy w10 (some g)) := Lib.hid (N.grown2 (N.grown_tr HG8.out hgr) hs (by omega))
  have HL10 := Lib.hid (hl.kept hs (by omega) (by omega))
  have KR10 := Lib.hid (KR9.out.grown hs (by simp))
  have KN10 : Hid (Blok w10 (w.heap.size + 1) 58 #[.int .i64 n0, .int .i64 n1, .int .i64 n2, .int .i64 n3]) := Lib.hid (by rw [← hw10]; simpa using KN9.out.set 3 (.int .i64 n3))
  have q := Zv KN9.out 3 (.int .i64 0)
  have z := KN9.out.frozen 3
  clear hl hgr hs
  go_wp2_with fail
  clear q z hw10
  have q0 := Zv KN10.out 0 (.int .i64 n0)
  have q1 := Zv KN10.out 1 (.int .i64 n1)
  have q2 := Zv KN10.out 2 (.int .i64 n2)
  have q3 := Zv KN10.out 3 (.int .i64 n3)
  obtain ⟨w11, hw11⟩ : ∃ W, w10.setRow w.heap.size #[.int .i64 0, .int .i64 0, .int .i64 0, .int .i64 0, .int .i64 0, .int .i64 n0, .int .i64 n1, .int .i64 n2, .bool (decide (n3 = 1))] = W := ⟨_, rfl⟩
  have HW := Lib.hid hw11
  clear hw11
  rw [rounds_succ]
  go_wp2_with (refine Zw KR10.out HW.out ?_)
  refine bodyPost_ret (ret_cell rfl w.heap.size #[.int .i64 0, .int .i64 0, .int .i64 0, .int .i64 0, .int .i64 0, .int .i64 n0, .int .i64 n1, .int .i64 n2, .bool (decide (n3 = 1))] (by kernel_rfl) (by rw [← HW.out]; exact KR10.out.put _) Try.underlying34 rfl (by kernel_rfl)) (by kernel_rfl) ?_
  have hp : w10.grownBy w11 (some w.heap.size) := by rw [← HW.out]; exact grown_put w10 w.heap.size _
  exact ⟨rfl, HL10.out.kept hp (by omega) (by omega), N.grown2 HG10.out hp (Nat.le_refl _)⟩
end Go.Proofs.Ytebiogadkamgcaa
