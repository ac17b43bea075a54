/-
  What reads events: block, span, pool.
-/
import Derived.Test.YtebiogadkamgcaaNNext
import Derived.Test.YtebiogadkamgcaaNMay
namespace Go.Proofs.Ytebiogadkamgcaa
open Go.RowKit
/-- What a way of reading returns: an event, what is left. -/
def N.Got (w : World) (g r : Nat) (e : Y.Ev) (L : List Int) (x : Ending) (w' : World) : Prop := x = .returned (.agg (N.ecs e)) ∧ N.Left w' g r L ∧ w.grownBy w' (some g)
theorem N.head_isn {L : List Int} (h : ∀ x ∈ L, M.isn x) : M.isn (L.headD 0) := by
  cases L with
  | nil => exact ⟨by decide, by decide⟩
  | cons x L => exact h x (by simp)
theorem N.tail_isn {L : List Int} (h : ∀ x ∈ L, M.isn x) : ∀ x ∈ L.tail, M.isn x := fun x hx => h x (List.mem_of_mem_tail hx)
theorem N.grown_tr {w w1 w2 : World} {g : Nat} (h1 : w.grownBy w1 (some g)) (h2 : w1.grownBy w2 (some g)) : w.grownBy w2 (some g) :=
  ⟨h2.os.trans h1.os, h2.tape.trans h1.tape, h2.output.trans h1.output, Nat.le_trans h1.size h2.size, fun i hi hr => (h2.block i (Nat.lt_of_lt_of_le hi h1.size) hr).trans (h1.block i hi hr)⟩
theorem N.grown2 {w w1 w2 : World} {g b : Nat} (h1 : w.grownBy w1 (some g)) (h2 : w1.grownBy w2 (some b)) (hb : w.heap.size ≤ b) : w.grownBy w2 (some g) :=
  ⟨h2.os.trans h1.os, h2.tape.trans h1.tape, h2.output.trans h1.output, Nat.le_trans h1.size h2.size, fun i hi hr => (h2.block i (Nat.lt_of_lt_of_le hi h1.size) (by simp; omega)).trans (h1.block i hi hr)⟩
theorem N.grown_below {w w1 : World} (h : Below w.heap.size w w1) (g : Nat) : w.grownBy w1 (some g) := ⟨h.os, h.tape, h.output, h.size, fun i hi _ => h.block i hi⟩
set_option maxRecDepth 100000 in
set_option maxHeartbeats 400000 in
theorem rdPool_any (g r : Nat) (L : List Int) (n : Int) (w : World) (hn : L.headD 0 = n) (h : N.Left w g r L) (hL : L.length ≤ 1000) (hi : ∀ x ∈ L, M.isn x) (hg : g < w.heap.size) (hr : r < w.heap.size) :
    Calls Try.prog 45 #[.pointer (some ⟨g, 0, none⟩)] w (N.Got w g r ⟨0, 0, n, 0, 0, Y.zp⟩ L.tail) := by
  obtain ⟨w1, hw1, hb, hk⟩ := Zn w 34 #[.int .i64 0, .int .i64 0, .int .i64 0, .int .i64 0, .int .i64 0, .int .i64 0, .int .i64 0, .int .i64 0, .bool false]
  have HB1 := Lib.hid hb
  have KR1 := Lib.hid hk
  have HL1 := Lib.hid (h.below hb)
  have hs := N.head_isn hi
  rw [hn] at hs
  obtain ⟨n0, n1⟩ := hs
  have HN := Lib.hid hn
  clear hb hk h hi hn
  go_enter Try.func45, Try.ntmps45
  go_wp2_with fail
  refine (next_any g r L w1 HL1.out hL).mono ?_
  rintro e w2 ⟨rfl, hl, hgr⟩
  rw [HN.out]
  have HL2 := Lib.hid hl
  have HG2 := Lib.hid hgr
  have KR2 := Lib.hid (KR1.out.grown hgr (by simp; omega))
  obtain ⟨w3, hw3⟩ : ∃ W, w2.setRow w.heap.size #[.int .i64 0, .int .i64 0, .int .i64 n, .int .i64 0, .int .i64 0, .int .i64 0, .int .i64 0, .int .i64 0, .bool false] = W := ⟨_, rfl⟩
  have HW3 := Lib.hid hw3
  clear hl hgr hw1 hw3
  go_wp2_with (refine Zw KR2.out HW3.out ?_)
  refine bodyPost_ret (ret_cell rfl w.heap.size #[.int .i64 0, .int .i64 0, .int .i64 n, .int .i64 0, .int .i64 0, .int .i64 0, .int .i64 0, .int .i64 0, .bool false] (by kernel_rfl) (by rw [← HW3.out]; exact KR2.out.put _) Try.underlying34 rfl (by kernel_rfl)) (by kernel_rfl) ?_
  refine ⟨rfl, ?_, N.grown2 (N.grown_tr (N.grown_below HB1.out g) HG2.out) (show w2.grownBy w3 (some w.heap.size) by rw [← HW3.out]; exact grown_put w2 w.heap.size _) (Nat.le_refl _)⟩
  exact HL2.out.kept (by rw [← HW3.out]; exact grown_put w2 w.heap.size _) (by omega) (by omega)
set_option maxRecDepth 100000 in
set_option maxHeartbeats 400000 in
theorem rdSpan_any (g r : Nat) (L : List Int) (n : Int) (w : World) (hn : L.headD 0 = n) (h : N.Left w g r L) (hL : L.length ≤ 1000) (hi : ∀ x ∈ L, M.isn x) (hg : g < w.heap.size) (hr : r < w.heap.size) :
    Calls Try.prog 44 #[.pointer (some ⟨g, 0, none⟩)] w (N.Got w g r ⟨0, 0, n / 8, n % 8, 0, Y.zp⟩ L.tail) := by
  obtain ⟨w1, hw1, hb, hk⟩ := Zn w 34 #[.int .i64 0, .int .i64 0, .int .i64 0, .int .i64 0, .int .i64 0, .int .i64 0, .int .i64 0, .int .i64 0, .bool false]
  have HB1 := Lib.hid hb
  have KR1 := Lib.hid hk
  have HL1 := Lib.hid (h.below hb)
  have hs := N.head_isn hi
  rw [hn] at hs
  obtain ⟨n0, n1⟩ := hs
  have HN := Lib.hid hn
  clear hb hk h hi hn
  go_enter Try.func44, Try.ntmps44
  go_wp2_with fail
  refine (next_any g r L w1 HL1.out hL).mono ?_
  rintro e w2 ⟨rfl, hl, hgr⟩
  rw [HN.out]
  have HL2 := Lib.hid hl
  have HG2 := Lib.hid hgr
  have KR2 := Lib.hid (KR1.out.grown hgr (by simp; omega))
  obtain ⟨w3, hw3⟩ : ∃ W, w2.setRow w.heap.size #[.int .i64 0, .int .i64 0, .int .i64 (n / 8), .int .i64 (n % 8), .int .i64 0, .int .i64 0, .int .i64 0, .int .i64 0, .bool false] = W := ⟨_, rfl⟩
  have HW3 := Lib.hid hw3
  clear hl hgr hw1 hw3
  go_wp2_with (refine Zw KR2.out HW3.out ?_)
  refine bodyPost_ret (ret_cell rfl w.heap.size #[.int .i64 0, .int .i64 0, .int .i64 (n / 8), .int .i64 (n % 8), .int .i64 0, .int .i64 0, .int .i64 0, .int .i64 0, .bool false] (by kernel_rfl) (by rw [← HW3.out]; exact KR2.out.put _) Try.underlying34 rfl (by kernel_rfl)) (by kernel_rfl) ?_
  refine ⟨rfl, ?_, N.grown2 (N.grown_tr (N.grown_below HB1.out g) HG2.out) (show w2.grownBy w3 (some w.heap.size) by rw [← HW3.out]; exact grown_put w2 w.heap.size _) (Nat.le_refl _)⟩
  exact HL2.out.kept (by rw [← HW3.out]; exact grown_put w2 w.heap.size _) (by omega) (by omega)
set_option maxRecDepth 100000 in
set_option maxHeartbeats 400000 in
theorem rdBlock_any (g r : Nat) (L : List Int) (n : Int) (w : World) (hn : L.headD 0 = n) (h : N.Left w g r L) (hL : L.length ≤ 1000) (hi : ∀ x ∈ L, M.isn x) (hg : g < w.heap.size) (hr : r < w.heap.size) :
    Calls Try.prog 43 #[.pointer (some ⟨g, 0, none⟩)] w (N.Got w g r ⟨0, 0, n / 32, n % 32 / 8, n % 8, Y.zp⟩ L.tail) := by
  obtain ⟨w1, hw1, hb, hk⟩ := Zn w 34 #[.int .i64 0, .int .i64 0, .int .i64 0, .int .i64 0, .int .i64 0, .int .i64 0, .int .i64 0, .int .i64 0, .bool false]
  have HB1 := Lib.hid hb
  have KR1 := Lib.hid hk
  have HL1 := Lib.hid (h.below hb)
  have hs := N.head_isn hi
  rw [hn] at hs
  obtain ⟨n0, n1⟩ := hs
  have HN := Lib.hid hn
  clear hb hk h hi hn
  go_enter Try.func43, Try.ntmps43
  go_wp2_with fail
  refine (next_any g r L w1 HL1.out hL).mono ?_
  rintro e w2 ⟨rfl, hl, hgr⟩
  rw [HN.out]
  have HL2 := Lib.hid hl
  have HG2 := Lib.hid hgr
  have KR2 := Lib.hid (KR1.out.grown hgr (by simp; omega))
  obtain ⟨w3, hw3⟩ : ∃ W, w2.setRow w.heap.size #[.int .i64 0, .int .i64 0, .int .i64 (n / 32), .int .i64 (n % 32 / 8), .int .i64 (n % 8), .int .i64 0, .int .i64 0, .int .i64 0, .bool false] = W := ⟨_, rfl⟩
  have HW3 := Lib.hid hw3
  clear hl hgr hw1 hw3
  go_wp2_with (refine Zw KR2.out HW3.out ?_)
  refine bodyPost_ret (ret_cell rfl w.heap.size #[.int .i64 0, .int .i64 0, .int .i64 (n / 32), .int .i64 (n % 32 / 8), .int .i64 (n % 8), .int .i64 0, .int .i64 0, .int .i64 0, .bool false] (by kernel_rfl) (by rw [← HW3.out]; exact KR2.out.put _) Try.underlying34 rfl (by kernel_rfl)) (by kernel_rfl) ?_
  refine ⟨rfl, ?_, N.grown2 (N.grown_tr (N.grown_below HB1.out g) HG2.out) (show w2.grownBy w3 (some w.heap.size) by rw [← HW3.out]; exact grown_put w2 w.heap.size _) (Nat.le_refl _)⟩
  exact HL2.out.kept (by rw [← HW3.out]; exact grown_put w2 w.heap.size _) (by omega) (by omega)
end Go.Proofs.Ytebiogadkamgcaa
