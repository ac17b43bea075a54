/-
  The document's numbers of an event.
-/
import Derived.Test.YtebiogadkamgcaaNNums
namespace Go.Proofs.Ytebiogadkamgcaa
open Go.RowKit
set_option maxRecDepth 100000 in
set_option maxHeartbeats 400000 in
theorem refNumbers_0 (t a b c q i z : Int) (pr : Bool) (he : N.May ⟨0, t, a, b, c, ⟨q, i, z, pr⟩⟩) (w : World) :
    Calls Try.prog 22 #[.agg #[.int .i64 0, .int .i64 t, .int .i64 a, .int .i64 b, .int .i64 c, .int .i64 q, .int .i64 i, .int .i64 z, .bool pr]] w (N.NumsIs w (N.nums ⟨0, t, a, b, c, ⟨q, i, z, pr⟩⟩)) := by
  obtain ⟨w1, hw1, hb, hk⟩ := Zn w 34 #[.int .i64 0, .int .i64 t, .int .i64 a, .int .i64 b, .int .i64 c, .int .i64 q, .int .i64 i, .int .i64 z, .bool pr]
  have HB1 := Lib.hid hb
  have hs : w1.heap.size = w.heap.size + 1 := by rw [← hw1]; simp
  have c0 := Zv hk 0 (.int .i64 0)
  have c2 := Zv hk 2 (.int .i64 a)
  have c3 := Zv hk 3 (.int .i64 b)
  have c4 := Zv hk 4 (.int .i64 c)
  have HN := Lib.hid (N.nums_isn he)
  have hm := he.2
  simp only at hm
  have HQ : Hid (N.nums ⟨0, t, a, b, c, ⟨q, i, z, pr⟩⟩ = [32 * a + 8 * b + c]) := Lib.hid (by rw [N.nums01 (by simp)])
  rw [HQ.out] at HN ⊢
  have x1 : wrap64 (32 * a) = 32 * a := IntWalk.wrap64_in _ ⟨by omega, by omega⟩
  have x2 : wrap64 (8 * b) = 8 * b := IntWalk.wrap64_in _ ⟨by omega, by omega⟩
  have x3 : wrap64 (32 * a + 8 * b) = 32 * a + 8 * b := IntWalk.wrap64_in _ ⟨by omega, by omega⟩
  have x4 : wrap64 (32 * a + 8 * b + c) = 32 * a + 8 * b + c := IntWalk.wrap64_in _ ⟨by omega, by omega⟩
  clear hb he hm
  go_enter Try.func22, Try.ntmps22
  go_wp2_with fail
  go_ret
  have hh := N.nums_is (w := w) (Blok.new w1 3 #[.int .i64 (32 * a + 8 * b + c)]) HN.out (by simp) (below_alloc' HB1.out _)
  rw [hs] at hh
  exact hh
set_option maxRecDepth 100000 in
set_option maxHeartbeats 400000 in
theorem refNumbers_1 (t a b c q i z : Int) (pr : Bool) (he : N.May ⟨1, t, a, b, c, ⟨q, i, z, pr⟩⟩) (w : World) :
    Calls Try.prog 22 #[.agg #[.int .i64 1, .int .i64 t, .int .i64 a, .int .i64 b, .int .i64 c, .int .i64 q, .int .i64 i, .int .i64 z, .bool pr]] w (N.NumsIs w (N.nums ⟨1, t, a, b, c, ⟨q, i, z, pr⟩⟩)) := by
  obtain ⟨w1, hw1, hb, hk⟩ := Zn w 34 #[.int .i64 1, .int .i64 t, .int .i64 a, .int .i64 b, .int .i64 c, .int .i64 q, .int .i64 i, .int .i64 z, .bool pr]
  have HB1 := Lib.hid hb
  have hs : w1.heap.size = w.heap.size + 1 := by rw [← hw1]; simp
  have c0 := Zv hk 0 (.int .i64 1)
  have c2 := Zv hk 2 (.int .i64 a)
  have c3 := Zv hk 3 (.int .i64 b)
  have c4 := Zv hk 4 (.int .i64 c)
  have HN := Lib.hid (N.nums_isn he)
  have hm := he.2
  simp only at hm
  have HQ : Hid (N.nums ⟨1, t, a, b, c, ⟨q, i, z, pr⟩⟩ = [32 * a + 8 * b + c]) := Lib.hid (by rw [N.nums01 (by simp)])
  rw [HQ.out] at HN ⊢
  have x1 : wrap64 (32 * a) = 32 * a := IntWalk.wrap64_in _ ⟨by omega, by omega⟩
  have x2 : wrap64 (8 * b) = 8 * b := IntWalk.wrap64_in _ ⟨by omega, by omega⟩
  have x3 : wrap64 (32 * a + 8 * b) = 32 * a + 8 * b := IntWalk.wrap64_in _ ⟨by omega, by omega⟩
  have x4 : wrap64 (32 * a + 8 * b + c) = 32 * a + 8 * b + c := IntWalk.wrap64_in _ ⟨by omega, by omega⟩
  clear hb he hm
  go_enter Try.func22, Try.ntmps22
  go_wp2_with fail
  go_ret
  have hh := N.nums_is (w := w) (Blok.new w1 3 #[.int .i64 (32 * a + 8 * b + c)]) HN.out (by simp) (below_alloc' HB1.out _)
  rw [hs] at hh
  exact hh
set_option maxRecDepth 100000 in
set_option maxHeartbeats 400000 in
theorem refNumbers_2 (t a b c q i z : Int) (pr : Bool) (he : N.May ⟨2, t, a, b, c, ⟨q, i, z, pr⟩⟩) (w : World) :
    Calls Try.prog 22 #[.agg #[.int .i64 2, .int .i64 t, .int .i64 a, .int .i64 b, .int .i64 c, .int .i64 q, .int .i64 i, .int .i64 z, .bool pr]] w (N.NumsIs w (N.nums ⟨2, t, a, b, c, ⟨q, i, z, pr⟩⟩)) := by
  obtain ⟨w1, hw1, hb, hk⟩ := Zn w 34 #[.int .i64 2, .int .i64 t, .int .i64 a, .int .i64 b, .int .i64 c, .int .i64 q, .int .i64 i, .int .i64 z, .bool pr]
  have HB1 := Lib.hid hb
  have hs : w1.heap.size = w.heap.size + 1 := by rw [← hw1]; simp
  have c0 := Zv hk 0 (.int .i64 2)
  have c2 := Zv hk 2 (.int .i64 a)
  have c3 := Zv hk 3 (.int .i64 b)
  have HN := Lib.hid (N.nums_isn he)
  have hm := he.2
  simp only at hm
  have HQ : Hid (N.nums ⟨2, t, a, b, c, ⟨q, i, z, pr⟩⟩ = [8 * a + b]) := Lib.hid (by rw [N.nums24 (by simp)])
  rw [HQ.out] at HN ⊢
  have x1 : wrap64 (8 * a) = 8 * a := IntWalk.wrap64_in _ ⟨by omega, by omega⟩
  have x3 : wrap64 (8 * a + b) = 8 * a + b := IntWalk.wrap64_in _ ⟨by omega, by omega⟩
  clear hb he hm
  go_enter Try.func22, Try.ntmps22
  go_wp2_with fail
  go_ret
  have hh := N.nums_is (w := w) (Blok.new w1 3 #[.int .i64 (8 * a + b)]) HN.out (by simp) (below_alloc' HB1.out _)
  rw [hs] at hh
  exact hh
set_option maxRecDepth 100000 in
set_option maxHeartbeats 400000 in
theorem refNumbers_4 (t a b c q i z : Int) (pr : Bool) (he : N.May ⟨4, t, a, b, c, ⟨q, i, z, pr⟩⟩) (w : World) :
    Calls Try.prog 22 #[.agg #[.int .i64 4, .int .i64 t, .int .i64 a, .int .i64 b, .int .i64 c, .int .i64 q, .int .i64 i, .int .i64 z, .bool pr]] w (N.NumsIs w (N.nums ⟨4, t, a, b, c, ⟨q, i, z, pr⟩⟩)) := by
  obtain ⟨w1, hw1, hb, hk⟩ := Zn w 34 #[.int .i64 4, .int .i64 t, .int .i64 a, .int .i64 b, .int .i64 c, .int .i64 q, .int .i64 i, .int .i64 z, .bool pr]
  have HB1 := Lib.hid hb
  have hs : w1.heap.size = w.heap.size + 1 := by rw [← hw1]; simp
  have c0 := Zv hk 0 (.int .i64 4)
  have c2 := Zv hk 2 (.int .i64 a)
  have c3 := Zv hk 3 (.int .i64 b)
  have HN := Lib.hid (N.nums_isn he)
  have hm := he.2
  simp only at hm
  have HQ : Hid (N.nums ⟨4, t, a, b, c, ⟨q, i, z, pr⟩⟩ = [8 * a + b]) := Lib.hid (by rw [N.nums24 (by simp)])
  rw [HQ.out] at HN ⊢
  have x1 : wrap64 (8 * a) = 8 * a := IntWalk.wrap64_in _ ⟨by omega, by omega⟩
  have x3 : wrap64 (8 * a + b) = 8 * a + b := IntWalk.wrap64_in _ ⟨by omega, by omega⟩
  clear hb he hm
  go_enter Try.func22, Try.ntmps22
  go_wp2_with fail
  go_ret
  have hh := N.nums_is (w := w) (Blok.new w1 3 #[.int .i64 (8 * a + b)]) HN.out (by simp) (below_alloc' HB1.out _)
  rw [hs] at hh
  exact hh
set_option maxRecDepth 100000 in
set_option maxHeartbeats 400000 in
theorem refNumbers_3 (t a b c q i z : Int) (pr : Bool) (he : N.May ⟨3, t, a, b, c, ⟨q, i, z, pr⟩⟩) (w : World) :
    Calls Try.prog 22 #[.agg #[.int .i64 3, .int .i64 t, .int .i64 a, .int .i64 b, .int .i64 c, .int .i64 q, .int .i64 i, .int .i64 z, .bool pr]] w (N.NumsIs w (N.nums ⟨3, t, a, b, c, ⟨q, i, z, pr⟩⟩)) := by
  obtain ⟨w1, hw1, hb, hk⟩ := Zn w 34 #[.int .i64 3, .int .i64 t, .int .i64 a, .int .i64 b, .int .i64 c, .int .i64 q, .int .i64 i, .int .i64 z, .bool pr]
  have HB1 := Lib.hid hb
  have hs : w1.heap.size = w.heap.size + 1 := by rw [← hw1]; simp
  have c0 := Zv hk 0 (.int .i64 3)
  have c2 := Zv hk 2 (.int .i64 a)
  have HN := Lib.hid (N.nums_isn he)
  have hm := he.2
  simp only at hm
  have HQ : Hid (N.nums ⟨3, t, a, b, c, ⟨q, i, z, pr⟩⟩ = [a]) := Lib.hid (by rw [N.nums35 (by simp)])
  rw [HQ.out] at HN ⊢
  clear hb he hm
  go_enter Try.func22, Try.ntmps22
  go_wp2_with fail
  go_ret
  have hh := N.nums_is (w := w) (Blok.new w1 3 #[.int .i64 a]) HN.out (by simp) (below_alloc' HB1.out _)
  rw [hs] at hh
  exact hh
set_option maxRecDepth 100000 in
set_option maxHeartbeats 400000 in
theorem refNumbers_5 (t a b c q i z : Int) (pr : Bool) (he : N.May ⟨5, t, a, b, c, ⟨q, i, z, pr⟩⟩) (w : World) :
    Calls Try.prog 22 #[.agg #[.int .i64 5, .int .i64 t, .int .i64 a, .int .i64 b, .int .i64 c, .int .i64 q, .int .i64 i, .int .i64 z, .bool pr]] w (N.NumsIs w (N.nums ⟨5, t, a, b, c, ⟨q, i, z, pr⟩⟩)) := by
  obtain ⟨w1, hw1, hb, hk⟩ := Zn w 34 #[.int .i64 5, .int .i64 t, .int .i64 a, .int .i64 b, .int .i64 c, .int .i64 q, .int .i64 i, .int .i64 z, .bool pr]
  have HB1 := Lib.hid hb
  have hs : w1.heap.size = w.heap.size + 1 := by rw [← hw1]; simp
  have c0 := Zv hk 0 (.int .i64 5)
  have c2 := Zv hk 2 (.int .i64 a)
  have HN := Lib.hid (N.nums_isn he)
  have hm := he.2
  simp only at hm
  have HQ : Hid (N.nums ⟨5, t, a, b, c, ⟨q, i, z, pr⟩⟩ = [a]) := Lib.hid (by rw [N.nums35 (by simp)])
  rw [HQ.out] at HN ⊢
  clear hb he hm
  go_enter Try.func22, Try.ntmps22
  go_wp2_with fail
  go_ret
  have hh := N.nums_is (w := w) (Blok.new w1 3 #[.int .i64 a]) HN.out (by simp) (below_alloc' HB1.out _)
  rw [hs] at hh
  exact hh
set_option maxRecDepth 100000 in
set_option maxHeartbeats 400000 in
theorem refNumbers_6 (t a b c q i z : Int) (pr : Bool) (he : N.May ⟨6, t, a, b, c, ⟨q, i, z, pr⟩⟩) (w : World) :
    Calls Try.prog 22 #[.agg #[.int .i64 6, .int .i64 t, .int .i64 a, .int .i64 b, .int .i64 c, .int .i64 q, .int .i64 i, .int .i64 z, .bool pr]] w (N.NumsIs w (N.nums ⟨6, t, a, b, c, ⟨q, i, z, pr⟩⟩)) := by
  obtain ⟨w1, hw1, hb, hk⟩ := Zn w 34 #[.int .i64 6, .int .i64 t, .int .i64 a, .int .i64 b, .int .i64 c, .int .i64 q, .int .i64 i, .int .i64 z, .bool pr]
  have HB1 := Lib.hid hb
  have hs : w1.heap.size = w.heap.size + 1 := by rw [← hw1]; simp
  have c0 := Zv hk 0 (.int .i64 6)
  have c5 := Zv hk 5 (.int .i64 q)
  have c6 := Zv hk 6 (.int .i64 i)
  have c7 := Zv hk 7 (.int .i64 z)
  have c8 := Zv hk 8 (.bool pr)
  have HN := Lib.hid (N.nums_isn he)
  have hm := he.2
  simp only at hm
  have HQ : Hid (N.nums ⟨6, t, a, b, c, ⟨q, i, z, pr⟩⟩ = [q, i, z, if pr = true then 1 else 0]) := Lib.hid (by rw [N.nums6 rfl])
  rw [HQ.out] at HN ⊢
  clear hb he hm
  go_enter Try.func22, Try.ntmps22
  cases pr with
  | false =>
    go_wp2_with fail
    go_ret
    have hh := N.nums_is (w := w) (l := [q, i, z, if false = true then 1 else 0]) (Blok.new w1 3 #[.int .i64 q, .int .i64 i, .int .i64 z, .int .i64 0]) HN.out (by simp) (below_alloc' HB1.out _)
    rw [hs] at hh
    exact hh
  | true =>
    go_wp2_with fail
    go_ret
    have hh := N.nums_is (w := w) (l := [q, i, z, if true = true then 1 else 0]) (Blok.new w1 3 #[.int .i64 q, .int .i64 i, .int .i64 z, .int .i64 1]) HN.out (by simp) (below_alloc' HB1.out _)
    rw [hs] at hh
    exact hh
theorem refNumbers_any (e : Y.Ev) (he : N.May e) (w : World) : Calls Try.prog 22 #[.agg (N.ecs e)] w (N.NumsIs w (N.nums e)) := by
  have hk := he.kind
  obtain ⟨k, t, a, b, c, ⟨q, i, z, pr⟩⟩ := e
  simp only at hk
  have h7 : k = 0 ∨ k = 1 ∨ k = 2 ∨ k = 3 ∨ k = 4 ∨ k = 5 ∨ k = 6 := by omega
  rcases h7 with rfl | rfl | rfl | rfl | rfl | rfl | rfl
  · exact refNumbers_0 t a b c q i z pr he w
  · exact refNumbers_1 t a b c q i z pr he w
  · exact refNumbers_2 t a b c q i z pr he w
  · exact refNumbers_3 t a b c q i z pr he w
  · exact refNumbers_4 t a b c q i z pr he w
  · exact refNumbers_5 t a b c q i z pr he w
  · exact refNumbers_6 t a b c q i z pr he w
end Go.Proofs.Ytebiogadkamgcaa
