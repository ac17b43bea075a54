/-
  What reads events: one event.
-/
import Derived.Test.YtebiogadkamgcaaNPol
namespace Go.Proofs.Ytebiogadkamgcaa
open Go.RowKit
set_option maxRecDepth 100000 in
theorem ways_any (w : World) : Calls Try.prog 39 #[] w fun e w' => e = .returned (.slice (some ⟨w.heap.size, 0, none⟩) 7 7) ∧ Blok w' w.heap.size 65 #[.func (.func 43) #[] #[], .func (.func 43) #[] #[], .func (.func 44) #[] #[], .func (.func 45) #[] #[], .func (.func 44) #[] #[], .func (.func 45) #[] #[], .func (.func 46) #[] #[]] ∧ Below w.heap.size w w' := by
  go_enter Try.func39, Try.ntmps39
  go_wp2_with fail
  go_ret
  exact ⟨rfl, Blok.new w _ _, (Below.refl _ w).alloc (Nat.le_refl _) _⟩
set_option maxRecDepth 100000 in
set_option maxHeartbeats 600000 in
theorem rdEvent_0 (g r : Nat) (L : List Int) (t h n : Int) (w : World) (hh : L.headD 0 = h) (hk : h % 16 = 0) (hn : L.tail.headD 0 = n) (hl : N.Left w g r L) (hL : L.length ≤ 1000) (hi : ∀ x ∈ L, M.isn x) (hg : g < w.heap.size) (hr : r < w.heap.size) :
    Calls Try.prog 25 #[.pointer (some ⟨g, 0, none⟩), .int .i64 t] w (N.Got w g r ⟨0, Go.RowKit.wrap64 (t + h / 16), n / 32, n % 32 / 8, n % 8, Y.zp⟩ L.tail.tail) := by
  obtain ⟨w1, hw1, hb, hkk⟩ := Zn w 34 #[.int .i64 0, .int .i64 0, .int .i64 0, .int .i64 0, .int .i64 0, .int .i64 0, .int .i64 0, .int .i64 0, .bool false]
  have HG1 := Lib.hid (N.grown_below hb g)
  have KR1 := Lib.hid hkk
  have HL1 := Lib.hid (hl.below hb)
  have hs := N.head_isn hi
  rw [hh] at hs
  obtain ⟨n0, n1⟩ := hs
  have HI := Lib.hid (N.tail_isn hi)
  have HH := Lib.hid hh
  skip
  have HN := Lib.hid hn
  clear hb hkk hl hh hi hn
  go_enter Try.func25, Try.ntmps25
  go_wp2_with fail
  refine (next_any g r L w1 HL1.out hL).mono ?_
  rintro e w2 ⟨rfl, hl2, hg2⟩
  rw [HH.out]
  have HL2 := Lib.hid hl2
  have HG2 := Lib.hid (N.grown_tr HG1.out hg2)
  have KR2 := Lib.hid (KR1.out.grown hg2 (by simp; omega))
  have sz2 := KR2.out.lt
  clear hl2 hg2 hw1
  obtain ⟨w3, hw3, hb, hkk⟩ := Zn w2 34 #[.int .i64 0, .int .i64 0, .int .i64 0, .int .i64 0, .int .i64 0, .int .i64 0, .int .i64 0, .int .i64 0, .bool false]
  have HG3 := Lib.hid (N.grown_tr HG2.out (N.grown_below hb g))
  have KR3 := Zk KR2 hb
  have KE3 := Lib.hid hkk
  have HL3 := Lib.hid (HL2.out.below hb)
  have sz3 := KE3.out.lt
  clear hb hkk
  go_wp2_with fail
  refine (ways_any w3).mono ?_
  rintro e w4 ⟨rfl, hf, hb⟩
  have HG4 := Lib.hid (N.grown_tr HG3.out (N.grown_below hb g))
  have KR4 := Zk KR3 hb
  have KE4 := Zk KE3 hb
  have HL4 := Lib.hid (HL3.out.below hb)
  have p0 := Zv hf 0 (.func (.func 43) #[] #[])
  have sz4 := hf.lt
  clear hf hb
  go_wp2_with fail
  refine (rdBlock_any g r L.tail n w4 HN.out HL4.out (by simp; omega) HI.out (by omega) (by omega)).mono ?_
  rintro e w5 ⟨rfl, hl5, hg5⟩
  have HL5 := Lib.hid hl5
  have HG5 := Lib.hid (N.grown_tr HG4.out hg5)
  have KR5 := Lib.hid (KR4.out.grown hg5 (by simp; omega))
  have KE5 := Lib.hid (KE4.out.grown hg5 (by simp; omega))
  clear hl5 hg5 p0
  obtain ⟨w6, hw6⟩ : ∃ W, w5.setRow w2.heap.size #[.int .i64 0, .int .i64 0, .int .i64 (n / 32), .int .i64 (n % 32 / 8), .int .i64 (n % 8), .int .i64 0, .int .i64 0, .int .i64 0, .bool false] = W := ⟨_, rfl⟩
  have HW6 := Lib.hid hw6
  have hq : w5.grownBy w6 (some w2.heap.size) := by rw [← hw6]; exact grown_put _ _ _
  have KE6 : Hid (Blok w6 w2.heap.size 34 #[.int .i64 0, .int .i64 0, .int .i64 (n / 32), .int .i64 (n % 32 / 8), .int .i64 (n % 8), .int .i64 0, .int .i64 0, .int .i64 0, .bool false]) := Lib.hid (by rw [← hw6]; exact KE5.out.put _)
  have KR6 := Lib.hid (KR5.out.grown hq (by simp; omega))
  have HL6 := Lib.hid (HL5.out.kept hq (by omega) (by omega))
  have HG6 := Lib.hid (N.grown2 HG5.out hq (by omega))
  obtain ⟨w7, hw7⟩ : ∃ W, w6.setCell ⟨w2.heap.size, 0, none⟩ (.int .i64 0) = W := ⟨_, rfl⟩
  have hq7 : w6.grownBy w7 (some w2.heap.size) := by rw [← hw7]; exact grown_set1 _ _ _ _
  have KE7 : Hid (Blok w7 w2.heap.size 34 #[.int .i64 0, .int .i64 0, .int .i64 (n / 32), .int .i64 (n % 32 / 8), .int .i64 (n % 8), .int .i64 0, .int .i64 0, .int .i64 0, .bool false]) := Lib.hid (by rw [← hw7]; simpa using KE6.out.set 0 (.int .i64 0))
  have KR7 := Lib.hid (KR6.out.grown hq7 (by simp; omega))
  have HL7 := Lib.hid (HL6.out.kept hq7 (by omega) (by omega))
  have HG7 := Lib.hid (N.grown2 HG6.out hq7 (by omega))
  obtain ⟨w8, hw8⟩ : ∃ W, w7.setCell ⟨w2.heap.size, 1, none⟩ (.int .i64 (Go.RowKit.wrap64 (t + h / 16))) = W := ⟨_, rfl⟩
  have hq8 : w7.grownBy w8 (some w2.heap.size) := by rw [← hw8]; exact grown_set1 _ _ _ _
  have KE8 : Hid (Blok w8 w2.heap.size 34 #[.int .i64 0, .int .i64 (Go.RowKit.wrap64 (t + h / 16)), .int .i64 (n / 32), .int .i64 (n % 32 / 8), .int .i64 (n % 8), .int .i64 0, .int .i64 0, .int .i64 0, .bool false]) := Lib.hid (by rw [← hw8]; simpa using KE7.out.set 1 (.int .i64 (Go.RowKit.wrap64 (t + h / 16))))
  have KR8 := Lib.hid (KR7.out.grown hq8 (by simp; omega))
  have HL8 := Lib.hid (HL7.out.kept hq8 (by omega) (by omega))
  have HG8 := Lib.hid (N.grown2 HG7.out hq8 (by omega))
  obtain ⟨w9, hw9⟩ : ∃ W, w8.setRow w.heap.size #[.int .i64 0, .int .i64 (Go.RowKit.wrap64 (t + h / 16)), .int .i64 (n / 32), .int .i64 (n % 32 / 8), .int .i64 (n % 8), .int .i64 0, .int .i64 0, .int .i64 0, .bool false] = W := ⟨_, rfl⟩
  have HW9 := Lib.hid hw9
  have y0 := Zv KE6.out 0 (.int .i64 0)
  have y1 := Zv KE7.out 1 (.int .i64 0)
  have z0 := KE6.out.frozen 0
  have z1 := KE7.out.frozen 1
  have v0 := Zv KE8.out 0 (.int .i64 0)
  have v1 := Zv KE8.out 1 (.int .i64 (Go.RowKit.wrap64 (t + h / 16)))
  have v2 := Zv KE8.out 2 (.int .i64 (n / 32))
  have v3 := Zv KE8.out 3 (.int .i64 (n % 32 / 8))
  have v4 := Zv KE8.out 4 (.int .i64 (n % 8))
  have v5 := Zv KE8.out 5 (.int .i64 0)
  have v6 := Zv KE8.out 6 (.int .i64 0)
  have v7 := Zv KE8.out 7 (.int .i64 0)
  have v8 := Zv KE8.out 8 (.bool false)
  clear hw9 hq hq7 hq8 hw6
  go_wp2_with (first | (refine Zw KE5.out HW6.out ?_) | (refine Zw KR8.out HW9.out ?_))
  refine bodyPost_ret (ret_cell rfl w.heap.size #[.int .i64 0, .int .i64 (Go.RowKit.wrap64 (t + h / 16)), .int .i64 (n / 32), .int .i64 (n % 32 / 8), .int .i64 (n % 8), .int .i64 0, .int .i64 0, .int .i64 0, .bool false] (by kernel_rfl) (by rw [← HW9.out]; exact KR8.out.put _) Try.underlying34 rfl (by kernel_rfl)) (by kernel_rfl) ?_
  have hp : w8.grownBy w9 (some w.heap.size) := by rw [← HW9.out]; exact grown_put w8 w.heap.size _
  exact ⟨rfl, HL8.out.kept hp (by omega) (by omega), N.grown2 HG8.out hp (Nat.le_refl _)⟩
set_option maxRecDepth 100000 in
set_option maxHeartbeats 600000 in
theorem rdEvent_1 (g r : Nat) (L : List Int) (t h n : Int) (w : World) (hh : L.headD 0 = h) (hk : h % 16 = 1) (hn : L.tail.headD 0 = n) (hl : N.Left w g r L) (hL : L.length ≤ 1000) (hi : ∀ x ∈ L, M.isn x) (hg : g < w.heap.size) (hr : r < w.heap.size) :
    Calls Try.prog 25 #[.pointer (some ⟨g, 0, none⟩), .int .i64 t] w (N.Got w g r ⟨1, Go.RowKit.wrap64 (t + h / 16), n / 32, n % 32 / 8, n % 8, Y.zp⟩ L.tail.tail) := by
  obtain ⟨w1, hw1, hb, hkk⟩ := Zn w 34 #[.int .i64 0, .int .i64 0, .int .i64 0, .int .i64 0, .int .i64 0, .int .i64 0, .int .i64 0, .int .i64 0, .bool false]
  have HG1 := Lib.hid (N.grown_below hb g)
  have KR1 := Lib.hid hkk
  have HL1 := Lib.hid (hl.below hb)
  have hs := N.head_isn hi
  rw [hh] at hs
  obtain ⟨n0, n1⟩ := hs
  have HI := Lib.hid (N.tail_isn hi)
  have HH := Lib.hid hh
  skip
  have HN := Lib.hid hn
  clear hb hkk hl hh hi hn
  go_enter Try.func25, Try.ntmps25
  go_wp2_with fail
  refine (next_any g r L w1 HL1.out hL).mono ?_
  rintro e w2 ⟨rfl, hl2, hg2⟩
  rw [HH.out]
  have HL2 := Lib.hid hl2
  have HG2 := Lib.hid (N.grown_tr HG1.out hg2)
  have KR2 := Lib.hid (KR1.out.grown hg2 (by simp; omega))
  have sz2 := KR2.out.lt
  clear hl2 hg2 hw1
  obtain ⟨w3, hw3, hb, hkk⟩ := Zn w2 34 #[.int .i64 0, .int .i64 0, .int .i64 0, .int .i64 0, .int .i64 0, .int .i64 0, .int .i64 0, .int .i64 0, .bool false]
  have HG3 := Lib.hid (N.grown_tr HG2.out (N.grown_below hb g))
  have KR3 := Zk KR2 hb
  have KE3 := Lib.hid hkk
  have HL3 := Lib.hid (HL2.out.below hb)
  have sz3 := KE3.out.lt
  clear hb hkk
  go_wp2_with fail
  refine (ways_any w3).mono ?_
  rintro e w4 ⟨rfl, hf, hb⟩
  have HG4 := Lib.hid (N.grown_tr HG3.out (N.grown_below hb g))
  have KR4 := Zk KR3 hb
  have KE4 := Zk KE3 hb
  have HL4 := Lib.hid (HL3.out.below hb)
  have p0 := Zv hf 1 (.func (.func 43) #[] #[])
  have sz4 := hf.lt
  clear hf hb
  go_wp2_with fail
  refine (rdBlock_any g r L.tail n w4 HN.out HL4.out (by simp; omega) HI.out (by omega) (by omega)).mono ?_
  rintro e w5 ⟨rfl, hl5, hg5⟩
  have HL5 := Lib.hid hl5
  have HG5 := Lib.hid (N.grown_tr HG4.out hg5)
  have KR5 := Lib.hid (KR4.out.grown hg5 (by simp; omega))
  have KE5 := Lib.hid (KE4.out.grown hg5 (by simp; omega))
  clear hl5 hg5 p0
  obtain ⟨w6, hw6⟩ : ∃ W, w5.setRow w2.heap.size #[.int .i64 0, .int .i64 0, .int .i64 (n / 32), .int .i64 (n % 32 / 8), .int .i64 (n % 8), .int .i64 0, .int .i64 0, .int .i64 0, .bool false] = W := ⟨_, rfl⟩
  have HW6 := Lib.hid hw6
  have hq : w5.grownBy w6 (some w2.heap.size) := by rw [← hw6]; exact grown_put _ _ _
  have KE6 : Hid (Blok w6 w2.heap.size 34 #[.int .i64 0, .int .i64 0, .int .i64 (n / 32), .int .i64 (n % 32 / 8), .int .i64 (n % 8), .int .i64 0, .int .i64 0, .int .i64 0, .bool false]) := Lib.hid (by rw [← hw6]; exact KE5.out.put _)
  have KR6 := Lib.hid (KR5.out.grown hq (by simp; omega))
  have HL6 := Lib.hid (HL5.out.kept hq (by omega) (by omega))
  have HG6 := Lib.hid (N.grown2 HG5.out hq (by omega))
  obtain ⟨w7, hw7⟩ : ∃ W, w6.setCell ⟨w2.heap.size, 0, none⟩ (.int .i64 1) = W := ⟨_, rfl⟩
  have hq7 : w6.grownBy w7 (some w2.heap.size) := by rw [← hw7]; exact grown_set1 _ _ _ _
  have KE7 : Hid (Blok w7 w2.heap.size 34 #[.int .i64 1, .int .i64 0, .int .i64 (n / 32), .int .i64 (n % 32 / 8), .int .i64 (n % 8), .int .i64 0, .int .i64 0, .int .i64 0, .bool false]) := Lib.hid (by rw [← hw7]; simpa using KE6.out.set 0 (.int .i64 1))
  have KR7 := Lib.hid (KR6.out.grown hq7 (by simp; omega))
  have HL7 := Lib.hid (HL6.out.kept hq7 (by omega) (by omega))
  have HG7 := Lib.hid (N.grown2 HG6.out hq7 (by omega))
  obtain ⟨w8, hw8⟩ : ∃ W, w7.setCell ⟨w2.heap.size, 1, none⟩ (.int .i64 (Go.RowKit.wrap64 (t + h / 16))) = W := ⟨_, rfl⟩
  have hq8 : w7.grownBy w8 (some w2.heap.size) := by rw [← hw8]; exact grown_set1 _ _ _ _
  have KE8 : Hid (Blok w8 w2.heap.size 34 #[.int .i64 1, .int .i64 (Go.RowKit.wrap64 (t + h / 16)), .int .i64 (n / 32), .int .i64 (n % 32 / 8), .int .i64 (n % 8), .int .i64 0, .int .i64 0, .int .i64 0, .bool false]) := Lib.hid (by rw [← hw8]; simpa using KE7.out.set 1 (.int .i64 (Go.RowKit.wrap64 (t + h / 16))))
  have KR8 := Lib.hid (KR7.out.grown hq8 (by simp; omega))
  have HL8 := Lib.hid (HL7.out.kept hq8 (by omega) (by omega))
  have HG8 := Lib.hid (N.grown2 HG7.out hq8 (by omega))
  obtain ⟨w9, hw9⟩ : ∃ W, w8.setRow w.heap.size #[.int .i64 1, .int .i64 (Go.RowKit.wrap64 (t + h / 16)), .int .i64 (n / 32), .int .i64 (n % 32 / 8), .int .i64 (n % 8), .int .i64 0, .int .i64 0, .int .i64 0, .bool false] = W := ⟨_, rfl⟩
  have HW9 := Lib.hid hw9
  have y0 := Zv KE6.out 0 (.int .i64 0)
  have y1 := Zv KE7.out 1 (.int .i64 0)
  have z0 := KE6.out.frozen 0
  have z1 := KE7.out.frozen 1
  have v0 := Zv KE8.out 0 (.int .i64 1)
  have v1 := Zv KE8.out 1 (.int .i64 (Go.RowKit.wrap64 (t + h / 16)))
  have v2 := Zv KE8.out 2 (.int .i64 (n / 32))
  have v3 := Zv KE8.out 3 (.int .i64 (n % 32 / 8))
  have v4 := Zv KE8.out 4 (.int .i64 (n % 8))
  have v5 := Zv KE8.out 5 (.int .i64 0)
  have v6 := Zv KE8.out 6 (.int .i64 0)
  have v7 := Zv KE8.out 7 (.int .i64 0)
  have v8 := Zv KE8.out 8 (.bool false)
  clear hw9 hq hq7 hq8 hw6
  go_wp2_with (first | (refine Zw KE5.out HW6.out ?_) | (refine Zw KR8.out HW9.out ?_))
  refine bodyPost_ret (ret_cell rfl w.heap.size #[.int .i64 1, .int .i64 (Go.RowKit.wrap64 (t + h / 16)), .int .i64 (n / 32), .int .i64 (n % 32 / 8), .int .i64 (n % 8), .int .i64 0, .int .i64 0, .int .i64 0, .bool false] (by kernel_rfl) (by rw [← HW9.out]; exact KR8.out.put _) Try.underlying34 rfl (by kernel_rfl)) (by kernel_rfl) ?_
  have hp : w8.grownBy w9 (some w.heap.size) := by rw [← HW9.out]; exact grown_put w8 w.heap.size _
  exact ⟨rfl, HL8.out.kept hp (by omega) (by omega), N.grown2 HG8.out hp (Nat.le_refl _)⟩
set_option maxRecDepth 100000 in
set_option maxHeartbeats 600000 in
theorem rdEvent_2 (g r : Nat) (L : List Int) (t h n : Int) (w : World) (hh : L.headD 0 = h) (hk : h % 16 = 2) (hn : L.tail.headD 0 = n) (hl : N.Left w g r L) (hL : L.length ≤ 1000) (hi : ∀ x ∈ L, M.isn x) (hg : g < w.heap.size) (hr : r < w.heap.size) :
    Calls Try.prog 25 #[.pointer (some ⟨g, 0, none⟩), .int .i64 t] w (N.Got w g r ⟨2, Go.RowKit.wrap64 (t + h / 16), n / 8, n % 8, 0, Y.zp⟩ L.tail.tail) := by
  obtain ⟨w1, hw1, hb, hkk⟩ := Zn w 34 #[.int .i64 0, .int .i64 0, .int .i64 0, .int .i64 0, .int .i64 0, .int .i64 0, .int .i64 0, .int .i64 0, .bool false]
  have HG1 := Lib.hid (N.grown_below hb g)
  have KR1 := Lib.hid hkk
  have HL1 := Lib.hid (hl.below hb)
  have hs := N.head_isn hi
  rw [hh] at hs
  obtain ⟨n0, n1⟩ := hs
  have HI := Lib.hid (N.tail_isn hi)
  have HH := Lib.hid hh
  skip
  have HN := Lib.hid hn
  clear hb hkk hl hh hi hn
  go_enter Try.func25, Try.ntmps25
  go_wp2_with fail
  refine (next_any g r L w1 HL1.out hL).mono ?_
  rintro e w2 ⟨rfl, hl2, hg2⟩
  rw [HH.out]
  have HL2 := Lib.hid hl2
  have HG2 := Lib.hid (N.grown_tr HG1.out hg2)
  have KR2 := Lib.hid (KR1.out.grown hg2 (by simp; omega))
  have sz2 := KR2.out.lt
  clear hl2 hg2 hw1
  obtain ⟨w3, hw3, hb, hkk⟩ := Zn w2 34 #[.int .i64 0, .int .i64 0, .int .i64 0, .int .i64 0, .int .i64 0, .int .i64 0, .int .i64 0, .int .i64 0, .bool false]
  have HG3 := Lib.hid (N.grown_tr HG2.out (N.grown_below hb g))
  have KR3 := Zk KR2 hb
  have KE3 := Lib.hid hkk
  have HL3 := Lib.hid (HL2.out.below hb)
  have sz3 := KE3.out.lt
  clear hb hkk
  go_wp2_with fail
  refine (ways_any w3).mono ?_
  rintro e w4 ⟨rfl, hf, hb⟩
  have HG4 := Lib.hid (N.grown_tr HG3.out (N.grown_below hb g))
  have KR4 := Zk KR3 hb
  have KE4 := Zk KE3 hb
  have HL4 := Lib.hid (HL3.out.below hb)
  have p0 := Zv hf 2 (.func (.func 44) #[] #[])
  have sz4 := hf.lt
  clear hf hb
  go_wp2_with fail
  refine (rdSpan_any g r L.tail n w4 HN.out HL4.out (by simp; omega) HI.out (by omega) (by omega)).mono ?_
  rintro e w5 ⟨rfl, hl5, hg5⟩
  have HL5 := Lib.hid hl5
  have HG5 := Lib.hid (N.grown_tr HG4.out hg5)
  have KR5 := Lib.hid (KR4.out.grown hg5 (by simp; omega))
  have KE5 := Lib.hid (KE4.out.grown hg5 (by simp; omega))
  clear hl5 hg5 p0
  obtain ⟨w6, hw6⟩ : ∃ W, w5.setRow w2.heap.size #[.int .i64 0, .int .i64 0, .int .i64 (n / 8), .int .i64 (n % 8), .int .i64 0, .int .i64 0, .int .i64 0, .int .i64 0, .bool false] = W := ⟨_, rfl⟩
  have HW6 := Lib.hid hw6
  have hq : w5.grownBy w6 (some w2.heap.size) := by rw [← hw6]; exact grown_put _ _ _
  have KE6 : Hid (Blok w6 w2.heap.size 34 #[.int .i64 0, .int .i64 0, .int .i64 (n / 8), .int .i64 (n % 8), .int .i64 0, .int .i64 0, .int .i64 0, .int .i64 0, .bool false]) := Lib.hid (by rw [← hw6]; exact KE5.out.put _)
  have KR6 := Lib.hid (KR5.out.grown hq (by simp; omega))
  have HL6 := Lib.hid (HL5.out.kept hq (by omega) (by omega))
  have HG6 := Lib.hid (N.grown2 HG5.out hq (by omega))
  obtain ⟨w7, hw7⟩ : ∃ W, w6.setCell ⟨w2.heap.size, 0, none⟩ (.int .i64 2) = W := ⟨_, rfl⟩
  have hq7 : w6.grownBy w7 (some w2.heap.size) := by rw [← hw7]; exact grown_set1 _ _ _ _
  have KE7 : Hid (Blok w7 w2.heap.size 34 #[.int .i64 2, .int .i64 0, .int .i64 (n / 8), .int .i64 (n % 8), .int .i64 0, .int .i64 0, .int .i64 0, .int .i64 0, .bool false]) := Lib.hid (by rw [← hw7]; simpa using KE6.out.set 0 (.int .i64 2))
  have KR7 := Lib.hid (KR6.out.grown hq7 (by simp; omega))
  have HL7 := Lib.hid (HL6.out.kept hq7 (by omega) (by omega))
  have HG7 := Lib.hid (N.grown2 HG6.out hq7 (by omega))
  obtain ⟨w8, hw8⟩ : ∃ W, w7.setCell ⟨w2.heap.size, 1, none⟩ (.int .i64 (Go.RowKit.wrap64 (t + h / 16))) = W := ⟨_, rfl⟩
  have hq8 : w7.grownBy w8 (some w2.heap.size) := by rw [← hw8]; exact grown_set1 _ _ _ _
  have KE8 : Hid (Blok w8 w2.heap.size 34 #[.int .i64 2, .int .i64 (Go.RowKit.wrap64 (t + h / 16)), .int .i64 (n / 8), .int .i64 (n % 8), .int .i64 0, .int .i64 0, .int .i64 0, .int .i64 0, .bool false]) := Lib.hid (by rw [← hw8]; simpa using KE7.out.set 1 (.int .i64 (Go.RowKit.wrap64 (t + h / 16))))
  have KR8 := Lib.hid (KR7.out.grown hq8 (by simp; omega))
  have HL8 := Lib.hid (HL7.out.kept hq8 (by omega) (by omega))
  have HG8 := Lib.hid (N.grown2 HG7.out hq8 (by omega))
  obtain ⟨w9, hw9⟩ : ∃ W, w8.setRow w.heap.size #[.int .i64 2, .int .i64 (Go.RowKit.wrap64 (t + h / 16)), .int .i64 (n / 8), .int .i64 (n % 8), .int .i64 0, .int .i64 0, .int .i64 0, .int .i64 0, .bool false] = W := ⟨_, rfl⟩
  have HW9 := Lib.hid hw9
  have y0 := Zv KE6.out 0 (.int .i64 0)
  have y1 := Zv KE7.out 1 (.int .i64 0)
  have z0 := KE6.out.frozen 0
  have z1 := KE7.out.frozen 1
  have v0 := Zv KE8.out 0 (.int .i64 2)
  have v1 := Zv KE8.out 1 (.int .i64 (Go.RowKit.wrap64 (t + h / 16)))
  have v2 := Zv KE8.out 2 (.int .i64 (n / 8))
  have v3 := Zv KE8.out 3 (.int .i64 (n % 8))
  have v4 := Zv KE8.out 4 (.int .i64 0)
  have v5 := Zv KE8.out 5 (.int .i64 0)
  have v6 := Zv KE8.out 6 (.int .i64 0)
  have v7 := Zv KE8.out 7 (.int .i64 0)
  have v8 := Zv KE8.out 8 (.bool false)
  clear hw9 hq hq7 hq8 hw6
  go_wp2_with (first | (refine Zw KE5.out HW6.out ?_) | (refine Zw KR8.out HW9.out ?_))
  refine bodyPost_ret (ret_cell rfl w.heap.size #[.int .i64 2, .int .i64 (Go.RowKit.wrap64 (t + h / 16)), .int .i64 (n / 8), .int .i64 (n % 8), .int .i64 0, .int .i64 0, .int .i64 0, .int .i64 0, .bool false] (by kernel_rfl) (by rw [← HW9.out]; exact KR8.out.put _) Try.underlying34 rfl (by kernel_rfl)) (by kernel_rfl) ?_
  have hp : w8.grownBy w9 (some w.heap.size) := by rw [← HW9.out]; exact grown_put w8 w.heap.size _
  exact ⟨rfl, HL8.out.kept hp (by omega) (by omega), N.grown2 HG8.out hp (Nat.le_refl _)⟩
set_option maxRecDepth 100000 in
set_option maxHeartbeats 600000 in
theorem rdEvent_3 (g r : Nat) (L : List Int) (t h n : Int) (w : World) (hh : L.headD 0 = h) (hk : h % 16 = 3) (hn : L.tail.headD 0 = n) (hl : N.Left w g r L) (hL : L.length ≤ 1000) (hi : ∀ x ∈ L, M.isn x) (hg : g < w.heap.size) (hr : r < w.heap.size) :
    Calls Try.prog 25 #[.pointer (some ⟨g, 0, none⟩), .int .i64 t] w (N.Got w g r ⟨3, Go.RowKit.wrap64 (t + h / 16), n, 0, 0, Y.zp⟩ L.tail.tail) := by
  obtain ⟨w1, hw1, hb, hkk⟩ := Zn w 34 #[.int .i64 0, .int .i64 0, .int .i64 0, .int .i64 0, .int .i64 0, .int .i64 0, .int .i64 0, .int .i64 0, .bool false]
  have HG1 := Lib.hid (N.grown_below hb g)
  have KR1 := Lib.hid hkk
  have HL1 := Lib.hid (hl.below hb)
  have hs := N.head_isn hi
  rw [hh] at hs
  obtain ⟨n0, n1⟩ := hs
  have HI := Lib.hid (N.tail_isn hi)
  have HH := Lib.hid hh
  skip
  have HN := Lib.hid hn
  clear hb hkk hl hh hi hn
  go_enter Try.func25, Try.ntmps25
  go_wp2_with fail
  refine (next_any g r L w1 HL1.out hL).mono ?_
  rintro e w2 ⟨rfl, hl2, hg2⟩
  rw [HH.out]
  have HL2 := Lib.hid hl2
  have HG2 := Lib.hid (N.grown_tr HG1.out hg2)
  have KR2 := Lib.hid (KR1.out.grown hg2 (by simp; omega))
  have sz2 := KR2.out.lt
  clear hl2 hg2 hw1
  obtain ⟨w3, hw3, hb, hkk⟩ := Zn w2 34 #[.int .i64 0, .int .i64 0, .int .i64 0, .int .i64 0, .int .i64 0, .int .i64 0, .int .i64 0, .int .i64 0, .bool false]
  have HG3 := Lib.hid (N.grown_tr HG2.out (N.grown_below hb g))
  have KR3 := Zk KR2 hb
  have KE3 := Lib.hid hkk
  have HL3 := Lib.hid (HL2.out.below hb)
  have sz3 := KE3.out.lt
  clear hb hkk
  go_wp2_with fail
  refine (ways_any w3).mono ?_
  rintro e w4 ⟨rfl, hf, hb⟩
  have HG4 := Lib.hid (N.grown_tr HG3.out (N.grown_below hb g))
  have KR4 := Zk KR3 hb
  have KE4 := Zk KE3 hb
  have HL4 := Lib.hid (HL3.out.below hb)
  have p0 := Zv hf 3 (.func (.func 45) #[] #[])
  have sz4 := hf.lt
  clear hf hb
  go_wp2_with fail
  refine (rdPool_any g r L.tail n w4 HN.out HL4.out (by simp; omega) HI.out (by omega) (by omega)).mono ?_
  rintro e w5 ⟨rfl, hl5, hg5⟩
  have HL5 := Lib.hid hl5
  have HG5 := Lib.hid (N.grown_tr HG4.out hg5)
  have KR5 := Lib.hid (KR4.out.grown hg5 (by simp; omega))
  have KE5 := Lib.hid (KE4.out.grown hg5 (by simp; omega))
  clear hl5 hg5 p0
  obtain ⟨w6, hw6⟩ : ∃ W, w5.setRow w2.heap.size #[.int .i64 0, .int .i64 0, .int .i64 n, .int .i64 0, .int .i64 0, .int .i64 0, .int .i64 0, .int .i64 0, .bool false] = W := ⟨_, rfl⟩
  have HW6 := Lib.hid hw6
  have hq : w5.grownBy w6 (some w2.heap.size) := by rw [← hw6]; exact grown_put _ _ _
  have KE6 : Hid (Blok w6 w2.heap.size 34 #[.int .i64 0, .int .i64 0, .int .i64 n, .int .i64 0, .int .i64 0, .int .i64 0, .int .i64 0, .int .i64 0, .bool false]) := Lib.hid (by rw [← hw6]; exact KE5.out.put _)
  have KR6 := Lib.hid (KR5.out.grown hq (by simp; omega))
  have HL6 := Lib.hid (HL5.out.kept hq (by omega) (by omega))
  have HG6 := Lib.hid (N.grown2 HG5.out hq (by omega))
  obtain ⟨w7, hw7⟩ : ∃ W, w6.setCell ⟨w2.heap.size, 0, none⟩ (.int .i64 3) = W := ⟨_, rfl⟩
  have hq7 : w6.grownBy w7 (some w2.heap.size) := by rw [← hw7]; exact grown_set1 _ _ _ _
  have KE7 : Hid (Blok w7 w2.heap.size 34 #[.int .i64 3, .int .i64 0, .int .i64 n, .int .i64 0, .int .i64 0, .int .i64 0, .int .i64 0, .int .i64 0, .bool false]) := Lib.hid (by rw [← hw7]; simpa using KE6.out.set 0 (.int .i64 3))
  have KR7 := Lib.hid (KR6.out.grown hq7 (by simp; omega))
  have HL7 := Lib.hid (HL6.out.kept hq7 (by omega) (by omega))
  have HG7 := Lib.hid (N.grown2 HG6.out hq7 (by omega))
  obtain ⟨w8, hw8⟩ : ∃ W, w7.setCell ⟨w2.heap.size, 1, none⟩ (.int .i64 (Go.RowKit.wrap64 (t + h / 16))) = W := ⟨_, rfl⟩
  have hq8 : w7.grownBy w8 (some w2.heap.size) := by rw [← hw8]; exact grown_set1 _ _ _ _
  have KE8 : Hid (Blok w8 w2.heap.size 34 #[.int .i64 3, .int .i64 (Go.RowKit.wrap64 (t + h / 16)), .int .i64 n, .int .i64 0, .int .i64 0, .int .i64 0, .int .i64 0, .int .i64 0, .bool false]) := Lib.hid (by rw [← hw8]; simpa using KE7.out.set 1 (.int .i64 (Go.RowKit.wrap64 (t + h / 16))))
  have KR8 := Lib.hid (KR7.out.grown hq8 (by simp; omega))
  have HL8 := Lib.hid (HL7.out.kept hq8 (by omega) (by omega))
  have HG8 := Lib.hid (N.grown2 HG7.out hq8 (by omega))
  obtain ⟨w9, hw9⟩ : ∃ W, w8.setRow w.heap.size #[.int .i64 3, .int .i64 (Go.RowKit.wrap64 (t + h / 16)), .int .i64 n, .int .i64 0, .int .i64 0, .int .i64 0, .int .i64 0, .int .i64 0, .bool false] = W := ⟨_, rfl⟩
  have HW9 := Lib.hid hw9
  have y0 := Zv KE6.out 0 (.int .i64 0)
  have y1 := Zv KE7.out 1 (.int .i64 0)
  have z0 := KE6.out.frozen 0
  have z1 := KE7.out.frozen 1
  have v0 := Zv KE8.out 0 (.int .i64 3)
  have v1 := Zv KE8.out 1 (.int .i64 (Go.RowKit.wrap64 (t + h / 16)))
  have v2 := Zv KE8.out 2 (.int .i64 n)
  have v3 := Zv KE8.out 3 (.int .i64 0)
  have v4 := Zv KE8.out 4 (.int .i64 0)
  have v5 := Zv KE8.out 5 (.int .i64 0)
  have v6 := Zv KE8.out 6 (.int .i64 0)
  have v7 := Zv KE8.out 7 (.int .i64 0)
  have v8 := Zv KE8.out 8 (.bool false)
  clear hw9 hq hq7 hq8 hw6
  go_wp2_with (first | (refine Zw KE5.out HW6.out ?_) | (refine Zw KR8.out HW9.out ?_))
  refine bodyPost_ret (ret_cell rfl w.heap.size #[.int .i64 3, .int .i64 (Go.RowKit.wrap64 (t + h / 16)), .int .i64 n, .int .i64 0, .int .i64 0, .int .i64 0, .int .i64 0, .int .i64 0, .bool false] (by kernel_rfl) (by rw [← HW9.out]; exact KR8.out.put _) Try.underlying34 rfl (by kernel_rfl)) (by kernel_rfl) ?_
  have hp : w8.grownBy w9 (some w.heap.size) := by rw [← HW9.out]; exact grown_put w8 w.heap.size _
  exact ⟨rfl, HL8.out.kept hp (by omega) (by omega), N.grown2 HG8.out hp (Nat.le_refl _)⟩
set_option maxRecDepth 100000 in
set_option maxHeartbeats 600000 in
theorem rdEvent_4 (g r : Nat) (L : List Int) (t h n : Int) (w : World) (hh : L.headD 0 = h) (hk : h % 16 = 4) (hn : L.tail.headD 0 = n) (hl : N.Left w g r L) (hL : L.length ≤ 1000) (hi : ∀ x ∈ L, M.isn x) (hg : g < w.heap.size) (hr : r < w.heap.size) :
    Calls Try.prog 25 #[.pointer (some ⟨g, 0, none⟩), .int .i64 t] w (N.Got w g r ⟨4, Go.RowKit.wrap64 (t + h / 16), n / 8, n % 8, 0, Y.zp⟩ L.tail.tail) := by
  obtain ⟨w1, hw1, hb, hkk⟩ := Zn w 34 #[.int .i64 0, .int .i64 0, .int .i64 0, .int .i64 0, .int .i64 0, .int .i64 0, .int .i64 0, .int .i64 0, .bool false]
  have HG1 := Lib.hid (N.grown_below hb g)
  have KR1 := Lib.hid hkk
  have HL1 := Lib.hid (hl.below hb)
  have hs := N.head_isn hi
  rw [hh] at hs
  obtain ⟨n0, n1⟩ := hs
  have HI := Lib.hid (N.tail_isn hi)
  have HH := Lib.hid hh
  skip
  have HN := Lib.hid hn
  clear hb hkk hl hh hi hn
  go_enter Try.func25, Try.ntmps25
  go_wp2_with fail
  refine (next_any g r L w1 HL1.out hL).mono ?_
  rintro e w2 ⟨rfl, hl2, hg2⟩
  rw [HH.out]
  have HL2 := Lib.hid hl2
  have HG2 := Lib.hid (N.grown_tr HG1.out hg2)
  have KR2 := Lib.hid (KR1.out.grown hg2 (by simp; omega))
  have sz2 := KR2.out.lt
  clear hl2 hg2 hw1
  obtain ⟨w3, hw3, hb, hkk⟩ := Zn w2 34 #[.int .i64 0, .int .i64 0, .int .i64 0, .int .i64 0, .int .i64 0, .int .i64 0, .int .i64 0, .int .i64 0, .bool false]
  have HG3 := Lib.hid (N.grown_tr HG2.out (N.grown_below hb g))
  have KR3 := Zk KR2 hb
  have KE3 := Lib.hid hkk
  have HL3 := Lib.hid (HL2.out.below hb)
  have sz3 := KE3.out.lt
  clear hb hkk
  go_wp2_with fail
  refine (ways_any w3).mono ?_
  rintro e w4 ⟨rfl, hf, hb⟩
  have HG4 := Lib.hid (N.grown_tr HG3.out (N.grown_below hb g))
  have KR4 := Zk KR3 hb
  have KE4 := Zk KE3 hb
  have HL4 := Lib.hid (HL3.out.below hb)
  have p0 := Zv hf 4 (.func (.func 44) #[] #[])
  have sz4 := hf.lt
  clear hf hb
  go_wp2_with fail
  refine (rdSpan_any g r L.tail n w4 HN.out HL4.out (by simp; omega) HI.out (by omega) (by omega)).mono ?_
  rintro e w5 ⟨rfl, hl5, hg5⟩
  have HL5 := Lib.hid hl5
  have HG5 := Lib.hid (N.grown_tr HG4.out hg5)
  have KR5 := Lib.hid (KR4.out.grown hg5 (by simp; omega))
  have KE5 := Lib.hid (KE4.out.grown hg5 (by simp; omega))
  clear hl5 hg5 p0
  obtain ⟨w6, hw6⟩ : ∃ W, w5.setRow w2.heap.size #[.int .i64 0, .int .i64 0, .int .i64 (n / 8), .int .i64 (n % 8), .int .i64 0, .int .i64 0, .int .i64 0, .int .i64 0, .bool false] = W := ⟨_, rfl⟩
  have HW6 := Lib.hid hw6
  have hq : w5.grownBy w6 (some w2.heap.size) := by rw [← hw6]; exact grown_put _ _ _
  have KE6 : Hid (Blok w6 w2.heap.size 34 #[.int .i64 0, .int .i64 0, .int .i64 (n / 8), .int .i64 (n % 8), .int .i64 0, .int .i64 0, .int .i64 0, .int .i64 0, .bool false]) := Lib.hid (by rw [← hw6]; exact KE5.out.put _)
  have KR6 := Lib.hid (KR5.out.grown hq (by simp; omega))
  have HL6 := Lib.hid (HL5.out.kept hq (by omega) (by omega))
  have HG6 := Lib.hid (N.grown2 HG5.out hq (by omega))
  obtain ⟨w7, hw7⟩ : ∃ W, w6.setCell ⟨w2.heap.size, 0, none⟩ (.int .i64 4) = W := ⟨_, rfl⟩
  have hq7 : w6.grownBy w7 (some w2.heap.size) := by rw [← hw7]; exact grown_set1 _ _ _ _
  have KE7 : Hid (Blok w7 w2.heap.size 34 #[.int .i64 4, .int .i64 0, .int .i64 (n / 8), .int .i64 (n % 8), .int .i64 0, .int .i64 0, .int .i64 0, .int .i64 0, .bool false]) := Lib.hid (by rw [← hw7]; simpa using KE6.out.set 0 (.int .i64 4))
  have KR7 := Lib.hid (KR6.out.grown hq7 (by simp; omega))
  have HL7 := Lib.hid (HL6.out.kept hq7 (by omega) (by omega))
  have HG7 := Lib.hid (N.grown2 HG6.out hq7 (by omega))
  obtain ⟨w8, hw8⟩ : ∃ W, w7.setCell ⟨w2.heap.size, 1, none⟩ (.int .i64 (Go.RowKit.wrap64 (t + h / 16))) = W := ⟨_, rfl⟩
  have hq8 : w7.grownBy w8 (some w2.heap.size) := by rw [← hw8]; exact grown_set1 _ _ _ _
  have KE8 : Hid (Blok w8 w2.heap.size 34 #[.int .i64 4, .int .i64 (Go.RowKit.wrap64 (t + h / 16)), .int .i64 (n / 8), .int .i64 (n % 8), .int .i64 0, .int .i64 0, .int .i64 0, .int .i64 0, .bool false]) := Lib.hid (by rw [← hw8]; simpa using KE7.out.set 1 (.int .i64 (Go.RowKit.wrap64 (t + h / 16))))
  have KR8 := Lib.hid (KR7.out.grown hq8 (by simp; omega))
  have HL8 := Lib.hid (HL7.out.kept hq8 (by omega) (by omega))
  have HG8 := Lib.hid (N.grown2 HG7.out hq8 (by omega))
  obtain ⟨w9, hw9⟩ : ∃ W, w8.setRow w.heap.size #[.int .i64 4, .int .i64 (Go.RowKit.wrap64 (t + h / 16)), .int .i64 (n / 8), .int .i64 (n % 8), .int .i64 0, .int .i64 0, .int .i64 0, .int .i64 0, .bool false] = W := ⟨_, rfl⟩
  have HW9 := Lib.hid hw9
  have y0 := Zv KE6.out 0 (.int .i64 0)
  have y1 := Zv KE7.out 1 (.int .i64 0)
  have z0 := KE6.out.frozen 0
  have z1 := KE7.out.frozen 1
  have v0 := Zv KE8.out 0 (.int .i64 4)
  have v1 := Zv KE8.out 1 (.int .i64 (Go.RowKit.wrap64 (t + h / 16)))
  have v2 := Zv KE8.out 2 (.int .i64 (n / 8))
  have v3 := Zv KE8.out 3 (.int .i64 (n % 8))
  have v4 := Zv KE8.out 4 (.int .i64 0)
  have v5 := Zv KE8.out 5 (.int .i64 0)
  have v6 := Zv KE8.out 6 (.int .i64 0)
  have v7 := Zv KE8.out 7 (.int .i64 0)
  have v8 := Zv KE8.out 8 (.bool false)
  clear hw9 hq hq7 hq8 hw6
  go_wp2_with (first | (refine Zw KE5.out HW6.out ?_) | (refine Zw KR8.out HW9.out ?_))
  refine bodyPost_ret (ret_cell rfl w.heap.size #[.int .i64 4, .int .i64 (Go.RowKit.wrap64 (t + h / 16)), .int .i64 (n / 8), .int .i64 (n % 8), .int .i64 0, .int .i64 0, .int .i64 0, .int .i64 0, .bool false] (by kernel_rfl) (by rw [← HW9.out]; exact KR8.out.put _) Try.underlying34 rfl (by kernel_rfl)) (by kernel_rfl) ?_
  have hp : w8.grownBy w9 (some w.heap.size) := by rw [← HW9.out]; exact grown_put w8 w.heap.size _
  exact ⟨rfl, HL8.out.kept hp (by omega) (by omega), N.grown2 HG8.out hp (Nat.le_refl _)⟩
set_option maxRecDepth 100000 in
set_option maxHeartbeats 600000 in
theorem rdEvent_5 (g r : Nat) (L : List Int) (t h n : Int) (w : World) (hh : L.headD 0 = h) (hk : h % 16 = 5) (hn : L.tail.headD 0 = n) (hl : N.Left w g r L) (hL : L.length ≤ 1000) (hi : ∀ x ∈ L, M.isn x) (hg : g < w.heap.size) (hr : r < w.heap.size) :
    Calls Try.prog 25 #[.pointer (some ⟨g, 0, none⟩), .int .i64 t] w (N.Got w g r ⟨5, Go.RowKit.wrap64 (t + h / 16), n, 0, 0, Y.zp⟩ L.tail.tail) := by
  obtain ⟨w1, hw1, hb, hkk⟩ := Zn w 34 #[.int .i64 0, .int .i64 0, .int .i64 0, .int .i64 0, .int .i64 0, .int .i64 0, .int .i64 0, .int .i64 0, .bool false]
  have HG1 := Lib.hid (N.grown_below hb g)
  have KR1 := Lib.hid hkk
  have HL1 := Lib.hid (hl.below hb)
  have hs := N.head_isn hi
  rw [hh] at hs
  obtain ⟨n0, n1⟩ := hs
  have HI := Lib.hid (N.tail_isn hi)
  have HH := Lib.hid hh
  skip
  have HN := Lib.hid hn
  clear hb hkk hl hh hi hn
  go_enter Try.func25, Try.ntmps25
  go_wp2_with fail
  refine (next_any g r L w1 HL1.out hL).mono ?_
  rintro e w2 ⟨rfl, hl2, hg2⟩
  rw [HH.out]
  have HL2 := Lib.hid hl2
  have HG2 := Lib.hid (N.grown_tr HG1.out hg2)
  have KR2 := Lib.hid (KR1.out.grown hg2 (by simp; omega))
  have sz2 := KR2.out.lt
  clear hl2 hg2 hw1
  obtain ⟨w3, hw3, hb, hkk⟩ := Zn w2 34 #[.int .i64 0, .int .i64 0, .int .i64 0, .int .i64 0, .int .i64 0, .int .i64 0, .int .i64 0, .int .i64 0, .bool false]
  have HG3 := Lib.hid (N.grown_tr HG2.out (N.grown_below hb g))
  have KR3 := Zk KR2 hb
  have KE3 := Lib.hid hkk
  have HL3 := Lib.hid (HL2.out.below hb)
  have sz3 := KE3.out.lt
  clear hb hkk
  go_wp2_with fail
  refine (ways_any w3).mono ?_
  rintro e w4 ⟨rfl, hf, hb⟩
  have HG4 := Lib.hid (N.grown_tr HG3.out (N.grown_below hb g))
  have KR4 := Zk KR3 hb
  have KE4 := Zk KE3 hb
  have HL4 := Lib.hid (HL3.out.below hb)
  have p0 := Zv hf 5 (.func (.func 45) #[] #[])
  have sz4 := hf.lt
  clear hf hb
  go_wp2_with fail
  refine (rdPool_any g r L.tail n w4 HN.out HL4.out (by simp; omega) HI.out (by omega) (by omega)).mono ?_
  rintro e w5 ⟨rfl, hl5, hg5⟩
  have HL5 := Lib.hid hl5
  have HG5 := Lib.hid (N.grown_tr HG4.out hg5)
  have KR5 := Lib.hid (KR4.out.grown hg5 (by simp; omega))
  have KE5 := Lib.hid (KE4.out.grown hg5 (by simp; omega))
  clear hl5 hg5 p0
  obtain ⟨w6, hw6⟩ : ∃ W, w5.setRow w2.heap.size #[.int .i64 0, .int .i64 0, .int .i64 n, .int .i64 0, .int .i64 0, .int .i64 0, .int .i64 0, .int .i64 0, .bool false] = W := ⟨_, rfl⟩
  have HW6 := Lib.hid hw6
  have hq : w5.grownBy w6 (some w2.heap.size) := by rw [← hw6]; exact grown_put _ _ _
  have KE6 : Hid (Blok w6 w2.heap.size 34 #[.int .i64 0, .int .i64 0, .int .i64 n, .int .i64 0, .int .i64 0, .int .i64 0, .int .i64 0, .int .i64 0, .bool false]) := Lib.hid (by rw [← hw6]; exact KE5.out.put _)
  have KR6 := Lib.hid (KR5.out.grown hq (by simp; omega))
  have HL6 := Lib.hid (HL5.out.kept hq (by omega) (by omega))
  have HG6 := Lib.hid (N.grown2 HG5.out hq (by omega))
  obtain ⟨w7, hw7⟩ : ∃ W, w6.setCell ⟨w2.heap.size, 0, none⟩ (.int .i64 5) = W := ⟨_, rfl⟩
  have hq7 : w6.grownBy w7 (some w2.heap.size) := by rw [← hw7]; exact grown_set1 _ _ _ _
  have KE7 : Hid (Blok w7 w2.heap.size 34 #[.int .i64 5, .int .i64 0, .int .i64 n, .int .i64 0, .int .i64 0, .int .i64 0, .int .i64 0, .int .i64 0, .bool false]) := Lib.hid (by rw [← hw7]; simpa using KE6.out.set 0 (.int .i64 5))
  have KR7 := Lib.hid (KR6.out.grown hq7 (by simp; omega))
  have HL7 := Lib.hid (HL6.out.kept hq7 (by omega) (by omega))
  have HG7 := Lib.hid (N.grown2 HG6.out hq7 (by omega))
  obtain ⟨w8, hw8⟩ : ∃ W, w7.setCell ⟨w2.heap.size, 1, none⟩ (.int .i64 (Go.RowKit.wrap64 (t + h / 16))) = W := ⟨_, rfl⟩
  have hq8 : w7.grownBy w8 (some w2.heap.size) := by rw [← hw8]; exact grown_set1 _ _ _ _
  have KE8 : Hid (Blok w8 w2.heap.size 34 #[.int .i64 5, .int .i64 (Go.RowKit.wrap64 (t + h / 16)), .int .i64 n, .int .i64 0, .int .i64 0, .int .i64 0, .int .i64 0, .int .i64 0, .bool false]) := Lib.hid (by rw [← hw8]; simpa using KE7.out.set 1 (.int .i64 (Go.RowKit.wrap64 (t + h / 16))))
  have KR8 := Lib.hid (KR7.out.grown hq8 (by simp; omega))
  have HL8 := Lib.hid (HL7.out.kept hq8 (by omega) (by omega))
  have HG8 := Lib.hid (N.grown2 HG7.out hq8 (by omega))
  obtain ⟨w9, hw9⟩ : ∃ W, w8.setRow w.heap.size #[.int .i64 5, .int .i64 (Go.RowKit.wrap64 (t + h / 16)), .int .i64 n, .int .i64 0, .int .i64 0, .int .i64 0, .int .i64 0, .int .i64 0, .bool false] = W := ⟨_, rfl⟩
  have HW9 := Lib.hid hw9
  have y0 := Zv KE6.out 0 (.int .i64 0)
  have y1 := Zv KE7.out 1 (.int .i64 0)
  have z0 := KE6.out.frozen 0
  have z1 := KE7.out.frozen 1
  have v0 := Zv KE8.out 0 (.int .i64 5)
  have v1 := Zv KE8.out 1 (.int .i64 (Go.RowKit.wrap64 (t + h / 16)))
  have v2 := Zv KE8.out 2 (.int .i64 n)
  have v3 := Zv KE8.out 3 (.int .i64 0)
  have v4 := Zv KE8.out 4 (.int .i64 0)
  have v5 := Zv KE8.out 5 (.int .i64 0)
  have v6 := Zv KE8.out 6 (.int .i64 0)
  have v7 := Zv KE8.out 7 (.int .i64 0)
  have v8 := Zv KE8.out 8 (.bool false)
  clear hw9 hq hq7 hq8 hw6
  go_wp2_with (first | (refine Zw KE5.out HW6.out ?_) | (refine Zw KR8.out HW9.out ?_))
  refine bodyPost_ret (ret_cell rfl w.heap.size #[.int .i64 5, .int .i64 (Go.RowKit.wrap64 (t + h / 16)), .int .i64 n, .int .i64 0, .int .i64 0, .int .i64 0, .int .i64 0, .int .i64 0, .bool false] (by kernel_rfl) (by rw [← HW9.out]; exact KR8.out.put _) Try.underlying34 rfl (by kernel_rfl)) (by kernel_rfl) ?_
  have hp : w8.grownBy w9 (some w.heap.size) := by rw [← HW9.out]; exact grown_put w8 w.heap.size _
  exact ⟨rfl, HL8.out.kept hp (by omega) (by omega), N.grown2 HG8.out hp (Nat.le_refl _)⟩
set_option maxRecDepth 100000 in
set_option maxHeartbeats 600000 in
theorem rdEvent_6 (g r : Nat) (L : List Int) (t h m0 m1 m2 m3 : Int) (w : World) (hh : L.headD 0 = h) (hk : h % 16 = 6) (h0 : L.tail.headD 0 = m0) (h1 : L.tail.tail.headD 0 = m1) (h2 : L.tail.tail.tail.headD 0 = m2) (h3 : L.tail.tail.tail.tail.headD 0 = m3) (hl : N.Left w g r L) (hL : L.length ≤ 1000) (hi : ∀ x ∈ L, M.isn x) (hg : g < w.heap.size) (hr : r < w.heap.size) :
    Calls Try.prog 25 #[.pointer (some ⟨g, 0, none⟩), .int .i64 t] w (N.Got w g r ⟨6, Go.RowKit.wrap64 (t + h / 16), 0, 0, 0, ⟨m0, m1, m2, decide (m3 = 1)⟩⟩ L.tail.tail.tail.tail.tail) := by
  obtain ⟨w1, hw1, hb, hkk⟩ := Zn w 34 #[.int .i64 0, .int .i64 0, .int .i64 0, .int .i64 0, .int .i64 0, .int .i64 0, .int .i64 0, .int .i64 0, .bool false]
  have HG1 := Lib.hid (N.grown_below hb g)
  have KR1 := Lib.hid hkk
  have HL1 := Lib.hid (hl.below hb)
  have hs := N.head_isn hi
  rw [hh] at hs
  obtain ⟨n0, n1⟩ := hs
  have HI := Lib.hid (N.tail_isn hi)
  have HH := Lib.hid hh
  skip
  have H0 := Lib.hid h0; have H1 := Lib.hid h1; have H2 := Lib.hid h2; have H3 := Lib.hid h3
  clear hb hkk hl hh hi h0 h1 h2 h3
  go_enter Try.func25, Try.ntmps25
  go_wp2_with fail
  refine (next_any g r L w1 HL1.out hL).mono ?_
  rintro e w2 ⟨rfl, hl2, hg2⟩
  rw [HH.out]
  have HL2 := Lib.hid hl2
  have HG2 := Lib.hid (N.grown_tr HG1.out hg2)
  have KR2 := Lib.hid (KR1.out.grown hg2 (by simp; omega))
  have sz2 := KR2.out.lt
  clear hl2 hg2 hw1
  obtain ⟨w3, hw3, hb, hkk⟩ := Zn w2 34 #[.int .i64 0, .int .i64 0, .int .i64 0, .int .i64 0, .int .i64 0, .int .i64 0, .int .i64 0, .int .i64 0, .bool false]
  have HG3 := Lib.hid (N.grown_tr HG2.out (N.grown_below hb g))
  have KR3 := Zk KR2 hb
  have KE3 := Lib.hid hkk
  have HL3 := Lib.hid (HL2.out.below hb)
  have sz3 := KE3.out.lt
  clear hb hkk
  go_wp2_with fail
  refine (ways_any w3).mono ?_
  rintro e w4 ⟨rfl, hf, hb⟩
  have HG4 := Lib.hid (N.grown_tr HG3.out (N.grown_below hb g))
  have KR4 := Zk KR3 hb
  have KE4 := Zk KE3 hb
  have HL4 := Lib.hid (HL3.out.below hb)
  have p0 := Zv hf 6 (.func (.func 46) #[] #[])
  have sz4 := hf.lt
  clear hf hb
  go_wp2_with fail
  refine (rdPolicy_any g r L.tail m0 m1 m2 m3 w4 H0.out H1.out H2.out H3.out HL4.out (by simp; omega) (by omega) (by omega)).mono ?_
  rintro e w5 ⟨rfl, hl5, hg5⟩
  have HL5 := Lib.hid hl5
  have HG5 := Lib.hid (N.grown_tr HG4.out hg5)
  have KR5 := Lib.hid (KR4.out.grown hg5 (by simp; omega))
  have KE5 := Lib.hid (KE4.out.grown hg5 (by simp; omega))
  clear hl5 hg5 p0
  obtain ⟨w6, hw6⟩ : ∃ W, w5.setRow w2.heap.size #[.int .i64 0, .int .i64 0, .int .i64 0, .int .i64 0, .int .i64 0, .int .i64 m0, .int .i64 m1, .int .i64 m2, .bool (decide (m3 = 1))] = W := ⟨_, rfl⟩
  have HW6 := Lib.hid hw6
  have hq : w5.grownBy w6 (some w2.heap.size) := by rw [← hw6]; exact grown_put _ _ _
  have KE6 : Hid (Blok w6 w2.heap.size 34 #[.int .i64 0, .int .i64 0, .int .i64 0, .int .i64 0, .int .i64 0, .int .i64 m0, .int .i64 m1, .int .i64 m2, .bool (decide (m3 = 1))]) := Lib.hid (by rw [← hw6]; exact KE5.out.put _)
  have KR6 := Lib.hid (KR5.out.grown hq (by simp; omega))
  have HL6 := Lib.hid (HL5.out.kept hq (by omega) (by omega))
  have HG6 := Lib.hid (N.grown2 HG5.out hq (by omega))
  obtain ⟨w7, hw7⟩ : ∃ W, w6.setCell ⟨w2.heap.size, 0, none⟩ (.int .i64 6) = W := ⟨_, rfl⟩
  have hq7 : w6.grownBy w7 (some w2.heap.size) := by rw [← hw7]; exact grown_set1 _ _ _ _
  have KE7 : Hid (Blok w7 w2.heap.size 34 #[.int .i64 6, .int .i64 0, .int .i64 0, .int .i64 0, .int .i64 0, .int .i64 m0, .int .i64 m1, .int .i64 m2, .bool (decide (m3 = 1))]) := Lib.hid (by rw [← hw7]; simpa using KE6.out.set 0 (.int .i64 6))
  have KR7 := Lib.hid (KR6.out.grown hq7 (by simp; omega))
  have HL7 := Lib.hid (HL6.out.kept hq7 (by omega) (by omega))
  have HG7 := Lib.hid (N.grown2 HG6.out hq7 (by omega))
  obtain ⟨w8, hw8⟩ : ∃ W, w7.setCell ⟨w2.heap.size, 1, none⟩ (.int .i64 (Go.RowKit.wrap64 (t + h / 16))) = W := ⟨_, rfl⟩
  have hq8 : w7.grownBy w8 (some w2.heap.size) := by rw [← hw8]; exact grown_set1 _ _ _ _
  have KE8 : Hid (Blok w8 w2.heap.size 34 #[.int .i64 6, .int .i64 (Go.RowKit.wrap64 (t + h / 16)), .int .i64 0, .int .i64 0, .int .i64 0, .int .i64 m0, .int .i64 m1, .int .i64 m2, .bool (decide (m3 = 1))]) := Lib.hid (by rw [← hw8]; simpa using KE7.out.set 1 (.int .i64 (Go.RowKit.wrap64 (t + h / 16))))
  have KR8 := Lib.hid (KR7.out.grown hq8 (by simp; omega))
  have HL8 := Lib.hid (HL7.out.kept hq8 (by omega) (by omega))
  have HG8 := Lib.hid (N.grown2 HG7.out hq8 (by omega))
  obtain ⟨w9, hw9⟩ : ∃ W, w8.setRow w.heap.size #[.int .i64 6, .int .i64 (Go.RowKit.wrap64 (t + h / 16)), .int .i64 0, .int .i64 0, .int .i64 0, .int .i64 m0, .int .i64 m1, .int .i64 m2, .bool (decide (m3 = 1))] = W := ⟨_, rfl⟩
  have HW9 := Lib.hid hw9
  have y0 := Zv KE6.out 0 (.int .i64 0)
  have y1 := Zv KE7.out 1 (.int .i64 0)
  have z0 := KE6.out.frozen 0
  have z1 := KE7.out.frozen 1
  have v0 := Zv KE8.out 0 (.int .i64 6)
  have v1 := Zv KE8.out 1 (.int .i64 (Go.RowKit.wrap64 (t + h / 16)))
  have v2 := Zv KE8.out 2 (.int .i64 0)
  have v3 := Zv KE8.out 3 (.int .i64 0)
  have v4 := Zv KE8.out 4 (.int .i64 0)
  have v5 := Zv KE8.out 5 (.int .i64 m0)
  have v6 := Zv KE8.out 6 (.int .i64 m1)
  have v7 := Zv KE8.out 7 (.int .i64 m2)
  have v8 := Zv KE8.out 8 (.bool (decide (m3 = 1)))
  clear hw9 hq hq7 hq8 hw6
  go_wp2_with (first | (refine Zw KE5.out HW6.out ?_) | (refine Zw KR8.out HW9.out ?_))
  refine bodyPost_ret (ret_cell rfl w.heap.size #[.int .i64 6, .int .i64 (Go.RowKit.wrap64 (t + h / 16)), .int .i64 0, .int .i64 0, .int .i64 0, .int .i64 m0, .int .i64 m1, .int .i64 m2, .bool (decide (m3 = 1))] (by kernel_rfl) (by rw [← HW9.out]; exact KR8.out.put _) Try.underlying34 rfl (by kernel_rfl)) (by kernel_rfl) ?_
  have hp : w8.grownBy w9 (some w.heap.size) := by rw [← HW9.out]; exact grown_put w8 w.heap.size _
  exact ⟨rfl, HL8.out.kept hp (by omega) (by omega), N.grown2 HG8.out hp (Nat.le_refl _)⟩
set_option maxRecDepth 100000 in
set_option maxHeartbeats 600000 in
theorem rdEvent_7 (g r : Nat) (L : List Int) (t h kd n : Int) (hk7 : 7 ≤ kd) (w : World) (hh : L.headD 0 = h) (hk : h % 16 = kd) (hn : L.tail.headD 0 = n) (hl : N.Left w g r L) (hL : L.length ≤ 1000) (hi : ∀ x ∈ L, M.isn x) (hg : g < w.heap.size) (hr : r < w.heap.size) :
    Calls Try.prog 25 #[.pointer (some ⟨g, 0, none⟩), .int .i64 t] w (N.Got w g r ⟨kd, Go.RowKit.wrap64 (t + h / 16), 0, 0, 0, Y.zp⟩ L.tail) := by
  obtain ⟨w1, hw1, hb, hkk⟩ := Zn w 34 #[.int .i64 0, .int .i64 0, .int .i64 0, .int .i64 0, .int .i64 0, .int .i64 0, .int .i64 0, .int .i64 0, .bool false]
  have HG1 := Lib.hid (N.grown_below hb g)
  have KR1 := Lib.hid hkk
  have HL1 := Lib.hid (hl.below hb)
  have hs := N.head_isn hi
  rw [hh] at hs
  obtain ⟨n0, n1⟩ := hs
  have HI := Lib.hid (N.tail_isn hi)
  have HH := Lib.hid hh
  have d1 : decide (kd < 7) = false := decide_eq_false (by omega)
  have HN := Lib.hid hn
  clear hb hkk hl hh hi hn
  go_enter Try.func25, Try.ntmps25
  go_wp2_with fail
  refine (next_any g r L w1 HL1.out hL).mono ?_
  rintro e w2 ⟨rfl, hl2, hg2⟩
  rw [HH.out]
  have HL2 := Lib.hid hl2
  have HG2 := Lib.hid (N.grown_tr HG1.out hg2)
  have KR2 := Lib.hid (KR1.out.grown hg2 (by simp; omega))
  have sz2 := KR2.out.lt
  clear hl2 hg2 hw1
  obtain ⟨w3, hw3, hb, hkk⟩ := Zn w2 34 #[.int .i64 0, .int .i64 0, .int .i64 0, .int .i64 0, .int .i64 0, .int .i64 0, .int .i64 0, .int .i64 0, .bool false]
  have HG3 := Lib.hid (N.grown_tr HG2.out (N.grown_below hb g))
  have KR3 := Zk KR2 hb
  have KE3 := Lib.hid hkk
  have HL3 := Lib.hid (HL2.out.below hb)
  have sz3 := KE3.out.lt
  clear hb hkk
  have hq : w3.grownBy w3 (some w2.heap.size) := ⟨rfl, rfl, rfl, Nat.le_refl _, fun _ _ _ => rfl⟩
  obtain ⟨w6, hw6⟩ : ∃ W, w3 = W := ⟨_, rfl⟩
  subst hw6
  have KE6 := KE3
  have KR5 := KR3
  have HL5 := HL3
  have HG5 := HG3
  have KR6 := Lib.hid (KR5.out.grown hq (by simp; omega))
  have HL6 := Lib.hid (HL5.out.kept hq (by omega) (by omega))
  have HG6 := Lib.hid (N.grown2 HG5.out hq (by omega))
  obtain ⟨w7, hw7⟩ : ∃ W, w3.setCell ⟨w2.heap.size, 0, none⟩ (.int .i64 kd) = W := ⟨_, rfl⟩
  have hq7 : w3.grownBy w7 (some w2.heap.size) := by rw [← hw7]; exact grown_set1 _ _ _ _
  have KE7 : Hid (Blok w7 w2.heap.size 34 #[.int .i64 kd, .int .i64 0, .int .i64 0, .int .i64 0, .int .i64 0, .int .i64 0, .int .i64 0, .int .i64 0, .bool false]) := Lib.hid (by rw [← hw7]; simpa using KE6.out.set 0 (.int .i64 kd))
  have KR7 := Lib.hid (KR6.out.grown hq7 (by simp; omega))
  have HL7 := Lib.hid (HL6.out.kept hq7 (by omega) (by omega))
  have HG7 := Lib.hid (N.grown2 HG6.out hq7 (by omega))
  obtain ⟨w8, hw8⟩ : ∃ W, w7.setCell ⟨w2.heap.size, 1, none⟩ (.int .i64 (Go.RowKit.wrap64 (t + h / 16))) = W := ⟨_, rfl⟩
  have hq8 : w7.grownBy w8 (some w2.heap.size) := by rw [← hw8]; exact grown_set1 _ _ _ _
  have KE8 : Hid (Blok w8 w2.heap.size 34 #[.int .i64 kd, .int .i64 (Go.RowKit.wrap64 (t + h / 16)), .int .i64 0, .int .i64 0, .int .i64 0, .int .i64 0, .int .i64 0, .int .i64 0, .bool false]) := Lib.hid (by rw [← hw8]; simpa using KE7.out.set 1 (.int .i64 (Go.RowKit.wrap64 (t + h / 16))))
  have KR8 := Lib.hid (KR7.out.grown hq8 (by simp; omega))
  have HL8 := Lib.hid (HL7.out.kept hq8 (by omega) (by omega))
  have HG8 := Lib.hid (N.grown2 HG7.out hq8 (by omega))
  obtain ⟨w9, hw9⟩ : ∃ W, w8.setRow w.heap.size #[.int .i64 kd, .int .i64 (Go.RowKit.wrap64 (t + h / 16)), .int .i64 0, .int .i64 0, .int .i64 0, .int .i64 0, .int .i64 0, .int .i64 0, .bool false] = W := ⟨_, rfl⟩
  have HW9 := Lib.hid hw9
  have y0 := Zv KE6.out 0 (.int .i64 0)
  have y1 := Zv KE7.out 1 (.int .i64 0)
  have z0 := KE6.out.frozen 0
  have z1 := KE7.out.frozen 1
  have v0 := Zv KE8.out 0 (.int .i64 kd)
  have v1 := Zv KE8.out 1 (.int .i64 (Go.RowKit.wrap64 (t + h / 16)))
  have v2 := Zv KE8.out 2 (.int .i64 0)
  have v3 := Zv KE8.out 3 (.int .i64 0)
  have v4 := Zv KE8.out 4 (.int .i64 0)
  have v5 := Zv KE8.out 5 (.int .i64 0)
  have v6 := Zv KE8.out 6 (.int .i64 0)
  have v7 := Zv KE8.out 7 (.int .i64 0)
  have v8 := Zv KE8.out 8 (.bool false)
  clear hw9 hq hq7 hq8
  go_wp2_with (first | (refine Zw KR8.out HW9.out ?_))
  refine bodyPost_ret (ret_cell rfl w.heap.size #[.int .i64 kd, .int .i64 (Go.RowKit.wrap64 (t + h / 16)), .int .i64 0, .int .i64 0, .int .i64 0, .int .i64 0, .int .i64 0, .int .i64 0, .bool false] (by kernel_rfl) (by rw [← HW9.out]; exact KR8.out.put _) Try.underlying34 rfl (by kernel_rfl)) (by kernel_rfl) ?_
  have hp : w8.grownBy w9 (some w.heap.size) := by rw [← HW9.out]; exact grown_put w8 w.heap.size _
  exact ⟨rfl, HL8.out.kept hp (by omega) (by omega), N.grown2 HG8.out hp (Nat.le_refl _)⟩
end Go.Proofs.Ytebiogadkamgcaa
