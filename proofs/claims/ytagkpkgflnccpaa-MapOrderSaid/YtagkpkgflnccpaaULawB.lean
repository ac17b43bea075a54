/-
  MapOrder, at every map and every two blocks.
-/
import Derived.Test.YtagkpkgflnccpaaULaws
namespace Go.Proofs.Ytagkpkgflnccpaa
open Go.RowKit


set_option maxRecDepth 100000 in
set_option maxHeartbeats 4000000 in
theorem MapOrder_in (n u i k : Int) (w : World)  :
    Calls Try.prog 7 #[.agg #[.int .i64 n, .int .i64 u], .int .i64 i, .int .i64 k] w fun e w' => e = .returned (.bool true) ∧ Below w.heap.size w w' := by
  have HB0 := Lib.hid (ubox_below w n u)
  have HKu0 := Lib.hid (ubox_blok w n u)
  have ho := U.order (n := n) (u := u) (i := i) (k := k)
  have hcl := U.count_le n u
  obtain ⟨b1, hb1⟩ : ∃ b, U.off n u i = b := ⟨_, rfl⟩
  obtain ⟨a1, ha1⟩ : ∃ b, U.take n u i = b := ⟨_, rfl⟩
  obtain ⟨b2, hb2⟩ : ∃ b, U.off n a1 k = b := ⟨_, rfl⟩
  obtain ⟨a2, ha2⟩ : ∃ b, U.take n a1 k = b := ⟨_, rfl⟩
  obtain ⟨b3, hb3⟩ : ∃ b, U.off n u k = b := ⟨_, rfl⟩
  obtain ⟨c1, hc1⟩ : ∃ b, U.take n u k = b := ⟨_, rfl⟩
  obtain ⟨b4, hb4⟩ : ∃ b, U.off n c1 i = b := ⟨_, rfl⟩
  obtain ⟨c2, hc2⟩ : ∃ b, U.take n c1 i = b := ⟨_, rfl⟩
  obtain ⟨p, hp⟩ : ∃ b, U.count n u = b := ⟨_, rfl⟩
  obtain ⟨r, hr⟩ : ∃ b, U.count n a2 = b := ⟨_, rfl⟩
  unfold U.orderB at ho
  rw [ha1, hb1, hc1, hb3, hb2, ha2, hb4, hc2, hp, hr] at ho
  rw [hp] at hcl
  obtain ⟨p0, p8⟩ := hcl
  have hw : IntKind.i64.wrap (p + 2) = p + 2 := IntWalk.i64_in _ (by omega)
  have h1 := fun W => take_any n u i a1 b1 W hb1 ha1
  have h2 := fun W => take_any n a1 k a2 b2 W hb2 ha2
  have h3 := fun W => take_any n u k c1 b3 W hb3 hc1
  have h4 := fun W => take_any n c1 i c2 b4 W hb4 hc2
  have hcu := fun W => count_any n u p W hp
  have hca := fun W => count_any n a2 r W hr
  clear hb1 hb2 hb3 hb4 ha1 ha2 hc1 hc2 hp hr
  by_cases hik : i = k
  · have gi : (i == k) = true := by simpa using hik
    have gi2 : (i != k) = false := by simpa using hik
    clear hik ho
    go_enter Try.func7, Try.ntmps7
    go_wp2_with fail
    refine (uawake_any (ubox w n u)).mono ?_
    rintro e w1 ⟨rfl, hb⟩
    have HKu1 := Lib.hid (HKu0.out.below hb HKu0.out.lt)
    have uf0 := u0 HKu1.out
    have uf1 := u1 HKu1.out
    have HB1 := Lib.hid (HB0.out.trans (hb.mono HB0.out.size))
    have HS1 := Lib.hid hb
    clear hb
    go_wp2_with fail
    refine (h1 w1).mono ?_
    clear uf0 uf1
    rintro e w2 ⟨rfl, hb⟩
    have HKu2 := Lib.hid (HKu1.out.below hb HKu1.out.lt)
    have uf0 := u0 HKu2.out
    have uf1 := u1 HKu2.out
    have HB2 := Lib.hid (HB1.out.trans (hb.mono HB1.out.size))
    have HS2 := Lib.hid hb
    clear hb
    have Nua := Lib.hid (Nat.ne_of_lt HKu2.out.lt)
    have hb := ubox_below w2 n a1
    have HKu3 := Lib.hid (HKu2.out.below hb HKu2.out.lt)
    have uaa0 := fun o => u0 (HKu2.out.alloc o)
    have uaa1 := fun o => u1 (HKu2.out.alloc o)
    have HKa3 := Lib.hid (ubox_blok w2 n a1)
    have HB3 := Lib.hid (HB2.out.trans (hb.mono HB2.out.size))
    clear hb
    go_wp2_with fail
    refine (h2 (ubox w2 n a1)).mono ?_
    clear uf0 uf1 uaa0 uaa1
    rintro e w4 ⟨rfl, hb⟩
    have HKu4 := Lib.hid (HKu3.out.below hb HKu3.out.lt)
    have HKa4 := Lib.hid (HKa3.out.below hb HKa3.out.lt)
    have uf0 := u0 HKu4.out
    have uf1 := u1 HKu4.out
    have af0 := u0 HKa4.out
    have af1 := u1 HKa4.out
    have HB4 := Lib.hid (HB3.out.trans (hb.mono HB3.out.size))
    have HS4 := Lib.hid hb
    clear hb
    have az0 := HKa4.out.frozen 0
    have az1 := HKa4.out.frozen 1
    have HKsu := Lib.hid ((HKu4.out.far (p := ⟨w2.heap.size, 0, none⟩) Nua.out (.int .i64 n)).far (p := ⟨w2.heap.size, 1, none⟩) Nua.out (.int .i64 a2))
    have us0 := u0 HKsu.out
    have us1 := u1 HKsu.out
    have HKsa := Lib.hid (show Blok ((w4.setCell ⟨w2.heap.size, 0, none⟩ (.int .i64 n)).setCell ⟨w2.heap.size, 1, none⟩ (.int .i64 a2)) _ _ #[.int .i64 n, .int .i64 a2] by have := (HKa4.out.set 0 (.int .i64 n)).set 1 (.int .i64 a2); simpa using this)
    have as0 := u0 HKsa.out
    have as1 := u1 HKsa.out
    have HBs := Lib.hid ((HB4.out.setCell (p := ⟨w2.heap.size, 0, none⟩) (show w.heap.size ≤ w2.heap.size from HB2.out.size) (.int .i64 n)).setCell (p := ⟨w2.heap.size, 1, none⟩) (show w.heap.size ≤ w2.heap.size from HB2.out.size) (.int .i64 a2))
    go_wp2_with fail
    clear uf0 uf1 af0 af1 az0 az1 us0 us1 as0 as1
    obtain ⟨w5, hw5⟩ : ∃ w5, ((w4.setCell ⟨w2.heap.size, 0, none⟩ (.int .i64 n)).setCell ⟨w2.heap.size, 1, none⟩ (.int .i64 a2)) = w5 := ⟨_, rfl⟩
    have HKu5 := Lib.hid (by have h := HKsu.out; rw [hw5] at h; exact h)
    have HKa5 := Lib.hid (by have h := HKsa.out; rw [hw5] at h; exact h)
    have HB5 := Lib.hid (by have h := HBs.out; rw [hw5] at h; exact h)
    rw [hw5]
    clear hw5 HBs HKsu HKsa
    have uf0 := u0 HKu5.out
    have uf1 := u1 HKu5.out
    have af0 := u0 HKa5.out
    have af1 := u1 HKa5.out
    skip
    refine (h3 w5).mono ?_
    clear uf0 uf1 af0 af1
    rintro e w6 ⟨rfl, hb⟩
    have HKu6 := Lib.hid (HKu5.out.below hb HKu5.out.lt)
    have HKa6 := Lib.hid (HKa5.out.below hb HKa5.out.lt)
    have uf0 := u0 HKu6.out
    have uf1 := u1 HKu6.out
    have af0 := u0 HKa6.out
    have af1 := u1 HKa6.out
    have HB6 := Lib.hid (HB5.out.trans (hb.mono HB5.out.size))
    have HS6 := Lib.hid hb
    clear hb
    have Nub := Lib.hid (Nat.ne_of_lt HKu6.out.lt)
    have Nab := Lib.hid (Nat.ne_of_lt HKa6.out.lt)
    have hb := ubox_below w6 n c1
    have HKu7 := Lib.hid (HKu6.out.below hb HKu6.out.lt)
    have uba0 := fun o => u0 (HKu6.out.alloc o)
    have uba1 := fun o => u1 (HKu6.out.alloc o)
    have HKa7 := Lib.hid (HKa6.out.below hb HKa6.out.lt)
    have aba0 := fun o => u0 (HKa6.out.alloc o)
    have aba1 := fun o => u1 (HKa6.out.alloc o)
    have HKb7 := Lib.hid (ubox_blok w6 n c1)
    have HB7 := Lib.hid (HB6.out.trans (hb.mono HB6.out.size))
    clear hb
    go_wp2_with fail
    refine (h4 (ubox w6 n c1)).mono ?_
    clear uf0 uf1 af0 af1 uba0 uba1 aba0 aba1
    rintro e w8 ⟨rfl, hb⟩
    have HKu8 := Lib.hid (HKu7.out.below hb HKu7.out.lt)
    have HKa8 := Lib.hid (HKa7.out.below hb HKa7.out.lt)
    have HKb8 := Lib.hid (HKb7.out.below hb HKb7.out.lt)
    have uf0 := u0 HKu8.out
    have uf1 := u1 HKu8.out
    have af0 := u0 HKa8.out
    have af1 := u1 HKa8.out
    have bf0 := u0 HKb8.out
    have bf1 := u1 HKb8.out
    have HB8 := Lib.hid (HB7.out.trans (hb.mono HB7.out.size))
    have HS8 := Lib.hid hb
    clear hb
    have bz0 := HKb8.out.frozen 0
    have bz1 := HKb8.out.frozen 1
    have HKsu := Lib.hid ((HKu8.out.far (p := ⟨w6.heap.size, 0, none⟩) Nub.out (.int .i64 n)).far (p := ⟨w6.heap.size, 1, none⟩) Nub.out (.int .i64 c2))
    have us0 := u0 HKsu.out
    have us1 := u1 HKsu.out
    have HKsa := Lib.hid ((HKa8.out.far (p := ⟨w6.heap.size, 0, none⟩) Nab.out (.int .i64 n)).far (p := ⟨w6.heap.size, 1, none⟩) Nab.out (.int .i64 c2))
    have as0 := u0 HKsa.out
    have as1 := u1 HKsa.out
    have HKsb := Lib.hid (show Blok ((w8.setCell ⟨w6.heap.size, 0, none⟩ (.int .i64 n)).setCell ⟨w6.heap.size, 1, none⟩ (.int .i64 c2)) _ _ #[.int .i64 n, .int .i64 c2] by have := (HKb8.out.set 0 (.int .i64 n)).set 1 (.int .i64 c2); simpa using this)
    have bs0 := u0 HKsb.out
    have bs1 := u1 HKsb.out
    have HBs := Lib.hid ((HB8.out.setCell (p := ⟨w6.heap.size, 0, none⟩) (show w.heap.size ≤ w6.heap.size from HB6.out.size) (.int .i64 n)).setCell (p := ⟨w6.heap.size, 1, none⟩) (show w.heap.size ≤ w6.heap.size from HB6.out.size) (.int .i64 c2))
    go_wp2_with fail
    clear uf0 uf1 af0 af1 bf0 bf1 bz0 bz1 us0 us1 as0 as1 bs0 bs1
    obtain ⟨w9, hw9⟩ : ∃ w9, ((w8.setCell ⟨w6.heap.size, 0, none⟩ (.int .i64 n)).setCell ⟨w6.heap.size, 1, none⟩ (.int .i64 c2)) = w9 := ⟨_, rfl⟩
    have HKu9 := Lib.hid (by have h := HKsu.out; rw [hw9] at h; exact h)
    have HKa9 := Lib.hid (by have h := HKsa.out; rw [hw9] at h; exact h)
    have HKb9 := Lib.hid (by have h := HKsb.out; rw [hw9] at h; exact h)
    have HB9 := Lib.hid (by have h := HBs.out; rw [hw9] at h; exact h)
    rw [hw9]
    clear hw9 HBs HKsu HKsa HKsb
    have uf0 := u0 HKu9.out
    have uf1 := u1 HKu9.out
    have af0 := u0 HKa9.out
    have af1 := u1 HKa9.out
    have bf0 := u0 HKb9.out
    have bf1 := u1 HKb9.out
    clear uf0 uf1 af0 af1 bf0 bf1
    have uc0 := fun d os => cell_regrown (u0 HKu9.out) d os
    have uf0 := u0 HKu9.out
    have uc1 := fun d os => cell_regrown (u1 HKu9.out) d os
    have uf1 := u1 HKu9.out
    have ac0 := fun d os => cell_regrown (u0 HKa9.out) d os
    have af0 := u0 HKa9.out
    have ac1 := fun d os => cell_regrown (u1 HKa9.out) d os
    have af1 := u1 HKa9.out
    have bc0 := fun d os => cell_regrown (u0 HKb9.out) d os
    have bf0 := u0 HKb9.out
    have bc1 := fun d os => cell_regrown (u1 HKb9.out) d os
    have bf1 := u1 HKb9.out
    skip
    refine wp_region_quiet_below (by kernel_rfl) (by kernel_rfl) ?_
    repeat (go_big_quiet_step (fail))
    refine wpQuiet_nil ?_
    intro _ hw'
    obtain ⟨⟨dq, osq⟩, hw''⟩ := hw'
    subst hw''
    clear uc0 uf0 uc1 uf1 ac0 af0 ac1 af1 bc0 bf0 bc1 bf1
    obtain ⟨w10, hw10⟩ : ∃ w10, Go.Sort.grow (redrawn w9 dq) osq = w10 := ⟨_, rfl⟩
    have hb : Below w9.heap.size w9 w10 := by rw [← hw10]; exact below_regrown _ _ _
    rw [hw10]
    clear hw10
    have HKu10 := Lib.hid (HKu9.out.below hb HKu9.out.lt)
    have HKa10 := Lib.hid (HKa9.out.below hb HKa9.out.lt)
    have HKb10 := Lib.hid (HKb9.out.below hb HKb9.out.lt)
    have uf0 := u0 HKu10.out
    have uf1 := u1 HKu10.out
    have af0 := u0 HKa10.out
    have af1 := u1 HKa10.out
    have bf0 := u0 HKb10.out
    have bf1 := u1 HKb10.out
    have HB10 := Lib.hid (HB9.out.trans (hb.mono HB9.out.size))
    have HS10 := Lib.hid hb
    clear hb
    go_wp2
    go_ret
    exact ⟨rfl, HB10.out⟩
  · have gi : (i == k) = false := by simpa using hik
    have gi2 : (i != k) = true := by simpa using hik
    rw [gi] at ho
    have HO := Lib.hid ho
    clear hik ho
    by_cases hall : (b1 && b2) = true
    · obtain ⟨rfl, rfl⟩ : b1 = true ∧ b2 = true := by simpa using hall
      have h0 := HO.out
      simp only [Bool.false_or, Bool.and_true, Bool.not_true, Bool.and_eq_true, beq_iff_eq] at h0
      obtain ⟨h01, h02, rfl⟩ := h0
      obtain ⟨rfl, rfl⟩ : b3 = true ∧ b4 = true := by simpa using h01
      obtain rfl : a2 = c2 := by simpa using h02
      clear hall h01 h02 HO
      go_enter Try.func7, Try.ntmps7
      go_wp2_with fail
      refine (uawake_any (ubox w n u)).mono ?_
      rintro e w1 ⟨rfl, hb⟩
      have HKu1 := Lib.hid (HKu0.out.below hb HKu0.out.lt)
      have uf0 := u0 HKu1.out
      have uf1 := u1 HKu1.out
      have HB1 := Lib.hid (HB0.out.trans (hb.mono HB0.out.size))
      have HS1 := Lib.hid hb
      clear hb
      go_wp2_with fail
      refine (h1 w1).mono ?_
      clear uf0 uf1
      rintro e w2 ⟨rfl, hb⟩
      have HKu2 := Lib.hid (HKu1.out.below hb HKu1.out.lt)
      have uf0 := u0 HKu2.out
      have uf1 := u1 HKu2.out
      have HB2 := Lib.hid (HB1.out.trans (hb.mono HB1.out.size))
      have HS2 := Lib.hid hb
      clear hb
      have Nua := Lib.hid (Nat.ne_of_lt HKu2.out.lt)
      have hb := ubox_below w2 n a1
      have HKu3 := Lib.hid (HKu2.out.below hb HKu2.out.lt)
      have uaa0 := fun o => u0 (HKu2.out.alloc o)
      have uaa1 := fun o => u1 (HKu2.out.alloc o)
      have HKa3 := Lib.hid (ubox_blok w2 n a1)
      have HB3 := Lib.hid (HB2.out.trans (hb.mono HB2.out.size))
      clear hb
      go_wp2_with fail
      refine (h2 (ubox w2 n a1)).mono ?_
      clear uf0 uf1 uaa0 uaa1
      rintro e w4 ⟨rfl, hb⟩
      have HKu4 := Lib.hid (HKu3.out.below hb HKu3.out.lt)
      have HKa4 := Lib.hid (HKa3.out.below hb HKa3.out.lt)
      have uf0 := u0 HKu4.out
      have uf1 := u1 HKu4.out
      have af0 := u0 HKa4.out
      have af1 := u1 HKa4.out
      have HB4 := Lib.hid (HB3.out.trans (hb.mono HB3.out.size))
      have HS4 := Lib.hid hb
      clear hb
      have az0 := HKa4.out.frozen 0
      have az1 := HKa4.out.frozen 1
      have HKsu := Lib.hid ((HKu4.out.far (p := ⟨w2.heap.size, 0, none⟩) Nua.out (.int .i64 n)).far (p := ⟨w2.heap.size, 1, none⟩) Nua.out (.int .i64 a2))
      have us0 := u0 HKsu.out
      have us1 := u1 HKsu.out
      have HKsa := Lib.hid (show Blok ((w4.setCell ⟨w2.heap.size, 0, none⟩ (.int .i64 n)).setCell ⟨w2.heap.size, 1, none⟩ (.int .i64 a2)) _ _ #[.int .i64 n, .int .i64 a2] by have := (HKa4.out.set 0 (.int .i64 n)).set 1 (.int .i64 a2); simpa using this)
      have as0 := u0 HKsa.out
      have as1 := u1 HKsa.out
      have HBs := Lib.hid ((HB4.out.setCell (p := ⟨w2.heap.size, 0, none⟩) (show w.heap.size ≤ w2.heap.size from HB2.out.size) (.int .i64 n)).setCell (p := ⟨w2.heap.size, 1, none⟩) (show w.heap.size ≤ w2.heap.size from HB2.out.size) (.int .i64 a2))
      go_wp2_with fail
      clear uf0 uf1 af0 af1 az0 az1 us0 us1 as0 as1
      obtain ⟨w5, hw5⟩ : ∃ w5, ((w4.setCell ⟨w2.heap.size, 0, none⟩ (.int .i64 n)).setCell ⟨w2.heap.size, 1, none⟩ (.int .i64 a2)) = w5 := ⟨_, rfl⟩
      have HKu5 := Lib.hid (by have h := HKsu.out; rw [hw5] at h; exact h)
      have HKa5 := Lib.hid (by have h := HKsa.out; rw [hw5] at h; exact h)
      have HB5 := Lib.hid (by have h := HBs.out; rw [hw5] at h; exact h)
      rw [hw5]
      clear hw5 HBs HKsu HKsa
      have uf0 := u0 HKu5.out
      have uf1 := u1 HKu5.out
      have af0 := u0 HKa5.out
      have af1 := u1 HKa5.out
      skip
      refine (h3 w5).mono ?_
      clear uf0 uf1 af0 af1
      rintro e w6 ⟨rfl, hb⟩
      have HKu6 := Lib.hid (HKu5.out.below hb HKu5.out.lt)
      have HKa6 := Lib.hid (HKa5.out.below hb HKa5.out.lt)
      have uf0 := u0 HKu6.out
      have uf1 := u1 HKu6.out
      have af0 := u0 HKa6.out
      have af1 := u1 HKa6.out
      have HB6 := Lib.hid (HB5.out.trans (hb.mono HB5.out.size))
      have HS6 := Lib.hid hb
      clear hb
      have Nub := Lib.hid (Nat.ne_of_lt HKu6.out.lt)
      have Nab := Lib.hid (Nat.ne_of_lt HKa6.out.lt)
      have hb := ubox_below w6 n c1
      have HKu7 := Lib.hid (HKu6.out.below hb HKu6.out.lt)
      have uba0 := fun o => u0 (HKu6.out.alloc o)
      have uba1 := fun o => u1 (HKu6.out.alloc o)
      have HKa7 := Lib.hid (HKa6.out.below hb HKa6.out.lt)
      have aba0 := fun o => u0 (HKa6.out.alloc o)
      have aba1 := fun o => u1 (HKa6.out.alloc o)
      have HKb7 := Lib.hid (ubox_blok w6 n c1)
      have HB7 := Lib.hid (HB6.out.trans (hb.mono HB6.out.size))
      clear hb
      go_wp2_with fail
      refine (h4 (ubox w6 n c1)).mono ?_
      clear uf0 uf1 af0 af1 uba0 uba1 aba0 aba1
      rintro e w8 ⟨rfl, hb⟩
      have HKu8 := Lib.hid (HKu7.out.below hb HKu7.out.lt)
      have HKa8 := Lib.hid (HKa7.out.below hb HKa7.out.lt)
      have HKb8 := Lib.hid (HKb7.out.below hb HKb7.out.lt)
      have uf0 := u0 HKu8.out
      have uf1 := u1 HKu8.out
      have af0 := u0 HKa8.out
      have af1 := u1 HKa8.out
      have bf0 := u0 HKb8.out
      have bf1 := u1 HKb8.out
      have HB8 := Lib.hid (HB7.out.trans (hb.mono HB7.out.size))
      have HS8 := Lib.hid hb
      clear hb
      have bz0 := HKb8.out.frozen 0
      have bz1 := HKb8.out.frozen 1
      have HKsu := Lib.hid ((HKu8.out.far (p := ⟨w6.heap.size, 0, none⟩) Nub.out (.int .i64 n)).far (p := ⟨w6.heap.size, 1, none⟩) Nub.out (.int .i64 a2))
      have us0 := u0 HKsu.out
      have us1 := u1 HKsu.out
      have HKsa := Lib.hid ((HKa8.out.far (p := ⟨w6.heap.size, 0, none⟩) Nab.out (.int .i64 n)).far (p := ⟨w6.heap.size, 1, none⟩) Nab.out (.int .i64 a2))
      have as0 := u0 HKsa.out
      have as1 := u1 HKsa.out
      have HKsb := Lib.hid (show Blok ((w8.setCell ⟨w6.heap.size, 0, none⟩ (.int .i64 n)).setCell ⟨w6.heap.size, 1, none⟩ (.int .i64 a2)) _ _ #[.int .i64 n, .int .i64 a2] by have := (HKb8.out.set 0 (.int .i64 n)).set 1 (.int .i64 a2); simpa using this)
      have bs0 := u0 HKsb.out
      have bs1 := u1 HKsb.out
      have HBs := Lib.hid ((HB8.out.setCell (p := ⟨w6.heap.size, 0, none⟩) (show w.heap.size ≤ w6.heap.size from HB6.out.size) (.int .i64 n)).setCell (p := ⟨w6.heap.size, 1, none⟩) (show w.heap.size ≤ w6.heap.size from HB6.out.size) (.int .i64 a2))
      go_wp2_with fail
      clear uf0 uf1 af0 af1 bf0 bf1 bz0 bz1 us0 us1 as0 as1 bs0 bs1
      obtain ⟨w9, hw9⟩ : ∃ w9, ((w8.setCell ⟨w6.heap.size, 0, none⟩ (.int .i64 n)).setCell ⟨w6.heap.size, 1, none⟩ (.int .i64 a2)) = w9 := ⟨_, rfl⟩
      have HKu9 := Lib.hid (by have h := HKsu.out; rw [hw9] at h; exact h)
      have HKa9 := Lib.hid (by have h := HKsa.out; rw [hw9] at h; exact h)
      have HKb9 := Lib.hid (by have h := HKsb.out; rw [hw9] at h; exact h)
      have HB9 := Lib.hid (by have h := HBs.out; rw [hw9] at h; exact h)
      rw [hw9]
      clear hw9 HBs HKsu HKsa HKsb
      have uf0 := u0 HKu9.out
      have uf1 := u1 HKu9.out
      have af0 := u0 HKa9.out
      have af1 := u1 HKa9.out
      have bf0 := u0 HKb9.out
      have bf1 := u1 HKb9.out
      clear uf0 uf1 af0 af1 bf0 bf1
      have uc0 := fun d os => cell_regrown (u0 HKu9.out) d os
      have uf0 := u0 HKu9.out
      have uc1 := fun d os => cell_regrown (u1 HKu9.out) d os
      have uf1 := u1 HKu9.out
      have ac0 := fun d os => cell_regrown (u0 HKa9.out) d os
      have af0 := u0 HKa9.out
      have ac1 := fun d os => cell_regrown (u1 HKa9.out) d os
      have af1 := u1 HKa9.out
      have bc0 := fun d os => cell_regrown (u0 HKb9.out) d os
      have bf0 := u0 HKb9.out
      have bc1 := fun d os => cell_regrown (u1 HKb9.out) d os
      have bf1 := u1 HKb9.out
      skip
      refine wp_region_quiet_below (by kernel_rfl) (by kernel_rfl) ?_
      repeat (go_big_quiet_step (first | with_reducible exact Calls.regrown_of (hcu _) | with_reducible exact Calls.regrown_of (hca _)))
      refine wpQuiet_nil ?_
      intro _ hw'
      obtain ⟨⟨dq, osq⟩, hw''⟩ := hw'
      subst hw''
      clear uc0 uf0 uc1 uf1 ac0 af0 ac1 af1 bc0 bf0 bc1 bf1
      obtain ⟨w10, hw10⟩ : ∃ w10, Go.Sort.grow (redrawn w9 dq) osq = w10 := ⟨_, rfl⟩
      have hb : Below w9.heap.size w9 w10 := by rw [← hw10]; exact below_regrown _ _ _
      rw [hw10]
      clear hw10
      have HKu10 := Lib.hid (HKu9.out.below hb HKu9.out.lt)
      have HKa10 := Lib.hid (HKa9.out.below hb HKa9.out.lt)
      have HKb10 := Lib.hid (HKb9.out.below hb HKb9.out.lt)
      have uf0 := u0 HKu10.out
      have uf1 := u1 HKu10.out
      have af0 := u0 HKa10.out
      have af1 := u1 HKa10.out
      have bf0 := u0 HKb10.out
      have bf1 := u1 HKb10.out
      have HB10 := Lib.hid (HB9.out.trans (hb.mono HB9.out.size))
      have HS10 := Lib.hid hb
      clear hb
      go_wp2
      go_ret
      exact ⟨rfl, HB10.out⟩
    · have HC : Hid ((!(b1 && b2) && !(b3 && b4)) = true) := Lib.hid (by
        have e : (b1 && b2) = false := by simpa using hall
        have h0 := HO.out
        rw [e] at h0 ⊢
        cases h34 : (b3 && b4) with
        | false => rfl
        | true => rw [h34] at h0; cases h0)
      have HC1 : b1 = false ∨ (b1 = true ∧ b2 = false) := by (have h := HC.out; revert h; cases b1 <;> cases b2 <;> simp)
      have HC3 : b3 = false ∨ (b3 = true ∧ b4 = false) := by (have h := HC.out; revert h; cases b3 <;> cases b4 <;> simp)
      clear hall HO HC hcu hca hw
      rcases HC1 with rfl | ⟨rfl, rfl⟩ <;> rcases HC3 with rfl | ⟨rfl, rfl⟩
      all_goals (
        go_enter Try.func7, Try.ntmps7
        go_wp2_with fail
        refine (uawake_any (ubox w n u)).mono ?_
        rintro e w1 ⟨rfl, hb⟩
        have HKu1 := Lib.hid (HKu0.out.below hb HKu0.out.lt)
        have uf0 := u0 HKu1.out
        have uf1 := u1 HKu1.out
        have HB1 := Lib.hid (HB0.out.trans (hb.mono HB0.out.size))
        have HS1 := Lib.hid hb
        clear hb
        go_wp2_with fail
        refine (h1 w1).mono ?_
        clear uf0 uf1
        rintro e w2 ⟨rfl, hb⟩
        have HKu2 := Lib.hid (HKu1.out.below hb HKu1.out.lt)
        have uf0 := u0 HKu2.out
        have uf1 := u1 HKu2.out
        have HB2 := Lib.hid (HB1.out.trans (hb.mono HB1.out.size))
        have HS2 := Lib.hid hb
        clear hb
        have Nua := Lib.hid (Nat.ne_of_lt HKu2.out.lt)
        have hb := ubox_below w2 n a1
        have HKu3 := Lib.hid (HKu2.out.below hb HKu2.out.lt)
        have uaa0 := fun o => u0 (HKu2.out.alloc o)
        have uaa1 := fun o => u1 (HKu2.out.alloc o)
        have HKa3 := Lib.hid (ubox_blok w2 n a1)
        have HB3 := Lib.hid (HB2.out.trans (hb.mono HB2.out.size))
        clear hb
        go_wp2_with fail
        refine (h2 (ubox w2 n a1)).mono ?_
        clear uf0 uf1 uaa0 uaa1
        rintro e w4 ⟨rfl, hb⟩
        have HKu4 := Lib.hid (HKu3.out.below hb HKu3.out.lt)
        have HKa4 := Lib.hid (HKa3.out.below hb HKa3.out.lt)
        have uf0 := u0 HKu4.out
        have uf1 := u1 HKu4.out
        have af0 := u0 HKa4.out
        have af1 := u1 HKa4.out
        have HB4 := Lib.hid (HB3.out.trans (hb.mono HB3.out.size))
        have HS4 := Lib.hid hb
        clear hb
        have az0 := HKa4.out.frozen 0
        have az1 := HKa4.out.frozen 1
        have HKsu := Lib.hid ((HKu4.out.far (p := ⟨w2.heap.size, 0, none⟩) Nua.out (.int .i64 n)).far (p := ⟨w2.heap.size, 1, none⟩) Nua.out (.int .i64 a2))
        have us0 := u0 HKsu.out
        have us1 := u1 HKsu.out
        have HKsa := Lib.hid (show Blok ((w4.setCell ⟨w2.heap.size, 0, none⟩ (.int .i64 n)).setCell ⟨w2.heap.size, 1, none⟩ (.int .i64 a2)) _ _ #[.int .i64 n, .int .i64 a2] by have := (HKa4.out.set 0 (.int .i64 n)).set 1 (.int .i64 a2); simpa using this)
        have as0 := u0 HKsa.out
        have as1 := u1 HKsa.out
        have HBs := Lib.hid ((HB4.out.setCell (p := ⟨w2.heap.size, 0, none⟩) (show w.heap.size ≤ w2.heap.size from HB2.out.size) (.int .i64 n)).setCell (p := ⟨w2.heap.size, 1, none⟩) (show w.heap.size ≤ w2.heap.size from HB2.out.size) (.int .i64 a2))
        go_wp2_with fail
        clear uf0 uf1 af0 af1 az0 az1 us0 us1 as0 as1
        obtain ⟨w5, hw5⟩ : ∃ w5, ((w4.setCell ⟨w2.heap.size, 0, none⟩ (.int .i64 n)).setCell ⟨w2.heap.size, 1, none⟩ (.int .i64 a2)) = w5 := ⟨_, rfl⟩
        have HKu5 := Lib.hid (by have h := HKsu.out; rw [hw5] at h; exact h)
        have HKa5 := Lib.hid (by have h := HKsa.out; rw [hw5] at h; exact h)
        have HB5 := Lib.hid (by have h := HBs.out; rw [hw5] at h; exact h)
        rw [hw5]
        clear hw5 HBs HKsu HKsa
        have uf0 := u0 HKu5.out
        have uf1 := u1 HKu5.out
        have af0 := u0 HKa5.out
        have af1 := u1 HKa5.out
        skip
        refine (h3 w5).mono ?_
        clear uf0 uf1 af0 af1
        rintro e w6 ⟨rfl, hb⟩
        have HKu6 := Lib.hid (HKu5.out.below hb HKu5.out.lt)
        have HKa6 := Lib.hid (HKa5.out.below hb HKa5.out.lt)
        have uf0 := u0 HKu6.out
        have uf1 := u1 HKu6.out
        have af0 := u0 HKa6.out
        have af1 := u1 HKa6.out
        have HB6 := Lib.hid (HB5.out.trans (hb.mono HB5.out.size))
        have HS6 := Lib.hid hb
        clear hb
        have Nub := Lib.hid (Nat.ne_of_lt HKu6.out.lt)
        have Nab := Lib.hid (Nat.ne_of_lt HKa6.out.lt)
        have hb := ubox_below w6 n c1
        have HKu7 := Lib.hid (HKu6.out.below hb HKu6.out.lt)
        have uba0 := fun o => u0 (HKu6.out.alloc o)
        have uba1 := fun o => u1 (HKu6.out.alloc o)
        have HKa7 := Lib.hid (HKa6.out.below hb HKa6.out.lt)
        have aba0 := fun o => u0 (HKa6.out.alloc o)
        have aba1 := fun o => u1 (HKa6.out.alloc o)
        have HKb7 := Lib.hid (ubox_blok w6 n c1)
        have HB7 := Lib.hid (HB6.out.trans (hb.mono HB6.out.size))
        clear hb
        go_wp2_with fail
        refine (h4 (ubox w6 n c1)).mono ?_
        clear uf0 uf1 af0 af1 uba0 uba1 aba0 aba1
        rintro e w8 ⟨rfl, hb⟩
        have HKu8 := Lib.hid (HKu7.out.below hb HKu7.out.lt)
        have HKa8 := Lib.hid (HKa7.out.below hb HKa7.out.lt)
        have HKb8 := Lib.hid (HKb7.out.below hb HKb7.out.lt)
        have uf0 := u0 HKu8.out
        have uf1 := u1 HKu8.out
        have af0 := u0 HKa8.out
        have af1 := u1 HKa8.out
        have bf0 := u0 HKb8.out
        have bf1 := u1 HKb8.out
        have HB8 := Lib.hid (HB7.out.trans (hb.mono HB7.out.size))
        have HS8 := Lib.hid hb
        clear hb
        have bz0 := HKb8.out.frozen 0
        have bz1 := HKb8.out.frozen 1
        have HKsu := Lib.hid ((HKu8.out.far (p := ⟨w6.heap.size, 0, none⟩) Nub.out (.int .i64 n)).far (p := ⟨w6.heap.size, 1, none⟩) Nub.out (.int .i64 c2))
        have us0 := u0 HKsu.out
        have us1 := u1 HKsu.out
        have HKsa := Lib.hid ((HKa8.out.far (p := ⟨w6.heap.size, 0, none⟩) Nab.out (.int .i64 n)).far (p := ⟨w6.heap.size, 1, none⟩) Nab.out (.int .i64 c2))
        have as0 := u0 HKsa.out
        have as1 := u1 HKsa.out
        have HKsb := Lib.hid (show Blok ((w8.setCell ⟨w6.heap.size, 0, none⟩ (.int .i64 n)).setCell ⟨w6.heap.size, 1, none⟩ (.int .i64 c2)) _ _ #[.int .i64 n, .int .i64 c2] by have := (HKb8.out.set 0 (.int .i64 n)).set 1 (.int .i64 c2); simpa using this)
        have bs0 := u0 HKsb.out
        have bs1 := u1 HKsb.out
        have HBs := Lib.hid ((HB8.out.setCell (p := ⟨w6.heap.size, 0, none⟩) (show w.heap.size ≤ w6.heap.size from HB6.out.size) (.int .i64 n)).setCell (p := ⟨w6.heap.size, 1, none⟩) (show w.heap.size ≤ w6.heap.size from HB6.out.size) (.int .i64 c2))
        go_wp2_with fail
        clear uf0 uf1 af0 af1 bf0 bf1 bz0 bz1 us0 us1 as0 as1 bs0 bs1
        obtain ⟨w9, hw9⟩ : ∃ w9, ((w8.setCell ⟨w6.heap.size, 0, none⟩ (.int .i64 n)).setCell ⟨w6.heap.size, 1, none⟩ (.int .i64 c2)) = w9 := ⟨_, rfl⟩
        have HKu9 := Lib.hid (by have h := HKsu.out; rw [hw9] at h; exact h)
        have HKa9 := Lib.hid (by have h := HKsa.out; rw [hw9] at h; exact h)
        have HKb9 := Lib.hid (by have h := HKsb.out; rw [hw9] at h; exact h)
        have HB9 := Lib.hid (by have h := HBs.out; rw [hw9] at h; exact h)
        rw [hw9]
        clear hw9 HBs HKsu HKsa HKsb
        have uf0 := u0 HKu9.out
        have uf1 := u1 HKu9.out
        have af0 := u0 HKa9.out
        have af1 := u1 HKa9.out
        have bf0 := u0 HKb9.out
        have bf1 := u1 HKb9.out
        clear uf0 uf1 af0 af1 bf0 bf1
        have uc0 := fun d os => cell_regrown (u0 HKu9.out) d os
        have uf0 := u0 HKu9.out
        have uc1 := fun d os => cell_regrown (u1 HKu9.out) d os
        have uf1 := u1 HKu9.out
        have ac0 := fun d os => cell_regrown (u0 HKa9.out) d os
        have af0 := u0 HKa9.out
        have ac1 := fun d os => cell_regrown (u1 HKa9.out) d os
        have af1 := u1 HKa9.out
        have bc0 := fun d os => cell_regrown (u0 HKb9.out) d os
        have bf0 := u0 HKb9.out
        have bc1 := fun d os => cell_regrown (u1 HKb9.out) d os
        have bf1 := u1 HKb9.out
        skip
        refine wp_region_quiet_below (by kernel_rfl) (by kernel_rfl) ?_
        repeat (go_big_quiet_step (fail))
        refine wpQuiet_nil ?_
        intro _ hw'
        obtain ⟨⟨dq, osq⟩, hw''⟩ := hw'
        subst hw''
        clear uc0 uf0 uc1 uf1 ac0 af0 ac1 af1 bc0 bf0 bc1 bf1
        obtain ⟨w10, hw10⟩ : ∃ w10, Go.Sort.grow (redrawn w9 dq) osq = w10 := ⟨_, rfl⟩
        have hb : Below w9.heap.size w9 w10 := by rw [← hw10]; exact below_regrown _ _ _
        rw [hw10]
        clear hw10
        have HKu10 := Lib.hid (HKu9.out.below hb HKu9.out.lt)
        have HKa10 := Lib.hid (HKa9.out.below hb HKa9.out.lt)
        have HKb10 := Lib.hid (HKb9.out.below hb HKb9.out.lt)
        have uf0 := u0 HKu10.out
        have uf1 := u1 HKu10.out
        have af0 := u0 HKa10.out
        have af1 := u1 HKa10.out
        have bf0 := u0 HKb10.out
        have bf1 := u1 HKb10.out
        have HB10 := Lib.hid (HB9.out.trans (hb.mono HB9.out.size))
        have HS10 := Lib.hid hb
        clear hb
        go_wp2
        go_ret
        exact ⟨rfl, HB10.out⟩)
end Go.Proofs.Ytagkpkgflnccpaa
