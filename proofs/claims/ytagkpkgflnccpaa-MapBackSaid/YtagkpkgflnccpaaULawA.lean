/-
  MapBack, at every map and every two blocks.
-/
import Derived.Test.YtagkpkgflnccpaaULaws
namespace Go.Proofs.Ytagkpkgflnccpaa
open Go.RowKit


set_option maxRecDepth 100000 in
set_option maxHeartbeats 1000000 in
theorem MapBack_in (n u i k : Int) (w : World)  :
    Calls Try.prog 4 #[.agg #[.int .i64 n, .int .i64 u], .int .i64 i, .int .i64 k] w fun e w' => e = .returned (.bool true) ∧ Below w.heap.size w w' := by
  have HB0 := Lib.hid (ubox_below w n u)
  have HKu0 := Lib.hid (ubox_blok w n u)
  cases hb0 : U.off n u i
  · obtain ⟨y, hy⟩ : ∃ y, U.give n u i = y := ⟨_, rfl⟩
    obtain ⟨c, hc⟩ : ∃ c, U.has n u i = c := ⟨_, rfl⟩
    have ht := fun W => take_any n u i u false W hb0 (U.stay hb0)
    have hg := fun W => give_any n u i y c W hc hy
    clear hb0 hy hc
    go_enter Try.func4, Try.ntmps4
    go_wp2_with fail
    refine (uawake_any (ubox w n u)).mono ?_
    rintro e w1 ⟨rfl, hb⟩
    have HKu1 := Lib.hid (HKu0.out.below hb HKu0.out.lt)
    have uf0 := u0 HKu1.out
    have uf1 := u1 HKu1.out
    have HB1 := Lib.hid (HB0.out.trans (hb.mono HB0.out.size))
    clear hb
    go_wp2_with fail
    refine (ht w1).mono ?_
    clear uf0 uf1
    rintro e w2 ⟨rfl, hb⟩
    have HKu2 := Lib.hid (HKu1.out.below hb HKu1.out.lt)
    have uf0 := u0 HKu2.out
    have uf1 := u1 HKu2.out
    have HB2 := Lib.hid (HB1.out.trans (hb.mono HB1.out.size))
    clear hb
    have hb := ubox_below w2 n u
    have HKu3 := Lib.hid (HKu2.out.below hb HKu2.out.lt)
    have uaa0 := fun o => u0 (HKu2.out.alloc o)
    have uaa1 := fun o => u1 (HKu2.out.alloc o)
    have HKa3 := Lib.hid (ubox_blok w2 n u)
    have HB3 := Lib.hid (HB2.out.trans (hb.mono HB2.out.size))
    clear hb
    go_wp2_with fail
    refine (hg (ubox w2 n u)).mono ?_
    clear uf0 uf1 uaa0 uaa1
    rintro e w4 ⟨rfl, hb⟩
    have HKu4 := Lib.hid (HKu3.out.below hb HKu3.out.lt)
    have HKa4 := Lib.hid (HKa3.out.below hb HKa3.out.lt)
    have uf0 := u0 HKu4.out
    have uf1 := u1 HKu4.out
    have af0 := u0 HKa4.out
    have af1 := u1 HKa4.out
    have HB4 := Lib.hid (HB3.out.trans (hb.mono HB3.out.size))
    clear hb
    have hb := ubox_below w4 n y
    have HKu5 := Lib.hid (HKu4.out.below hb HKu4.out.lt)
    have uba0 := fun o => u0 (HKu4.out.alloc o)
    have uba1 := fun o => u1 (HKu4.out.alloc o)
    have HKa5 := Lib.hid (HKa4.out.below hb HKa4.out.lt)
    have aba0 := fun o => u0 (HKa4.out.alloc o)
    have aba1 := fun o => u1 (HKa4.out.alloc o)
    have HKb5 := Lib.hid (ubox_blok w4 n y)
    have HB5 := Lib.hid (HB4.out.trans (hb.mono HB4.out.size))
    clear hb
    go_wp2_with fail
    refine (ht (ubox w4 n y)).mono ?_
    clear uf0 uf1 af0 af1 uba0 uba1 aba0 aba1
    rintro e w6 ⟨rfl, hb⟩
    have HKu6 := Lib.hid (HKu5.out.below hb HKu5.out.lt)
    have HKa6 := Lib.hid (HKa5.out.below hb HKa5.out.lt)
    have HKb6 := Lib.hid (HKb5.out.below hb HKb5.out.lt)
    have uf0 := u0 HKu6.out
    have uf1 := u1 HKu6.out
    have af0 := u0 HKa6.out
    have af1 := u1 HKa6.out
    have bf0 := u0 HKb6.out
    have bf1 := u1 HKb6.out
    have HB6 := Lib.hid (HB5.out.trans (hb.mono HB5.out.size))
    clear hb
    have hb := ubox_below w6 n u
    have HKu7 := Lib.hid (HKu6.out.below hb HKu6.out.lt)
    have uca0 := fun o => u0 (HKu6.out.alloc o)
    have uca1 := fun o => u1 (HKu6.out.alloc o)
    have HKa7 := Lib.hid (HKa6.out.below hb HKa6.out.lt)
    have aca0 := fun o => u0 (HKa6.out.alloc o)
    have aca1 := fun o => u1 (HKa6.out.alloc o)
    have HKb7 := Lib.hid (HKb6.out.below hb HKb6.out.lt)
    have bca0 := fun o => u0 (HKb6.out.alloc o)
    have bca1 := fun o => u1 (HKb6.out.alloc o)
    have HKc7 := Lib.hid (ubox_blok w6 n u)
    have HB7 := Lib.hid (HB6.out.trans (hb.mono HB6.out.size))
    clear hb
    go_wp2
    go_ret
    exact ⟨rfl, HB7.out⟩
  · obtain ⟨e1, e2, e3, e4, e5, e6⟩ := U.back hb0
    have hrest := fun (hk : k ≠ i) => U.rest hb0 hk
    have hcl := U.count_le n u
    obtain ⟨x, hx⟩ : ∃ x, U.take n u i = x := ⟨_, rfl⟩
    rw [hx] at e1 e2 e3 e4 e6 hrest
    obtain ⟨p, hp⟩ : ∃ p, U.count n u = p := ⟨_, rfl⟩
    rw [hp] at e6 hcl
    obtain ⟨p0, p8⟩ := hcl
    have ht := fun W => take_any n u i x true W hb0 hx
    have hg := fun W => give_any n x i u true W e2 e3
    have ht2 := fun W => take_any n x i x false W e4 (U.stay e4)
    have hcx := fun W => count_any n x (p + 1) W e6
    have hcu := fun W => count_any n u p W hp
    have hha := fun W => has_any n x i true W e2
    have hhu := fun W => has_any n u i false W e5
    have hw : IntKind.i64.wrap (p + 1) = p + 1 := IntWalk.i64_in _ (by omega)
    obtain ⟨q, hq⟩ : ∃ q, U.has n u k = q := ⟨_, rfl⟩
    have hku := fun W => has_any n u k q W hq
    have HR := Lib.hid hrest
    have HQ := Lib.hid hq
    clear hb0 hx e1 e2 e3 e4 e5 e6 hp hq hrest
    by_cases hk : k = i
    · have gk : (k == i) = true := by simpa using hk
      clear hk hku
      go_enter Try.func4, Try.ntmps4
      go_wp2_with fail
      refine (uawake_any (ubox w n u)).mono ?_
      rintro e w1 ⟨rfl, hb⟩
      have HKu1 := Lib.hid (HKu0.out.below hb HKu0.out.lt)
      have uf0 := u0 HKu1.out
      have uf1 := u1 HKu1.out
      have HB1 := Lib.hid (HB0.out.trans (hb.mono HB0.out.size))
      clear hb
      go_wp2_with fail
      refine (ht w1).mono ?_
      clear uf0 uf1
      rintro e w2 ⟨rfl, hb⟩
      have HKu2 := Lib.hid (HKu1.out.below hb HKu1.out.lt)
      have uf0 := u0 HKu2.out
      have uf1 := u1 HKu2.out
      have HB2 := Lib.hid (HB1.out.trans (hb.mono HB1.out.size))
      clear hb
      have hb := ubox_below w2 n x
      have HKu3 := Lib.hid (HKu2.out.below hb HKu2.out.lt)
      have uaa0 := fun o => u0 (HKu2.out.alloc o)
      have uaa1 := fun o => u1 (HKu2.out.alloc o)
      have HKa3 := Lib.hid (ubox_blok w2 n x)
      have HB3 := Lib.hid (HB2.out.trans (hb.mono HB2.out.size))
      clear hb
      go_wp2_with fail
      refine (hg (ubox w2 n x)).mono ?_
      clear uf0 uf1 uaa0 uaa1
      rintro e w4 ⟨rfl, hb⟩
      have HKu4 := Lib.hid (HKu3.out.below hb HKu3.out.lt)
      have HKa4 := Lib.hid (HKa3.out.below hb HKa3.out.lt)
      have uf0 := u0 HKu4.out
      have uf1 := u1 HKu4.out
      have af0 := u0 HKa4.out
      have af1 := u1 HKa4.out
      have HB4 := Lib.hid (HB3.out.trans (hb.mono HB3.out.size))
      clear hb
      have hb := ubox_below w4 n u
      have HKu5 := Lib.hid (HKu4.out.below hb HKu4.out.lt)
      have uba0 := fun o => u0 (HKu4.out.alloc o)
      have uba1 := fun o => u1 (HKu4.out.alloc o)
      have HKa5 := Lib.hid (HKa4.out.below hb HKa4.out.lt)
      have aba0 := fun o => u0 (HKa4.out.alloc o)
      have aba1 := fun o => u1 (HKa4.out.alloc o)
      have HKb5 := Lib.hid (ubox_blok w4 n u)
      have HB5 := Lib.hid (HB4.out.trans (hb.mono HB4.out.size))
      clear hb
      go_wp2_with fail
      refine (ht2 (ubox w4 n u)).mono ?_
      clear uf0 uf1 af0 af1 uba0 uba1 aba0 aba1
      rintro e w6 ⟨rfl, hb⟩
      have HKu6 := Lib.hid (HKu5.out.below hb HKu5.out.lt)
      have HKa6 := Lib.hid (HKa5.out.below hb HKa5.out.lt)
      have HKb6 := Lib.hid (HKb5.out.below hb HKb5.out.lt)
      have uf0 := u0 HKu6.out
      have uf1 := u1 HKu6.out
      have af0 := u0 HKa6.out
      have af1 := u1 HKa6.out
      have bf0 := u0 HKb6.out
      have bf1 := u1 HKb6.out
      have HB6 := Lib.hid (HB5.out.trans (hb.mono HB5.out.size))
      clear hb
      have hb := ubox_below w6 n x
      have HKu7 := Lib.hid (HKu6.out.below hb HKu6.out.lt)
      have uca0 := fun o => u0 (HKu6.out.alloc o)
      have uca1 := fun o => u1 (HKu6.out.alloc o)
      have HKa7 := Lib.hid (HKa6.out.below hb HKa6.out.lt)
      have aca0 := fun o => u0 (HKa6.out.alloc o)
      have aca1 := fun o => u1 (HKa6.out.alloc o)
      have HKb7 := Lib.hid (HKb6.out.below hb HKb6.out.lt)
      have bca0 := fun o => u0 (HKb6.out.alloc o)
      have bca1 := fun o => u1 (HKb6.out.alloc o)
      have HKc7 := Lib.hid (ubox_blok w6 n x)
      have HB7 := Lib.hid (HB6.out.trans (hb.mono HB6.out.size))
      clear hb
      clear uf0 uf1 af0 af1 bf0 bf1 uca0 uca1 aca0 aca1 bca0 bca1
      have uc0 := fun d os => cell_regrown (u0 HKu7.out) d os
      have uf0 := u0 HKu7.out
      have uc1 := fun d os => cell_regrown (u1 HKu7.out) d os
      have uf1 := u1 HKu7.out
      have ac0 := fun d os => cell_regrown (u0 HKa7.out) d os
      have af0 := u0 HKa7.out
      have ac1 := fun d os => cell_regrown (u1 HKa7.out) d os
      have af1 := u1 HKa7.out
      have bc0 := fun d os => cell_regrown (u0 HKb7.out) d os
      have bf0 := u0 HKb7.out
      have bc1 := fun d os => cell_regrown (u1 HKb7.out) d os
      have bf1 := u1 HKb7.out
      have cc0 := fun d os => cell_regrown (u0 HKc7.out) d os
      have cf0 := u0 HKc7.out
      have cc1 := fun d os => cell_regrown (u1 HKc7.out) d os
      have cf1 := u1 HKc7.out
      unfold ubox at uc0 uf0 uc1 uf1 ac0 af0 ac1 af1 bc0 bf0 bc1 bf1 cc0 cf0 cc1 cf1
      go_wp2_with fail
      refine wp_region_quiet_below (by kernel_rfl) (by kernel_rfl) ?_
      repeat (go_big_quiet_step (first | with_reducible exact Calls.regrown_of (hcx _) | with_reducible exact Calls.regrown_of (hcu _) | with_reducible exact Calls.regrown_of (hha _) | with_reducible exact Calls.regrown_of (hhu _)))
      refine wpQuiet_nil ?_
      intro _ hw'
      obtain ⟨⟨dq, osq⟩, hw''⟩ := hw'
      subst hw''
      clear uc0 uf0 uc1 uf1 ac0 af0 ac1 af1 bc0 bf0 bc1 bf1 cc0 cf0 cc1 cf1
      obtain ⟨w8, hw8⟩ : ∃ w8, Go.Sort.grow (redrawn (ubox w6 n x) dq) osq = w8 := ⟨_, rfl⟩
      have hb : Below (ubox w6 n x).heap.size (ubox w6 n x) w8 := by rw [← hw8]; exact below_regrown _ _ _
      unfold ubox at hw8
      rw [hw8]
      clear hw8
      have HKu8 := Lib.hid (HKu7.out.below hb HKu7.out.lt)
      have HKa8 := Lib.hid (HKa7.out.below hb HKa7.out.lt)
      have HKb8 := Lib.hid (HKb7.out.below hb HKb7.out.lt)
      have HKc8 := Lib.hid (HKc7.out.below hb HKc7.out.lt)
      have uf0 := u0 HKu8.out
      have uf1 := u1 HKu8.out
      have af0 := u0 HKa8.out
      have af1 := u1 HKa8.out
      have bf0 := u0 HKb8.out
      have bf1 := u1 HKb8.out
      have cf0 := u0 HKc8.out
      have cf1 := u1 HKc8.out
      have HB8 := Lib.hid (HB7.out.trans (hb.mono HB7.out.size))
      clear hb
      go_wp2
      go_ret
      exact ⟨rfl, HB8.out⟩
    · have gk : (k == i) = false := by simpa using hk
      have hka := fun W => has_any n x k q W ((HR.out hk).trans HQ.out)
      clear hk
      go_enter Try.func4, Try.ntmps4
      go_wp2_with fail
      refine (uawake_any (ubox w n u)).mono ?_
      rintro e w1 ⟨rfl, hb⟩
      have HKu1 := Lib.hid (HKu0.out.below hb HKu0.out.lt)
      have uf0 := u0 HKu1.out
      have uf1 := u1 HKu1.out
      have HB1 := Lib.hid (HB0.out.trans (hb.mono HB0.out.size))
      clear hb
      go_wp2_with fail
      refine (ht w1).mono ?_
      clear uf0 uf1
      rintro e w2 ⟨rfl, hb⟩
      have HKu2 := Lib.hid (HKu1.out.below hb HKu1.out.lt)
      have uf0 := u0 HKu2.out
      have uf1 := u1 HKu2.out
      have HB2 := Lib.hid (HB1.out.trans (hb.mono HB1.out.size))
      clear hb
      have hb := ubox_below w2 n x
      have HKu3 := Lib.hid (HKu2.out.below hb HKu2.out.lt)
      have uaa0 := fun o => u0 (HKu2.out.alloc o)
      have uaa1 := fun o => u1 (HKu2.out.alloc o)
      have HKa3 := Lib.hid (ubox_blok w2 n x)
      have HB3 := Lib.hid (HB2.out.trans (hb.mono HB2.out.size))
      clear hb
      go_wp2_with fail
      refine (hg (ubox w2 n x)).mono ?_
      clear uf0 uf1 uaa0 uaa1
      rintro e w4 ⟨rfl, hb⟩
      have HKu4 := Lib.hid (HKu3.out.below hb HKu3.out.lt)
      have HKa4 := Lib.hid (HKa3.out.below hb HKa3.out.lt)
      have uf0 := u0 HKu4.out
      have uf1 := u1 HKu4.out
      have af0 := u0 HKa4.out
      have af1 := u1 HKa4.out
      have HB4 := Lib.hid (HB3.out.trans (hb.mono HB3.out.size))
      clear hb
      have hb := ubox_below w4 n u
      have HKu5 := Lib.hid (HKu4.out.below hb HKu4.out.lt)
      have uba0 := fun o => u0 (HKu4.out.alloc o)
      have uba1 := fun o => u1 (HKu4.out.alloc o)
      have HKa5 := Lib.hid (HKa4.out.below hb HKa4.out.lt)
      have aba0 := fun o => u0 (HKa4.out.alloc o)
      have aba1 := fun o => u1 (HKa4.out.alloc o)
      have HKb5 := Lib.hid (ubox_blok w4 n u)
      have HB5 := Lib.hid (HB4.out.trans (hb.mono HB4.out.size))
      clear hb
      go_wp2_with fail
      refine (ht2 (ubox w4 n u)).mono ?_
      clear uf0 uf1 af0 af1 uba0 uba1 aba0 aba1
      rintro e w6 ⟨rfl, hb⟩
      have HKu6 := Lib.hid (HKu5.out.below hb HKu5.out.lt)
      have HKa6 := Lib.hid (HKa5.out.below hb HKa5.out.lt)
      have HKb6 := Lib.hid (HKb5.out.below hb HKb5.out.lt)
      have uf0 := u0 HKu6.out
      have uf1 := u1 HKu6.out
      have af0 := u0 HKa6.out
      have af1 := u1 HKa6.out
      have bf0 := u0 HKb6.out
      have bf1 := u1 HKb6.out
      have HB6 := Lib.hid (HB5.out.trans (hb.mono HB5.out.size))
      clear hb
      have hb := ubox_below w6 n x
      have HKu7 := Lib.hid (HKu6.out.below hb HKu6.out.lt)
      have uca0 := fun o => u0 (HKu6.out.alloc o)
      have uca1 := fun o => u1 (HKu6.out.alloc o)
      have HKa7 := Lib.hid (HKa6.out.below hb HKa6.out.lt)
      have aca0 := fun o => u0 (HKa6.out.alloc o)
      have aca1 := fun o => u1 (HKa6.out.alloc o)
      have HKb7 := Lib.hid (HKb6.out.below hb HKb6.out.lt)
      have bca0 := fun o => u0 (HKb6.out.alloc o)
      have bca1 := fun o => u1 (HKb6.out.alloc o)
      have HKc7 := Lib.hid (ubox_blok w6 n x)
      have HB7 := Lib.hid (HB6.out.trans (hb.mono HB6.out.size))
      clear hb
      clear uf0 uf1 af0 af1 bf0 bf1 uca0 uca1 aca0 aca1 bca0 bca1
      have uc0 := fun d os => cell_regrown (u0 HKu7.out) d os
      have uf0 := u0 HKu7.out
      have uc1 := fun d os => cell_regrown (u1 HKu7.out) d os
      have uf1 := u1 HKu7.out
      have ac0 := fun d os => cell_regrown (u0 HKa7.out) d os
      have af0 := u0 HKa7.out
      have ac1 := fun d os => cell_regrown (u1 HKa7.out) d os
      have af1 := u1 HKa7.out
      have bc0 := fun d os => cell_regrown (u0 HKb7.out) d os
      have bf0 := u0 HKb7.out
      have bc1 := fun d os => cell_regrown (u1 HKb7.out) d os
      have bf1 := u1 HKb7.out
      have cc0 := fun d os => cell_regrown (u0 HKc7.out) d os
      have cf0 := u0 HKc7.out
      have cc1 := fun d os => cell_regrown (u1 HKc7.out) d os
      have cf1 := u1 HKc7.out
      unfold ubox at uc0 uf0 uc1 uf1 ac0 af0 ac1 af1 bc0 bf0 bc1 bf1 cc0 cf0 cc1 cf1
      go_wp2_with fail
      refine wp_region_quiet_below (by kernel_rfl) (by kernel_rfl) ?_
      repeat (go_big_quiet_step (first | with_reducible exact Calls.regrown_of (hcx _) | with_reducible exact Calls.regrown_of (hcu _) | with_reducible exact Calls.regrown_of (hha _) | with_reducible exact Calls.regrown_of (hhu _) | with_reducible exact Calls.regrown_of (hku _) | with_reducible exact Calls.regrown_of (hka _)))
      refine wpQuiet_nil ?_
      intro _ hw'
      obtain ⟨⟨dq, osq⟩, hw''⟩ := hw'
      subst hw''
      clear uc0 uf0 uc1 uf1 ac0 af0 ac1 af1 bc0 bf0 bc1 bf1 cc0 cf0 cc1 cf1
      obtain ⟨w8, hw8⟩ : ∃ w8, Go.Sort.grow (redrawn (ubox w6 n x) dq) osq = w8 := ⟨_, rfl⟩
      have hb : Below (ubox w6 n x).heap.size (ubox w6 n x) w8 := by rw [← hw8]; exact below_regrown _ _ _
      unfold ubox at hw8
      rw [hw8]
      clear hw8
      have HKu8 := Lib.hid (HKu7.out.below hb HKu7.out.lt)
      have HKa8 := Lib.hid (HKa7.out.below hb HKa7.out.lt)
      have HKb8 := Lib.hid (HKb7.out.below hb HKb7.out.lt)
      have HKc8 := Lib.hid (HKc7.out.below hb HKc7.out.lt)
      have uf0 := u0 HKu8.out
      have uf1 := u1 HKu8.out
      have af0 := u0 HKa8.out
      have af1 := u1 HKa8.out
      have bf0 := u0 HKb8.out
      have bf1 := u1 HKb8.out
      have cf0 := u0 HKc8.out
      have cf1 := u1 HKc8.out
      have HB8 := Lib.hid (HB7.out.trans (hb.mono HB7.out.size))
      clear hb
      go_wp2
      go_ret
      exact ⟨rfl, HB8.out⟩
end Go.Proofs.Ytagkpkgflnccpaa
