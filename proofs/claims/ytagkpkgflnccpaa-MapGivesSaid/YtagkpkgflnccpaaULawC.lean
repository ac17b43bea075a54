/-
  MapGives, at every map and block.
-/
import Derived.Test.YtagkpkgflnccpaaULaws
namespace Go.Proofs.Ytagkpkgflnccpaa
open Go.RowKit


set_option maxRecDepth 100000 in
set_option maxHeartbeats 1000000 in
theorem MapGives_in (n u i : Int) (w : World)  :
    Calls Try.prog 8 #[.agg #[.int .i64 n, .int .i64 u], .int .i64 i] w fun e w' => e = .returned (.bool true) ∧ Below w.heap.size w w' := by
  have HB0 := Lib.hid (ubox_below w n u)
  have HKu0 := Lib.hid (ubox_blok w n u)
  cases hb0 : U.has n u i
  · obtain ⟨t, ht⟩ : ∃ y, U.first n u = y := ⟨_, rfl⟩
    have hf := fun W => first_any n u t W ht
    have hg := fun W => give_any n u i u false W hb0 (U.keep hb0)
    have hh := fun W => has_any n u i false W hb0
    clear hb0 ht
    go_enter Try.func8, Try.ntmps8
    go_wp2_with fail
    refine (uawake_any (ubox w n u)).mono ?_
    rintro e w1 ⟨rfl, hb⟩
    have HKu1 := Lib.hid (HKu0.out.below hb HKu0.out.lt)
    have uf0 := u0 HKu1.out
    have uf1 := u1 HKu1.out
    have HB1 := Lib.hid (HB0.out.trans (hb.mono HB0.out.size))
    clear hb
    go_wp2_with fail
    refine (hf w1).mono ?_
    clear uf0 uf1
    rintro e w2 ⟨rfl, hb⟩
    have HKu2 := Lib.hid (HKu1.out.below hb HKu1.out.lt)
    have uf0 := u0 HKu2.out
    have uf1 := u1 HKu2.out
    have HB2 := Lib.hid (HB1.out.trans (hb.mono HB1.out.size))
    clear hb
    go_wp2_with fail
    refine (hg w2).mono ?_
    clear uf0 uf1
    rintro e w3 ⟨rfl, hb⟩
    have HKu3 := Lib.hid (HKu2.out.below hb HKu2.out.lt)
    have uf0 := u0 HKu3.out
    have uf1 := u1 HKu3.out
    have HB3 := Lib.hid (HB2.out.trans (hb.mono HB2.out.size))
    clear hb
    have hb := ubox_below w3 n u
    have HKu4 := Lib.hid (HKu3.out.below hb HKu3.out.lt)
    have uva0 := fun o => u0 (HKu3.out.alloc o)
    have uva1 := fun o => u1 (HKu3.out.alloc o)
    have HKv4 := Lib.hid (ubox_blok w3 n u)
    have HB4 := Lib.hid (HB3.out.trans (hb.mono HB3.out.size))
    clear hb
    go_wp2_with fail
    refine (hh (ubox w3 n u)).mono ?_
    clear uf0 uf1 uva0 uva1
    rintro e w5 ⟨rfl, hb⟩
    have HKu5 := Lib.hid (HKu4.out.below hb HKu4.out.lt)
    have HKv5 := Lib.hid (HKv4.out.below hb HKv4.out.lt)
    have uf0 := u0 HKu5.out
    have uf1 := u1 HKu5.out
    have vf0 := u0 HKv5.out
    have vf1 := u1 HKv5.out
    have HB5 := Lib.hid (HB4.out.trans (hb.mono HB4.out.size))
    clear hb
    go_wp2
    go_ret
    exact ⟨rfl, HB5.out⟩
  · obtain ⟨e1, e2, e3⟩ := U.gives hb0
    obtain ⟨x, hx⟩ : ∃ x, U.give n u i = x := ⟨_, rfl⟩
    rw [hx] at e1 e2 e3
    obtain ⟨t, ht⟩ : ∃ y, U.first n u = y := ⟨_, rfl⟩
    obtain ⟨s, hs⟩ : ∃ y, U.first n x = y := ⟨_, rfl⟩
    rw [ht, hs] at e2 e3
    have hf := fun W => first_any n u t W ht
    have hf2 := fun W => first_any n x s W hs
    have hg := fun W => give_any n u i x true W hb0 hx
    have hh := fun W => has_any n u i true W hb0
    have hh2 := fun W => has_any n x i false W e1
    obtain ⟨bt, hbt⟩ : ∃ b, (t == -1) = b := ⟨_, rfl⟩
    obtain ⟨bl, hbl⟩ : ∃ b, decide (i < t) = b := ⟨_, rfl⟩
    obtain ⟨bs, hbs⟩ : ∃ b, (s == i) = b := ⟨_, rfl⟩
    obtain ⟨bu, hbu⟩ : ∃ b, (s == t) = b := ⟨_, rfl⟩
    have HC : Hid (((bt || bl) == bs && (bs || bu)) = true) := Lib.hid (by rw [← hbt, ← hbl, ← hbs, ← hbu, e2]; simp; exact e3)
    clear e1 e2 e3 hb0 hx ht hs
    cases bt <;> cases bl <;> cases bs <;> cases bu <;> first | (exact absurd HC.out (by decide)) | skip
    all_goals (
      go_enter Try.func8, Try.ntmps8
      go_wp2_with fail
      refine (uawake_any (ubox w n u)).mono ?_
      rintro e w1 ⟨rfl, hb⟩
      have HKu1 := Lib.hid (HKu0.out.below hb HKu0.out.lt)
      have uf0 := u0 HKu1.out
      have uf1 := u1 HKu1.out
      have HB1 := Lib.hid (HB0.out.trans (hb.mono HB0.out.size))
      clear hb
      go_wp2_with fail
      refine (hf w1).mono ?_
      clear uf0 uf1
      rintro e w2 ⟨rfl, hb⟩
      have HKu2 := Lib.hid (HKu1.out.below hb HKu1.out.lt)
      have uf0 := u0 HKu2.out
      have uf1 := u1 HKu2.out
      have HB2 := Lib.hid (HB1.out.trans (hb.mono HB1.out.size))
      clear hb
      go_wp2_with fail
      refine (hg w2).mono ?_
      clear uf0 uf1
      rintro e w3 ⟨rfl, hb⟩
      have HKu3 := Lib.hid (HKu2.out.below hb HKu2.out.lt)
      have uf0 := u0 HKu3.out
      have uf1 := u1 HKu3.out
      have HB3 := Lib.hid (HB2.out.trans (hb.mono HB2.out.size))
      clear hb
      have hb := ubox_below w3 n x
      have HKu4 := Lib.hid (HKu3.out.below hb HKu3.out.lt)
      have uva0 := fun o => u0 (HKu3.out.alloc o)
      have uva1 := fun o => u1 (HKu3.out.alloc o)
      have HKv4 := Lib.hid (ubox_blok w3 n x)
      have HB4 := Lib.hid (HB3.out.trans (hb.mono HB3.out.size))
      clear hb
      go_wp2_with fail
      refine (hh (ubox w3 n x)).mono ?_
      clear uf0 uf1 uva0 uva1
      rintro e w5 ⟨rfl, hb⟩
      have HKu5 := Lib.hid (HKu4.out.below hb HKu4.out.lt)
      have HKv5 := Lib.hid (HKv4.out.below hb HKv4.out.lt)
      have uf0 := u0 HKu5.out
      have uf1 := u1 HKu5.out
      have vf0 := u0 HKv5.out
      have vf1 := u1 HKv5.out
      have HB5 := Lib.hid (HB4.out.trans (hb.mono HB4.out.size))
      clear hb
      go_wp2_with fail
      refine (hf2 w5).mono ?_
      clear uf0 uf1 vf0 vf1
      rintro e w6 ⟨rfl, hb⟩
      have HKu6 := Lib.hid (HKu5.out.below hb HKu5.out.lt)
      have HKv6 := Lib.hid (HKv5.out.below hb HKv5.out.lt)
      have uf0 := u0 HKu6.out
      have uf1 := u1 HKu6.out
      have vf0 := u0 HKv6.out
      have vf1 := u1 HKv6.out
      have HB6 := Lib.hid (HB5.out.trans (hb.mono HB5.out.size))
      clear hb
      go_wp2_with fail
      refine (hh2 w6).mono ?_
      clear uf0 uf1 vf0 vf1
      rintro e w7 ⟨rfl, hb⟩
      have HKu7 := Lib.hid (HKu6.out.below hb HKu6.out.lt)
      have HKv7 := Lib.hid (HKv6.out.below hb HKv6.out.lt)
      have uf0 := u0 HKu7.out
      have uf1 := u1 HKu7.out
      have vf0 := u0 HKv7.out
      have vf1 := u1 HKv7.out
      have HB7 := Lib.hid (HB6.out.trans (hb.mono HB6.out.size))
      clear hb
      go_wp2
      go_ret
      exact ⟨rfl, HB7.out⟩)
end Go.Proofs.Ytagkpkgflnccpaa
