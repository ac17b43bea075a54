/-
  Walks of wheel.New, Same; mooringsref10.New, Same.
-/
import Derived.Test.YtmegkfonodcoiaaWOwn
namespace Go.Proofs.Ytmegkfonodcoiaa
open Go.RowKit

set_option maxRecDepth 100000 in
set_option maxHeartbeats 1000000 in
theorem new_any (k : Int) (w : World) :
    Calls Try.prog 17 #[.int .i64 k] w fun e w' => e = .returned (.tuple #[.agg #[.int .i64 (W.new k).1, .slice none 0 0], .bool (W.new k).2]) ∧ Below w.heap.size w w' := by
  obtain ⟨W1, hW1⟩ : ∃ W1, (w.alloc (.cells #[.int .i64 0, .slice none 0 0] 24)).alloc (.cells #[.int .i64 k, .slice none 0 0] 24) = W1 := ⟨_, rfl⟩
  have s0 : (w.alloc (.cells #[.int .i64 0, .slice none 0 0] 24)).heap.size = w.heap.size + 1 := by simp
  have HB : Hid (Below w.heap.size w W1) := Lib.hid (by rw [← hW1]; exact ((Below.refl _ w).alloc (Nat.le_refl _) _).alloc (by simp) _)
  have KR : Hid (Blok W1 w.heap.size 24 #[.int .i64 0, .slice none 0 0]) := Lib.hid (by rw [← hW1]; exact (Blok.new _ _ _).alloc _)
  have KW : Hid (Blok W1 (w.heap.size + 1) 24 #[.int .i64 k, .slice none 0 0]) := Lib.hid (by rw [← hW1, ← s0]; exact Blok.new _ _ _)
  have HW1 := Lib.hid hW1
  clear s0 hW1
  obtain ⟨p, hp⟩ : ∃ p, W.may k [] = p := ⟨_, rfl⟩
  have hm := may_any k none 0 0 [] W1 (TIn.nil _) (by omega) p hp
  have HP : Hid (W.new k = if p then (k, true) else (0, false)) := Lib.hid (by
    rw [← hp, W.may_nil]; unfold W.new
    by_cases h : 0 ≤ k ∧ k ≤ 1073741824
    · rw [if_pos h, if_pos (decide_eq_true h)]
    · rw [if_neg h, decide_eq_false h]; rfl)
  clear hp
  go_enter Try.func17, Try.ntmps17
  go_wp2_with fail
  rw [HW1.out]
  refine hm.mono ?_
  rintro e w3 ⟨rfl, hb3⟩
  have HB3 := Lib.hid (HB.out.trans (hb3.mono HB.out.size))
  have KR3 := Lib.hid (KR.out.on' hb3)
  have KW3 := Lib.hid (KW.out.on' hb3)
  clear hm hb3
  have a0 := KW3.out.b0
  have a1 := KW3.out.b1
  have r0 := KR3.out.b0
  have r1 := KR3.out.b1
  have f0 := KR3.out.frozen 0
  have f1 := KR3.out.frozen 1
  cases p with
  | false =>
    obtain ⟨K5, G5⟩ := set2 KR3.out (.int .i64 0) (.slice none 0 0)
    have HK5 := Lib.hid K5
    have HB5 := Lib.hid (HB3.out.grown G5 HB3.out.size (fun j hj => by cases hj; exact Nat.le_refl _))
    clear K5 G5
    go_wp2
    refine bodyPost_ret (ret_w2 rfl w.heap.size (.int .i64 0) (.slice none 0 0) (by kernel_rfl) rfl (by first | exact HK5.out | exact KR3.out)) rfl ?_
    exact ⟨by rw [HP.out]; rfl, by first | exact HB5.out | exact HB3.out⟩
  | true =>
    obtain ⟨K5, G5⟩ := set2 KR3.out (.int .i64 k) (.slice none 0 0)
    have HK5 := Lib.hid K5
    have HB5 := Lib.hid (HB3.out.grown G5 HB3.out.size (fun j hj => by cases hj; exact Nat.le_refl _))
    obtain ⟨w5, hw5⟩ : ∃ w5, (w3.setCell ⟨w.heap.size, 0, none⟩ (.int .i64 k)).setCell ⟨w.heap.size, 1, none⟩ (.slice none 0 0) = w5 := ⟨_, rfl⟩
    rw [hw5] at HK5 HB5
    clear K5 G5
    go_wp2
    refine bodyPost_ret (ret_w2 rfl w.heap.size (.int .i64 k) (.slice none 0 0) (by kernel_rfl) rfl HK5.out) rfl ?_
    exact ⟨by rw [HP.out]; rfl, HB5.out⟩

set_option maxRecDepth 100000 in
set_option maxHeartbeats 1000000 in
theorem refNew_any (k : Int) (w : World) :
    Calls Try.prog 18 #[.int .i64 k] w fun e w' => e = .returned (.tuple #[.agg #[.int .i64 (W.new k).1, .slice none 0 0], .bool (W.new k).2]) ∧ Below w.heap.size w w' := by
  obtain ⟨W1, hW1⟩ : ∃ W1, (w.alloc (.cells #[.int .i64 0, .slice none 0 0] 24)).alloc (.cells #[.int .i64 k, .slice none 0 0] 24) = W1 := ⟨_, rfl⟩
  have s0 : (w.alloc (.cells #[.int .i64 0, .slice none 0 0] 24)).heap.size = w.heap.size + 1 := by simp
  have HB : Hid (Below w.heap.size w W1) := Lib.hid (by rw [← hW1]; exact ((Below.refl _ w).alloc (Nat.le_refl _) _).alloc (by simp) _)
  have KR : Hid (Blok W1 w.heap.size 24 #[.int .i64 0, .slice none 0 0]) := Lib.hid (by rw [← hW1]; exact (Blok.new _ _ _).alloc _)
  have KW : Hid (Blok W1 (w.heap.size + 1) 24 #[.int .i64 k, .slice none 0 0]) := Lib.hid (by rw [← hW1, ← s0]; exact Blok.new _ _ _)
  have HW1 := Lib.hid hW1
  clear s0 hW1
  obtain ⟨p, hp⟩ : ∃ p, W.may k [] = p := ⟨_, rfl⟩
  have hm := refMay_any k none 0 0 [] W1 (TIn.nil _) (by omega) p hp
  have HP : Hid (W.new k = if p then (k, true) else (0, false)) := Lib.hid (by
    rw [← hp, W.may_nil]; unfold W.new
    by_cases h : 0 ≤ k ∧ k ≤ 1073741824
    · rw [if_pos h, if_pos (decide_eq_true h)]
    · rw [if_neg h, decide_eq_false h]; rfl)
  clear hp
  go_enter Try.func18, Try.ntmps18
  go_wp2_with fail
  rw [HW1.out]
  refine hm.mono ?_
  rintro e w3 ⟨rfl, hb3⟩
  have HB3 := Lib.hid (HB.out.trans (hb3.mono HB.out.size))
  have KR3 := Lib.hid (KR.out.on' hb3)
  have KW3 := Lib.hid (KW.out.on' hb3)
  clear hm hb3
  have a0 := KW3.out.b0
  have a1 := KW3.out.b1
  have r0 := KR3.out.b0
  have r1 := KR3.out.b1
  have f0 := KR3.out.frozen 0
  have f1 := KR3.out.frozen 1
  cases p with
  | false =>
    obtain ⟨K5, G5⟩ := set2 KR3.out (.int .i64 0) (.slice none 0 0)
    have HK5 := Lib.hid K5
    have HB5 := Lib.hid (HB3.out.grown G5 HB3.out.size (fun j hj => by cases hj; exact Nat.le_refl _))
    clear K5 G5
    go_wp2
    refine bodyPost_ret (ret_w2 rfl w.heap.size (.int .i64 0) (.slice none 0 0) (by kernel_rfl) rfl (by first | exact HK5.out | exact KR3.out)) rfl ?_
    exact ⟨by rw [HP.out]; rfl, by first | exact HB5.out | exact HB3.out⟩
  | true =>
    obtain ⟨K5, G5⟩ := set2 KR3.out (.int .i64 k) (.slice none 0 0)
    have HK5 := Lib.hid K5
    have HB5 := Lib.hid (HB3.out.grown G5 HB3.out.size (fun j hj => by cases hj; exact Nat.le_refl _))
    obtain ⟨w5, hw5⟩ : ∃ w5, (w3.setCell ⟨w.heap.size, 0, none⟩ (.int .i64 k)).setCell ⟨w.heap.size, 1, none⟩ (.slice none 0 0) = w5 := ⟨_, rfl⟩
    rw [hw5] at HK5 HB5
    clear K5 G5
    go_wp2
    refine bodyPost_ret (ret_w2 rfl w.heap.size (.int .i64 k) (.slice none 0 0) (by kernel_rfl) rfl HK5.out) rfl ?_
    exact ⟨by rw [HP.out]; rfl, HB5.out⟩

set_option maxRecDepth 100000 in
set_option maxHeartbeats 1000000 in
theorem same_any (k k2 : Int) (a a2 : Option Addr) (n n2 c c2 : Nat) (l l2 : List W.Tm) (w : World) (h : TIn w a n c l) (h2 : TIn w a2 n2 c2 l2) (hn : n ≤ 1000000) (p : Bool) (hp : decide (k = k2 ∧ l = l2) = p) :
    Calls Try.prog 23 #[.agg #[.int .i64 k, .slice a n c], .agg #[.int .i64 k2, .slice a2 n2 c2]] w fun e w' => e = .returned (.bool p) ∧ Below w.heap.size w w' := by
  obtain ⟨W1, hW1⟩ : ∃ W1, wbox (wbox w k a n c) k2 a2 n2 c2 = W1 := ⟨_, rfl⟩
  have HB : Hid (Below w.heap.size w W1) := Lib.hid (by rw [← hW1]; exact (wbox_below _ _ _ _ _).trans ((wbox_below _ _ _ _ _).mono (by rw [wbox_size]; omega)))
  have KA : Hid (Blok W1 w.heap.size 24 #[.int .i64 k, .slice a n c]) := Lib.hid (by rw [← hW1]; exact (wbox_blok w k a n c).on' (wbox_below _ _ _ _ _))
  have KB : Hid (Blok W1 (w.heap.size + 1) 24 #[.int .i64 k2, .slice a2 n2 c2]) := Lib.hid (by
    rw [← hW1]; have := wbox_blok (wbox w k a n c) k2 a2 n2 c2; rw [wbox_size] at this; exact this)
  unfold wbox at hW1
  obtain ⟨q, hq⟩ : ∃ q, decide (l = l2) = q := ⟨_, rfl⟩
  obtain ⟨z, hz⟩ : ∃ z, (k == k2) = z := ⟨_, rfl⟩
  have HP : Hid ((z && q) = p) := Lib.hid (by rw [← hz, ← hq, ← hp, Bool.eq_iff_iff]; simp)
  have hm := equalT_any a a2 n n2 c c2 l l2 W1 (h.below HB.out) (h2.below HB.out) hn q hq
  have a0 := KA.out.b0
  have a1 := KA.out.b1
  have e0 := KB.out.b0
  have e1 := KB.out.b1
  clear h h2 hp hq
  go_enter Try.func23, Try.ntmps23
  cases z with
  | false =>
    go_wp2
    go_ret
    exact ⟨by rw [← HP.out]; rfl, HB.out⟩
  | true =>
    go_wp2_with fail
    refine hm.mono ?_
    rintro e w3 ⟨rfl, hb3⟩
    have HB3 := Lib.hid (HB.out.trans (hb3.mono HB.out.size))
    clear hm hb3
    go_wp2
    go_ret
    exact ⟨by rw [← HP.out]; rfl, HB3.out⟩

set_option maxRecDepth 100000 in
set_option maxHeartbeats 1000000 in
theorem refSame_any (k k2 : Int) (a a2 : Option Addr) (n n2 c c2 : Nat) (l l2 : List W.Tm) (w : World) (h : TIn w a n c l) (h2 : TIn w a2 n2 c2 l2) (hn : n ≤ 1000000) (p : Bool) (hp : decide (k = k2 ∧ l = l2) = p) :
    Calls Try.prog 19 #[.agg #[.int .i64 k, .slice a n c], .agg #[.int .i64 k2, .slice a2 n2 c2]] w fun e w' => e = .returned (.bool p) ∧ Below w.heap.size w w' := by
  obtain ⟨W1, hW1⟩ : ∃ W1, wbox (wbox w k a n c) k2 a2 n2 c2 = W1 := ⟨_, rfl⟩
  have HB : Hid (Below w.heap.size w W1) := Lib.hid (by rw [← hW1]; exact (wbox_below _ _ _ _ _).trans ((wbox_below _ _ _ _ _).mono (by rw [wbox_size]; omega)))
  have KA : Hid (Blok W1 w.heap.size 24 #[.int .i64 k, .slice a n c]) := Lib.hid (by rw [← hW1]; exact (wbox_blok w k a n c).on' (wbox_below _ _ _ _ _))
  have KB : Hid (Blok W1 (w.heap.size + 1) 24 #[.int .i64 k2, .slice a2 n2 c2]) := Lib.hid (by
    rw [← hW1]; have := wbox_blok (wbox w k a n c) k2 a2 n2 c2; rw [wbox_size] at this; exact this)
  unfold wbox at hW1
  obtain ⟨q, hq⟩ : ∃ q, decide (l = l2) = q := ⟨_, rfl⟩
  obtain ⟨z, hz⟩ : ∃ z, (k == k2) = z := ⟨_, rfl⟩
  have HP : Hid ((z && q) = p) := Lib.hid (by rw [← hz, ← hq, ← hp, Bool.eq_iff_iff]; simp)
  have hm := timers_any a a2 n n2 c c2 l l2 W1 (h.below HB.out) (h2.below HB.out) hn q hq
  have a0 := KA.out.b0
  have a1 := KA.out.b1
  have e0 := KB.out.b0
  have e1 := KB.out.b1
  clear h h2 hp hq
  go_enter Try.func19, Try.ntmps19
  go_wp2_with fail
  refine hm.mono ?_
  rintro e w3 ⟨rfl, hb3⟩
  have HB3 := Lib.hid (HB.out.trans (hb3.mono HB.out.size))
  have KA3 := Lib.hid (KA.out.on' hb3)
  have KB3 := Lib.hid (KB.out.on' hb3)
  clear hm hb3 a0 a1 e0 e1 hW1
  have a0 := KA3.out.b0
  have e0 := KB3.out.b0
  cases q <;> cases z <;> (
    go_wp2
    go_ret
    exact ⟨by rw [← HP.out]; rfl, HB3.out⟩)
end Go.Proofs.Ytmegkfonodcoiaa
