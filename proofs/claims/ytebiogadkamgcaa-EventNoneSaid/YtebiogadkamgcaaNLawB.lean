/-
  EventNone.
-/
import Derived.Test.YtebiogadkamgcaaNAwake
namespace Go.Proofs.Ytebiogadkamgcaa
open Go.RowKit
theorem N.nil_row (w : World) : RowIn .u8 w none 0 [] := ⟨⟨Nat.le_refl _, by simp [maxLen]⟩, by simp, .inl rfl⟩
theorem N.none_len {t : Int} : ((N.put t []).getD []).length = 0 ∧ ((N.read t []).getD []).length = 0 ∧ (N.put t []).isSome = decide (N.tick t) ∧ (N.read t []).isSome = decide (N.tick t) := by
  rw [N.put_nil, N.read_nil]
  by_cases h : N.tick t
  · simp [h]
  · simp [h]
set_option maxRecDepth 100000 in
set_option maxHeartbeats 600000 in
theorem EventNone_in (t : Int) (e : Y.Ev) (w : World) : Calls Try.prog 9 #[.int .i64 t, .agg (N.ecs e)] w fun x w' => x = .returned (.bool true) ∧ Below w.heap.size w w' := by
  obtain ⟨w1, hw1, hb, hk⟩ := Zn w 34 #[.int .i64 e.k, .int .i64 e.t, .int .i64 e.a, .int .i64 e.b, .int .i64 e.c, .int .i64 e.p.q, .int .i64 e.p.i, .int .i64 e.p.h, .bool e.p.pair]
  have HB1 := Lib.hid hb
  have KE1 := Lib.hid hk
  clear hb hk
  obtain ⟨l1, l2, l3, l4⟩ := N.none_len (t := t)
  have HL1 := Lib.hid l1
  have HL2 := Lib.hid l2
  have HL3 := Lib.hid l3
  have HL4 := Lib.hid l4
  clear l1 l2 l3 l4
  unfold N.ecs
  go_enter Try.func9, Try.ntmps9
  go_wp2_with fail
  refine (nawake_any w1).mono ?_
  rintro e w2 ⟨rfl, hb⟩
  have HB2 := Zt HB1 hb
  have KE2 := Zk KE1 hb
  clear hb
  go_wp2_with fail
  refine (evPut_any t none 0 0 [] w2 (VIn.nil _) (by decide)).mono ?_
  rintro e w3 ⟨a3, c3, n3, rfl, h1, h2, hb⟩
  have HB3 := Zt HB2 hb
  have KE3 := Zk KE2 hb
  clear hb
  obtain rfl : 0 = n3 := by rw [← h1.out, HL1.out]
  rw [HL3.out]
  clear h1 h2
  go_wp2_with fail
  refine (evRead_any t none 0 0 [] w3 rfl (N.nil_row _)).mono ?_
  rintro e w4 ⟨a4, c4, n4, rfl, h1, h2, hb⟩
  have HB4 := Zt HB3 hb
  have KE4 := Zk KE3 hb
  clear hb
  obtain rfl : 0 = n4 := by rw [← h1.out, HL2.out]
  rw [HL4.out]
  clear h1 h2
  obtain ⟨w5, hw5, hb, hk⟩ := Zn w4 34 #[.int .i64 e.k, .int .i64 e.t, .int .i64 e.a, .int .i64 e.b, .int .i64 e.c, .int .i64 e.p.q, .int .i64 e.p.i, .int .i64 e.p.h, .bool e.p.pair]
  have HB5 := Zt HB4 hb
  have KE5 := Zk KE4 hb
  have HV5 : Hid (VIn w5 (some ⟨w4.heap.size, 0, none⟩) 1 1 [e]) := Lib.hid (vin_one e hk)
  clear hb hk hw1
  have v0 := Zv KE4.out 0 (.int .i64 e.k)
  have v1 := Zv KE4.out 1 (.int .i64 e.t)
  have v2 := Zv KE4.out 2 (.int .i64 e.a)
  have v3 := Zv KE4.out 3 (.int .i64 e.b)
  have v4 := Zv KE4.out 4 (.int .i64 e.c)
  have v5 := Zv KE4.out 5 (.int .i64 e.p.q)
  have v6 := Zv KE4.out 6 (.int .i64 e.p.i)
  have v7 := Zv KE4.out 7 (.int .i64 e.p.h)
  have v8 := Zv KE4.out 8 (.bool e.p.pair)
  go_wp2_with fail
  refine (evPut_any t (some ⟨w4.heap.size, 0, none⟩) 1 1 [e] w5 HV5.out (by decide)).mono ?_
  rintro e w6 ⟨a6, c6, n6, rfl, h1, h2, hb⟩
  have HB6 := Zt HB5 hb
  have KE6 := Zk KE5 hb
  clear hb
  clear v0 v1 v2 v3 v4 v5 v6 v7 v8
  have v0 := Zv KE6.out 0 (.int .i64 e.k)
  have v1 := Zv KE6.out 1 (.int .i64 e.t)
  have v2 := Zv KE6.out 2 (.int .i64 e.a)
  have v3 := Zv KE6.out 3 (.int .i64 e.b)
  have v4 := Zv KE6.out 4 (.int .i64 e.c)
  have v5 := Zv KE6.out 5 (.int .i64 e.p.q)
  have v6 := Zv KE6.out 6 (.int .i64 e.p.i)
  have v7 := Zv KE6.out 7 (.int .i64 e.p.h)
  have v8 := Zv KE6.out 8 (.bool e.p.pair)
  have ht : Hid ((decide (N.tick t)) = (decide (0 ≤ t) && decide (t ≤ 1073741824))) := Lib.hid (by rw [Bool.eq_iff_iff]; simp only [decide_eq_true_eq, Bool.and_eq_true]; exact Iff.rfl)
  rw [ht.out]
  obtain ⟨p0, hp0⟩ : ∃ z, decide (0 ≤ t) = z := ⟨_, rfl⟩
  obtain ⟨p1, hp1⟩ : ∃ z, decide (t ≤ 1073741824) = z := ⟨_, rfl⟩
  rw [hp0, hp1]
  cases hp : N.put t [e] with
  | none =>
    simp only [Option.isSome_none]
    clear hp h1 h2
    cases p0 <;> cases p1
    all_goals
      go_wp2_with fail
      go_ret
      exact ⟨rfl, HB6.out⟩
  | some q =>
    simp only [Option.isSome_some]
    have hm := (N.put_some.1 hp).2.1.1
    have HM := Lib.hid hm
    have hkk := hm.kind
    have g0 : decide (0 ≤ e.k) = true := by simp; omega
    have g1 : decide (e.k < 7) = true := by simp; omega
    clear hp h1 h2 hm
    cases p0 <;> cases p1
    all_goals
      go_wp2_with fail
      refine (evMay_any e true (decide_eq_true HM.out) w6).mono ?_
      rintro x w7 ⟨rfl, hb⟩
      have HB7 := Zt HB6 hb
      have KE7 := Zk KE6 hb
      clear hb v0 v1 v2 v3 v4 v5 v6 v7 v8
      have v0 := Zv KE7.out 0 (.int .i64 e.k)
      go_wp2_with fail
      go_ret
      exact ⟨rfl, HB7.out⟩
end Go.Proofs.Ytebiogadkamgcaa
