/-
  EventShort.
-/
import Derived.Test.YtebiogadkamgcaaNAwake
namespace Go.Proofs.Ytebiogadkamgcaa
open Go.RowKit
set_option maxRecDepth 100000 in
set_option maxHeartbeats 600000 in
theorem EventShort_in (t : Int) (e : Y.Ev) (w : World) : Calls Try.prog 5 #[.int .i64 t, .agg (N.ecs e)] w fun x w' => x = .returned (.bool true) ∧ Below w.heap.size w w' := by
  obtain ⟨w1, hw1, hb, hk⟩ := Zn w 34 #[.int .i64 e.k, .int .i64 e.t, .int .i64 e.a, .int .i64 e.b, .int .i64 e.c, .int .i64 e.p.q, .int .i64 e.p.i, .int .i64 e.p.h, .bool e.p.pair]
  have HB1 := Lib.hid hb
  have KE1 := Lib.hid hk
  clear hb hk
  unfold N.ecs
  go_enter Try.func5, Try.ntmps5
  go_wp2_with fail
  refine (nawake_any w1).mono ?_
  rintro e w2 ⟨rfl, hb⟩
  have HB2 := Zt HB1 hb
  have KE2 := Zk KE1 hb
  clear hb
  obtain ⟨w3, hw3, hb, hk⟩ := Zn w2 34 #[.int .i64 e.k, .int .i64 e.t, .int .i64 e.a, .int .i64 e.b, .int .i64 e.c, .int .i64 e.p.q, .int .i64 e.p.i, .int .i64 e.p.h, .bool e.p.pair]
  have HB3 := Zt HB2 hb
  have KE3 := Zk KE2 hb
  have HV3 : Hid (VIn w3 (some ⟨w2.heap.size, 0, none⟩) 1 1 [e]) := Lib.hid (vin_one e hk)
  clear hb hk hw1
  have v0 := Zv KE2.out 0 (.int .i64 e.k)
  have v1 := Zv KE2.out 1 (.int .i64 e.t)
  have v2 := Zv KE2.out 2 (.int .i64 e.a)
  have v3 := Zv KE2.out 3 (.int .i64 e.b)
  have v4 := Zv KE2.out 4 (.int .i64 e.c)
  have v5 := Zv KE2.out 5 (.int .i64 e.p.q)
  have v6 := Zv KE2.out 6 (.int .i64 e.p.i)
  have v7 := Zv KE2.out 7 (.int .i64 e.p.h)
  have v8 := Zv KE2.out 8 (.bool e.p.pair)
  go_wp2_with fail
  refine (evPut_any t (some ⟨w2.heap.size, 0, none⟩) 1 1 [e] w3 HV3.out (by decide)).mono ?_
  rintro e w4 ⟨a4, c4, n4, rfl, h1, h2, hb⟩
  have HB4 := Zt HB3 hb
  have KE4 := Zk KE3 hb
  clear hb
  clear v0 v1 v2 v3 v4 v5 v6 v7 v8
  have v0 := Zv KE4.out 0 (.int .i64 e.k)
  have v1 := Zv KE4.out 1 (.int .i64 e.t)
  cases hp : N.put t [e] with
  | none =>
    simp only [Option.isSome_none]
    clear hp h1 h2
    go_wp2_with fail
    go_ret
    exact ⟨rfl, HB4.out⟩
  | some q =>
    rw [hp] at h1 h2
    simp only [Option.getD_some] at h1 h2
    simp only [Option.isSome_some]
    by_cases hk : e.k = 0 ∨ e.k = 1
    · obtain ⟨s1, s2, s3⟩ := N.short hp hk
      rw [h1.out] at s1 s2 s3
      clear hp h1 h2
      have g1 : decide ((2 : Int) ≤ (n4 : Int)) = true := by simp; omega
      have g2 : decide ((n4 : Int) ≤ 7) = true := by simp; omega
      by_cases he : e.t = t
      · have g3 : decide ((n4 : Int) ≤ 3) = true := by have := s3 he; simp; omega
        have ne : (e.t != t) = false := by simp [he]
        clear s3
        rcases hk with hk | hk
        · have n0 : (e.k != 0) = false := by simp [hk]
          go_wp2_with fail
          all_goals (go_ret; exact ⟨by first | rfl | simp_all, HB4.out⟩)
        · have n0 : (e.k != 0) = true := by simp [hk]
          have n1 : (e.k != 1) = false := by simp [hk]
          go_wp2_with fail
          all_goals (go_ret; exact ⟨by first | rfl | simp_all, HB4.out⟩)
      · have ne : (e.t != t) = true := by simp [he]
        clear s3
        rcases hk with hk | hk
        · have n0 : (e.k != 0) = false := by simp [hk]
          go_wp2_with fail
          all_goals (go_ret; exact ⟨by first | rfl | simp_all, HB4.out⟩)
        · have n0 : (e.k != 0) = true := by simp [hk]
          have n1 : (e.k != 1) = false := by simp [hk]
          go_wp2_with fail
          all_goals (go_ret; exact ⟨by first | rfl | simp_all, HB4.out⟩)
    · have n0 : (e.k != 0) = true := by simp; omega
      have n1 : (e.k != 1) = true := by simp; omega
      clear hp h1 h2
      go_wp2_with fail
      go_ret
      exact ⟨rfl, HB4.out⟩
end Go.Proofs.Ytebiogadkamgcaa
