import Derived.Test.YtnbkkjcmblfhpaaGreatP26
import Derived.Test.YtnbkkjcmblfhpaaGreatP12
namespace Go.Proofs.YtnbkkjcmblfhpaaGreat
set_option maxHeartbeats 400000
set_option maxRecDepth 100000
open Go.RowKit
theorem zob (e : Y.Ev) (v : Bool) (hv : decide (N.May e) = v) (w : World) :
  Calls Tryz.prog 100 #[.agg (N.ecs e)] w fun x w' => x = .returned (.bool v) /\ Below w.heap.size w w' := by
 obtain ⟨w1, hw1, hb, hk⟩ := Zn w 70 (N.ecs e)
 have HB1 := Zh hb
 have KE1 := Zh hk
 have HV : Hid (decide ((0 <= e.k /\ e.k <= 6) /\ N.tick e.t /\ (0 <= e.a /\ e.a <= N.hiA e.k) /\ (N.low e.k <= e.b /\ e.b <= N.hiB e.k) /\ (0 <= e.c /\ e.c <= N.hiC e.k) /\ (e.k = 6 -> Y.MayP e.p) /\ (¬ e.k = 6 -> e.p = Y.zp)) = v) := Zh (by rw [<- hv]; exact decide_eq_decide.2 (N.may_iff e).symm)
 clear hb hk hv
 unfold N.ecs at *
 obtain ⟨k, t, a, b, c, p⟩ := e
 obtain ⟨q, i, h, pr⟩ := p
 simp only at HV KE1 hw1 ⊢
 have c0 := Zv KE1.out 0 (.int .i64 k)
 have c1 := Zv KE1.out 1 (.int .i64 t)
 have c2 := Zv KE1.out 2 (.int .i64 a)
 have c3 := Zv KE1.out 3 (.int .i64 b)
 have c4 := Zv KE1.out 4 (.int .i64 c)
 go_enter Tryz.func100, Tryz.ntmps100
 by_cases k0 : k < 0
 ·have d0 : decide (k < 0) = true := decide_eq_true k0
  have HE : Hid (v = false) := Zh (by rw [<- HV.out]; exact decide_eq_false fun h => by have := h.1; omega)
  go_wp2_with fail
  go_ret
  exact ⟨by rw [HE.out]; rfl, HB1.out⟩
 by_cases k7 : 7 <= k
 ·have d0 : decide (k < 0) = false := decide_eq_false k0
  have d1 : decide (7 <= k) = true := decide_eq_true k7
  have HE : Hid (v = false) := Zh (by rw [<- HV.out]; exact decide_eq_false fun h => by have := h.1; omega)
  go_wp2_with fail
  go_ret
  exact ⟨by rw [HE.out]; rfl, HB1.out⟩
 have d0 : decide (k < 0) = false := decide_eq_false k0
 have d1 : decide (7 <= k) = false := decide_eq_false k7
 obtain ⟨tk, htk⟩ : ∃ z, decide (N.tick t) = z := ⟨_, rfl⟩
 go_wp2_with fail
 refine (zq9 t tk htk w1).mono ?_
 rintro x w2 ⟨rfl, rfl⟩
 cases tk with
 | false =>
  have HE : Hid (v = false) := Zh (by rw [<- HV.out]; exact decide_eq_false fun h => of_decide_eq_false htk h.2.1)
  go_wp2_with fail
  go_ret
  exact ⟨by rw [HE.out]; rfl, HB1.out⟩
 | true =>
 go_wp2_with fail
 refine (zra k (by omega) w2).mono ?_
 rintro x w3 ⟨rfl, hb⟩
 have HB3 := Zt HB1 hb
 have KE3 := Zk KE1 hb
 clear hb c0 c1 c2 c3 c4 hw1
 obtain ⟨w4, hw4⟩ : ∃ W, w3.alloc (.cells #[.int .i64 0, .int .i64 0, .int .i64 0] 215) = W := ⟨_, rfl⟩
 obtain ⟨w5, hw5⟩ : ∃ W, w4.alloc (.cells #[.int .i64 0, .int .i64 0, .int .i64 0] 215) = W := ⟨_, rfl⟩
 obtain ⟨w6, hw6⟩ : ∃ W, w5.setRow w3.heap.size #[.int .i64 0, .int .i64 (N.low k), .int .i64 0] = W := ⟨_, rfl⟩
 obtain ⟨w7, hw7⟩ : ∃ W, w6.setRow w4.heap.size #[.int .i64 (N.hiA k), .int .i64 (N.hiB k), .int .i64 (N.hiC k)] = W := ⟨_, rfl⟩
 obtain ⟨z1, z2, kl, km, hb, e4⟩ := box2 hw4 hw5 hw6 hw7
 rw [e4] at z2 km
 have HW6 := Zh hw6
 have HW7 : Hid (w6.setRow (w3.heap.size + 1) #[.int .i64 (N.hiA k), .int .i64 (N.hiB k), .int .i64 (N.hiC k)] = w7) := Zh (by rw [<- hw7, e4])
 have HB7 := Zt HB3 hb
 have KE7 := Zk KE3 hb
 have KL7 := Zh kl
 have KM7 := Zh km
 have HZ1 := Zh z1
 have HZ2 := Zh z2
 clear hb kl km z1 z2 hw6 hw7
 obtain ⟨w8, hw8, hb, hk⟩ := Zn w7 215 #[.int .i64 a, .int .i64 b, .int .i64 c]
 have HB8 := Zt HB7 hb
 have KE8 := Zk KE7 hb
 have KL8 := Zk KL7 hb
 have KM8 := Zk KM7 hb
 clear hb
 have c0 := Zv KE3.out 0 (.int .i64 k)
 have c2 := Zv KE7.out 2 (.int .i64 a)
 have c3 := Zv KE7.out 3 (.int .i64 b)
 have c4 := Zv KE7.out 4 (.int .i64 c)
 have p0 := Zv hk 0 (.int .i64 a)
 have p1 := Zv hk 1 (.int .i64 b)
 have p2 := Zv hk 2 (.int .i64 c)
 clear hk
 go_wp2_with (first | (refine Zw HZ1.out HW6.out ?_) | (refine Zw HZ2.out HW7.out ?_))
 have l0 := Zv KL8.out 0 (.int .i64 0)
 have l1 := Zv KL8.out 1 (.int .i64 (N.low k))
 have l2 := Zv KL8.out 2 (.int .i64 0)
 have m0 := Zv KM8.out 0 (.int .i64 (N.hiA k))
 have m1 := Zv KM8.out 1 (.int .i64 (N.hiB k))
 have m2 := Zv KM8.out 2 (.int .i64 (N.hiC k))
 clear c0 c2 c3 c4 p0 p1 p2
 have d0 := Zv KE8.out 0 (.int .i64 k)
 have i0 : ∀ w, (Instr.index 215 (.agg #[.int .i64 a, .int .i64 b, .int .i64 c]) (.int .i64 0)).run Tryz.prog w = .ok (.int .i64 a) w := fun _ => by kernel_rfl
 have i1 : ∀ w, (Instr.index 215 (.agg #[.int .i64 a, .int .i64 b, .int .i64 c]) (.int .i64 1)).run Tryz.prog w = .ok (.int .i64 b) w := fun _ => by kernel_rfl
 have i2 : ∀ w, (Instr.index 215 (.agg #[.int .i64 a, .int .i64 b, .int .i64 c]) (.int .i64 2)).run Tryz.prog w = .ok (.int .i64 c) w := fun _ => by kernel_rfl
 refine wp_loop_rounds 4 ?_
 rw [rounds_succ]
 go_wp2_with fail
 all_goals first | (go_ret; exact ⟨by rw [show v = false from by rw [<- HV.out]; exact decide_eq_false fun hh => by obtain ⟨-, -, g1, g2, g3, -⟩ := hh; omega]; rfl, HB8.out⟩) | skip
 rw [rounds_succ]
 go_wp2_with fail
 all_goals first | (go_ret; exact ⟨by rw [show v = false from by rw [<- HV.out]; exact decide_eq_false fun hh => by obtain ⟨-, -, g1, g2, g3, -⟩ := hh; omega]; rfl, HB8.out⟩) | skip
 rw [rounds_succ]
 go_wp2_with fail
 all_goals first | (go_ret; exact ⟨by rw [show v = false from by rw [<- HV.out]; exact decide_eq_false fun hh => by obtain ⟨-, -, g1, g2, g3, -⟩ := hh; omega]; rfl, HB8.out⟩) | skip
 rw [rounds_succ]
 by_cases k6 : k = 6
 ·subst k6
  have d5 := Zv KE8.out 5 (.int .i64 q)
  have d6 := Zv KE8.out 6 (.int .i64 i)
  have d7 := Zv KE8.out 7 (.int .i64 h)
  have d8 := Zv KE8.out 8 (.bool pr)
  go_wp2_with fail
  refine (zbe ⟨q, i, h, pr⟩ v (by rw [<- HV.out]; rw [decide_eq_decide]; exact ⟨fun g => ⟨by omega, of_decide_eq_true htk, by assumption, by assumption, by assumption, fun _ => g, fun h => absurd trivial h⟩, fun g => g.2.2.2.2.2.1 trivial⟩) w8).mono ?_
  rintro x w9 ⟨rfl, hb⟩
  have HB9 := Zt HB8 hb
  clear hb
  go_wp2_with fail
  go_ret
  exact ⟨rfl, HB9.out⟩
 ·have dk : decide (k = 6) = false := decide_eq_false k6
  have d5 := Zv KE8.out 5 (.int .i64 q)
  have d6 := Zv KE8.out 6 (.int .i64 i)
  have d7 := Zv KE8.out 7 (.int .i64 h)
  have d8 := Zv KE8.out 8 (.bool pr)
  have HV2 : Hid (v = (decide (q = 0) && (decide (i = 0) && (decide (h = 0) && !pr)))) := Zh (by
   rw [<- HV.out, Bool.eq_iff_iff]
   simp only [decide_eq_true_eq, Bool.and_eq_true, Bool.not_eq_true', <- N.zp_iff q i h pr]
   exact ⟨fun g => g.2.2.2.2.2.2 k6, fun g => ⟨by omega, of_decide_eq_true htk, by assumption, by assumption, by assumption, fun h => absurd h k6, fun _ => g⟩⟩)
  go_wp2_with fail
  all_goals (go_ret; refine ⟨?_, HB8.out⟩; rw [HV2.out]; first | (simp_all; done) | rfl)
end Go.Proofs.YtnbkkjcmblfhpaaGreat
