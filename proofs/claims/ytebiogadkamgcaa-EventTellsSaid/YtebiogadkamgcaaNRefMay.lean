/-
  The document's in, May.
-/
import Derived.Test.YtebiogadkamgcaaNMay
import Derived.Test.YtebiogadkamgcaaYRPol
namespace Go.Proofs.Ytebiogadkamgcaa
open Go.RowKit
set_option maxHeartbeats 400000 in
theorem in_any (n a b : Int) (v : Bool) (hv : decide (a ≤ n ∧ n ≤ b) = v) (w : World) :
    Calls Try.prog 29 #[.int .i64 n, .int .i64 a, .int .i64 b] w fun e w' => e = .returned (.bool v) ∧ w' = w := by
  have HV := Lib.hid hv
  clear hv
  go_enter Try.func29, Try.ntmps29
  by_cases h0 : a ≤ n
  · have d0 : decide (a ≤ n) = true := decide_eq_true h0
    have HE : Hid (v = decide (n ≤ b)) := Lib.hid (by rw [← HV.out]; exact decide_eq_decide.2 ⟨fun h => h.2, fun h => ⟨h0, h⟩⟩)
    go_wp2_with fail
    go_ret
    exact ⟨by rw [HE.out]; rfl, rfl⟩
  · have d0 : decide (a ≤ n) = false := decide_eq_false h0
    have HE : Hid (v = false) := Lib.hid (by rw [← HV.out]; exact decide_eq_false fun h => h0 h.1)
    go_wp2_with fail
    go_ret
    exact ⟨by rw [HE.out]; rfl, rfl⟩
set_option maxRecDepth 100000 in
set_option maxHeartbeats 400000 in
theorem refMay_0 (t a b c q i z : Int) (pr : Bool) (v : Bool) (hv : decide (N.May ⟨0, t, a, b, c, ⟨q, i, z, pr⟩⟩) = v) (w : World) :
    Calls Try.prog 16 #[.agg #[.int .i64 0, .int .i64 t, .int .i64 a, .int .i64 b, .int .i64 c, .int .i64 q, .int .i64 i, .int .i64 z, .bool pr]] w fun e w' => e = .returned (.bool v) ∧ Below w.heap.size w w' := by
  by_cases hT : 0 ≤ t ∧ t ≤ 1073741824
  · have d1 : decide (t < 0) = false := by simp; omega
    have d2 : decide (1073741824 < t) = false := by simp; omega
    by_cases hp : q = 0 ∧ i = 0 ∧ z = 0 ∧ pr = false
    · obtain ⟨rfl, rfl, rfl, rfl⟩ := hp
      have HF : Hid (v = (decide (0 ≤ a ∧ a ≤ 31) && (decide (0 ≤ b ∧ b ≤ 3) && decide (0 ≤ c ∧ c ≤ 7)))) := Lib.hid (by
        rw [← hv, Bool.eq_iff_iff]
        simp only [decide_eq_true_eq, Bool.and_eq_true]
        rw [N.may_iff]
        simp [N.low, N.hiA, N.hiB, N.hiC, N.tick, Y.zp]
        omega)
      obtain ⟨w1, hw1, hb, hk⟩ := Zn w 34 #[.int .i64 0, .int .i64 t, .int .i64 a, .int .i64 b, .int .i64 c, .int .i64 0, .int .i64 0, .int .i64 0, .bool false]
      have HB1 := Lib.hid hb
      have c0 := Zv hk 0 (.int .i64 0)
      have c1 := Zv hk 1 (.int .i64 t)
      have c2 := Zv hk 2 (.int .i64 a)
      have c3 := Zv hk 3 (.int .i64 b)
      have c4 := Zv hk 4 (.int .i64 c)
      have c5 := Zv hk 5 (.int .i64 0)
      have c6 := Zv hk 6 (.int .i64 0)
      have c7 := Zv hk 7 (.int .i64 0)
      have c8 := Zv hk 8 (.bool false)
      clear hb hk hv hT
      go_enter Try.func16, Try.ntmps16
      go_wp2_with fail
      obtain ⟨b0, hb0⟩ : ∃ x, decide (0 ≤ a ∧ a ≤ 31) = x := ⟨_, rfl⟩
      rw [hb0] at HF
      have HX0 := Lib.hid hb0
      clear hb0
      refine (in_any a 0 31 b0 HX0.out w1).mono ?_
      rintro e w2 ⟨rfl, hw2⟩
      obtain rfl : w1 = w2 := hw2.symm
      cases b0 with
      | false =>
        go_wp2_with fail
        go_ret
        exact ⟨by rw [HF.out]; rfl, HB1.out⟩
      | true =>
      go_wp2_with fail
      obtain ⟨b1, hb1⟩ : ∃ x, decide (0 ≤ b ∧ b ≤ 3) = x := ⟨_, rfl⟩
      rw [hb1] at HF
      have HX1 := Lib.hid hb1
      clear hb1
      refine (in_any b 0 3 b1 HX1.out w1).mono ?_
      rintro e w2 ⟨rfl, hw2⟩
      obtain rfl : w1 = w2 := hw2.symm
      cases b1 with
      | false =>
        go_wp2_with fail
        go_ret
        exact ⟨by rw [HF.out]; rfl, HB1.out⟩
      | true =>
      go_wp2_with fail
      obtain ⟨b2, hb2⟩ : ∃ x, decide (0 ≤ c ∧ c ≤ 7) = x := ⟨_, rfl⟩
      rw [hb2] at HF
      have HX2 := Lib.hid hb2
      clear hb2
      refine (in_any c 0 7 b2 HX2.out w1).mono ?_
      rintro e w2 ⟨rfl, hw2⟩
      obtain rfl : w1 = w2 := hw2.symm
      go_wp2_with fail
      go_ret
      exact ⟨by rw [HF.out]; rfl, HB1.out⟩
    · have HE : Hid (v = false) := Lib.hid (by
        rw [← hv]
        refine decide_eq_false fun h => hp ?_
        have h' := ((N.may_iff _).1 h).2.2.2.2.2.2 (show ¬ (0 : Int) = 6 by decide)
        exact (N.zp_iff q i z pr).1 h')
      obtain ⟨w1, hw1, hb, hk⟩ := Zn w 34 #[.int .i64 0, .int .i64 t, .int .i64 a, .int .i64 b, .int .i64 c, .int .i64 q, .int .i64 i, .int .i64 z, .bool pr]
      have HB1 := Lib.hid hb
      have c0 := Zv hk 0 (.int .i64 0)
      have c1 := Zv hk 1 (.int .i64 t)
      have c2 := Zv hk 2 (.int .i64 a)
      have c3 := Zv hk 3 (.int .i64 b)
      have c4 := Zv hk 4 (.int .i64 c)
      have c5 := Zv hk 5 (.int .i64 q)
      have c6 := Zv hk 6 (.int .i64 i)
      have c7 := Zv hk 7 (.int .i64 z)
      have c8 := Zv hk 8 (.bool pr)
      clear hb hk hv hT
      go_enter Try.func16, Try.ntmps16
      go_wp2_with fail
      all_goals first | (exfalso; apply hp; simp_all; done) | (go_ret; exact ⟨by rw [HE.out]; rfl, HB1.out⟩)
  · have HE : Hid (v = false) := Lib.hid (by rw [← hv]; exact decide_eq_false fun h => hT h.1)
    obtain ⟨w1, hw1, hb, hk⟩ := Zn w 34 #[.int .i64 0, .int .i64 t, .int .i64 a, .int .i64 b, .int .i64 c, .int .i64 q, .int .i64 i, .int .i64 z, .bool pr]
    have HB1 := Lib.hid hb
    have c0 := Zv hk 0 (.int .i64 0)
    have c1 := Zv hk 1 (.int .i64 t)
    clear hb hk hv
    go_enter Try.func16, Try.ntmps16
    by_cases h0 : t < 0
    · have d1 : decide (t < 0) = true := decide_eq_true h0
      go_wp2_with fail
      go_ret
      exact ⟨by rw [HE.out]; rfl, HB1.out⟩
    · have d1 : decide (t < 0) = false := decide_eq_false h0
      have d2 : decide (1073741824 < t) = true := decide_eq_true (by omega)
      go_wp2_with fail
      go_ret
      exact ⟨by rw [HE.out]; rfl, HB1.out⟩
set_option maxRecDepth 100000 in
set_option maxHeartbeats 400000 in
theorem refMay_1 (t a b c q i z : Int) (pr : Bool) (v : Bool) (hv : decide (N.May ⟨1, t, a, b, c, ⟨q, i, z, pr⟩⟩) = v) (w : World) :
    Calls Try.prog 16 #[.agg #[.int .i64 1, .int .i64 t, .int .i64 a, .int .i64 b, .int .i64 c, .int .i64 q, .int .i64 i, .int .i64 z, .bool pr]] w fun e w' => e = .returned (.bool v) ∧ Below w.heap.size w w' := by
  by_cases hT : 0 ≤ t ∧ t ≤ 1073741824
  · have d1 : decide (t < 0) = false := by simp; omega
    have d2 : decide (1073741824 < t) = false := by simp; omega
    by_cases hp : q = 0 ∧ i = 0 ∧ z = 0 ∧ pr = false
    · obtain ⟨rfl, rfl, rfl, rfl⟩ := hp
      have HF : Hid (v = (decide (0 ≤ a ∧ a ≤ 31) && (decide (0 ≤ b ∧ b ≤ 3) && decide (0 ≤ c ∧ c ≤ 7)))) := Lib.hid (by
        rw [← hv, Bool.eq_iff_iff]
        simp only [decide_eq_true_eq, Bool.and_eq_true]
        rw [N.may_iff]
        simp [N.low, N.hiA, N.hiB, N.hiC, N.tick, Y.zp]
        omega)
      obtain ⟨w1, hw1, hb, hk⟩ := Zn w 34 #[.int .i64 1, .int .i64 t, .int .i64 a, .int .i64 b, .int .i64 c, .int .i64 0, .int .i64 0, .int .i64 0, .bool false]
      have HB1 := Lib.hid hb
      have c0 := Zv hk 0 (.int .i64 1)
      have c1 := Zv hk 1 (.int .i64 t)
      have c2 := Zv hk 2 (.int .i64 a)
      have c3 := Zv hk 3 (.int .i64 b)
      have c4 := Zv hk 4 (.int .i64 c)
      have c5 := Zv hk 5 (.int .i64 0)
      have c6 := Zv hk 6 (.int .i64 0)
      have c7 := Zv hk 7 (.int .i64 0)
      have c8 := Zv hk 8 (.bool false)
      clear hb hk hv hT
      go_enter Try.func16, Try.ntmps16
      go_wp2_with fail
      obtain ⟨b0, hb0⟩ : ∃ x, decide (0 ≤ a ∧ a ≤ 31) = x := ⟨_, rfl⟩
      rw [hb0] at HF
      have HX0 := Lib.hid hb0
      clear hb0
      refine (in_any a 0 31 b0 HX0.out w1).mono ?_
      rintro e w2 ⟨rfl, hw2⟩
      obtain rfl : w1 = w2 := hw2.symm
      cases b0 with
      | false =>
        go_wp2_with fail
        go_ret
        exact ⟨by rw [HF.out]; rfl, HB1.out⟩
      | true =>
      go_wp2_with fail
      obtain ⟨b1, hb1⟩ : ∃ x, decide (0 ≤ b ∧ b ≤ 3) = x := ⟨_, rfl⟩
      rw [hb1] at HF
      have HX1 := Lib.hid hb1
      clear hb1
      refine (in_any b 0 3 b1 HX1.out w1).mono ?_
      rintro e w2 ⟨rfl, hw2⟩
      obtain rfl : w1 = w2 := hw2.symm
      cases b1 with
      | false =>
        go_wp2_with fail
        go_ret
        exact ⟨by rw [HF.out]; rfl, HB1.out⟩
      | true =>
      go_wp2_with fail
      obtain ⟨b2, hb2⟩ : ∃ x, decide (0 ≤ c ∧ c ≤ 7) = x := ⟨_, rfl⟩
      rw [hb2] at HF
      have HX2 := Lib.hid hb2
      clear hb2
      refine (in_any c 0 7 b2 HX2.out w1).mono ?_
      rintro e w2 ⟨rfl, hw2⟩
      obtain rfl : w1 = w2 := hw2.symm
      go_wp2_with fail
      go_ret
      exact ⟨by rw [HF.out]; rfl, HB1.out⟩
    · have HE : Hid (v = false) := Lib.hid (by
        rw [← hv]
        refine decide_eq_false fun h => hp ?_
        have h' := ((N.may_iff _).1 h).2.2.2.2.2.2 (show ¬ (1 : Int) = 6 by decide)
        exact (N.zp_iff q i z pr).1 h')
      obtain ⟨w1, hw1, hb, hk⟩ := Zn w 34 #[.int .i64 1, .int .i64 t, .int .i64 a, .int .i64 b, .int .i64 c, .int .i64 q, .int .i64 i, .int .i64 z, .bool pr]
      have HB1 := Lib.hid hb
      have c0 := Zv hk 0 (.int .i64 1)
      have c1 := Zv hk 1 (.int .i64 t)
      have c2 := Zv hk 2 (.int .i64 a)
      have c3 := Zv hk 3 (.int .i64 b)
      have c4 := Zv hk 4 (.int .i64 c)
      have c5 := Zv hk 5 (.int .i64 q)
      have c6 := Zv hk 6 (.int .i64 i)
      have c7 := Zv hk 7 (.int .i64 z)
      have c8 := Zv hk 8 (.bool pr)
      clear hb hk hv hT
      go_enter Try.func16, Try.ntmps16
      go_wp2_with fail
      all_goals first | (exfalso; apply hp; simp_all; done) | (go_ret; exact ⟨by rw [HE.out]; rfl, HB1.out⟩)
  · have HE : Hid (v = false) := Lib.hid (by rw [← hv]; exact decide_eq_false fun h => hT h.1)
    obtain ⟨w1, hw1, hb, hk⟩ := Zn w 34 #[.int .i64 1, .int .i64 t, .int .i64 a, .int .i64 b, .int .i64 c, .int .i64 q, .int .i64 i, .int .i64 z, .bool pr]
    have HB1 := Lib.hid hb
    have c0 := Zv hk 0 (.int .i64 1)
    have c1 := Zv hk 1 (.int .i64 t)
    clear hb hk hv
    go_enter Try.func16, Try.ntmps16
    by_cases h0 : t < 0
    · have d1 : decide (t < 0) = true := decide_eq_true h0
      go_wp2_with fail
      go_ret
      exact ⟨by rw [HE.out]; rfl, HB1.out⟩
    · have d1 : decide (t < 0) = false := decide_eq_false h0
      have d2 : decide (1073741824 < t) = true := decide_eq_true (by omega)
      go_wp2_with fail
      go_ret
      exact ⟨by rw [HE.out]; rfl, HB1.out⟩
set_option maxRecDepth 100000 in
set_option maxHeartbeats 400000 in
theorem refMay_2 (t a b c q i z : Int) (pr : Bool) (v : Bool) (hv : decide (N.May ⟨2, t, a, b, c, ⟨q, i, z, pr⟩⟩) = v) (w : World) :
    Calls Try.prog 16 #[.agg #[.int .i64 2, .int .i64 t, .int .i64 a, .int .i64 b, .int .i64 c, .int .i64 q, .int .i64 i, .int .i64 z, .bool pr]] w fun e w' => e = .returned (.bool v) ∧ Below w.heap.size w w' := by
  by_cases hT : 0 ≤ t ∧ t ≤ 1073741824
  · have d1 : decide (t < 0) = false := by simp; omega
    have d2 : decide (1073741824 < t) = false := by simp; omega
    by_cases hp : q = 0 ∧ i = 0 ∧ z = 0 ∧ pr = false
    · obtain ⟨rfl, rfl, rfl, rfl⟩ := hp
      have HF : Hid (v = (decide (0 ≤ a ∧ a ≤ 3) && (decide (1 ≤ b ∧ b ≤ 4) && decide (c = 0)))) := Lib.hid (by
        rw [← hv, Bool.eq_iff_iff]
        simp only [decide_eq_true_eq, Bool.and_eq_true]
        rw [N.may_iff]
        simp [N.low, N.hiA, N.hiB, N.hiC, N.tick, Y.zp]
        omega)
      obtain ⟨w1, hw1, hb, hk⟩ := Zn w 34 #[.int .i64 2, .int .i64 t, .int .i64 a, .int .i64 b, .int .i64 c, .int .i64 0, .int .i64 0, .int .i64 0, .bool false]
      have HB1 := Lib.hid hb
      have c0 := Zv hk 0 (.int .i64 2)
      have c1 := Zv hk 1 (.int .i64 t)
      have c2 := Zv hk 2 (.int .i64 a)
      have c3 := Zv hk 3 (.int .i64 b)
      have c4 := Zv hk 4 (.int .i64 c)
      have c5 := Zv hk 5 (.int .i64 0)
      have c6 := Zv hk 6 (.int .i64 0)
      have c7 := Zv hk 7 (.int .i64 0)
      have c8 := Zv hk 8 (.bool false)
      clear hb hk hv hT
      go_enter Try.func16, Try.ntmps16
      go_wp2_with fail
      obtain ⟨b0, hb0⟩ : ∃ x, decide (0 ≤ a ∧ a ≤ 3) = x := ⟨_, rfl⟩
      rw [hb0] at HF
      have HX0 := Lib.hid hb0
      clear hb0
      refine (in_any a 0 3 b0 HX0.out w1).mono ?_
      rintro e w2 ⟨rfl, hw2⟩
      obtain rfl : w1 = w2 := hw2.symm
      cases b0 with
      | false =>
        go_wp2_with fail
        go_ret
        exact ⟨by rw [HF.out]; rfl, HB1.out⟩
      | true =>
      go_wp2_with fail
      obtain ⟨b1, hb1⟩ : ∃ x, decide (1 ≤ b ∧ b ≤ 4) = x := ⟨_, rfl⟩
      rw [hb1] at HF
      have HX1 := Lib.hid hb1
      clear hb1
      refine (in_any b 1 4 b1 HX1.out w1).mono ?_
      rintro e w2 ⟨rfl, hw2⟩
      obtain rfl : w1 = w2 := hw2.symm
      cases b1 with
      | false =>
        go_wp2_with fail
        go_ret
        exact ⟨by rw [HF.out]; rfl, HB1.out⟩
      | true =>
      go_wp2_with fail
      go_ret
      exact ⟨by rw [HF.out]; simp [BEq.beq], HB1.out⟩
    · have HE : Hid (v = false) := Lib.hid (by
        rw [← hv]
        refine decide_eq_false fun h => hp ?_
        have h' := ((N.may_iff _).1 h).2.2.2.2.2.2 (show ¬ (2 : Int) = 6 by decide)
        exact (N.zp_iff q i z pr).1 h')
      obtain ⟨w1, hw1, hb, hk⟩ := Zn w 34 #[.int .i64 2, .int .i64 t, .int .i64 a, .int .i64 b, .int .i64 c, .int .i64 q, .int .i64 i, .int .i64 z, .bool pr]
      have HB1 := Lib.hid hb
      have c0 := Zv hk 0 (.int .i64 2)
      have c1 := Zv hk 1 (.int .i64 t)
      have c2 := Zv hk 2 (.int .i64 a)
      have c3 := Zv hk 3 (.int .i64 b)
      have c4 := Zv hk 4 (.int .i64 c)
      have c5 := Zv hk 5 (.int .i64 q)
      have c6 := Zv hk 6 (.int .i64 i)
      have c7 := Zv hk 7 (.int .i64 z)
      have c8 := Zv hk 8 (.bool pr)
      clear hb hk hv hT
      go_enter Try.func16, Try.ntmps16
      go_wp2_with fail
      all_goals first | (exfalso; apply hp; simp_all; done) | (go_ret; exact ⟨by rw [HE.out]; rfl, HB1.out⟩)
  · have HE : Hid (v = false) := Lib.hid (by rw [← hv]; exact decide_eq_false fun h => hT h.1)
    obtain ⟨w1, hw1, hb, hk⟩ := Zn w 34 #[.int .i64 2, .int .i64 t, .int .i64 a, .int .i64 b, .int .i64 c, .int .i64 q, .int .i64 i, .int .i64 z, .bool pr]
    have HB1 := Lib.hid hb
    have c0 := Zv hk 0 (.int .i64 2)
    have c1 := Zv hk 1 (.int .i64 t)
    clear hb hk hv
    go_enter Try.func16, Try.ntmps16
    by_cases h0 : t < 0
    · have d1 : decide (t < 0) = true := decide_eq_true h0
      go_wp2_with fail
      go_ret
      exact ⟨by rw [HE.out]; rfl, HB1.out⟩
    · have d1 : decide (t < 0) = false := decide_eq_false h0
      have d2 : decide (1073741824 < t) = true := decide_eq_true (by omega)
      go_wp2_with fail
      go_ret
      exact ⟨by rw [HE.out]; rfl, HB1.out⟩
set_option maxRecDepth 100000 in
set_option maxHeartbeats 400000 in
theorem refMay_3 (t a b c q i z : Int) (pr : Bool) (v : Bool) (hv : decide (N.May ⟨3, t, a, b, c, ⟨q, i, z, pr⟩⟩) = v) (w : World) :
    Calls Try.prog 16 #[.agg #[.int .i64 3, .int .i64 t, .int .i64 a, .int .i64 b, .int .i64 c, .int .i64 q, .int .i64 i, .int .i64 z, .bool pr]] w fun e w' => e = .returned (.bool v) ∧ Below w.heap.size w w' := by
  by_cases hT : 0 ≤ t ∧ t ≤ 1073741824
  · have d1 : decide (t < 0) = false := by simp; omega
    have d2 : decide (1073741824 < t) = false := by simp; omega
    by_cases hp : q = 0 ∧ i = 0 ∧ z = 0 ∧ pr = false
    · obtain ⟨rfl, rfl, rfl, rfl⟩ := hp
      have HF : Hid (v = (decide (0 ≤ a ∧ a ≤ 2) && (decide (b = 0) && decide (c = 0)))) := Lib.hid (by
        rw [← hv, Bool.eq_iff_iff]
        simp only [decide_eq_true_eq, Bool.and_eq_true]
        rw [N.may_iff]
        simp [N.low, N.hiA, N.hiB, N.hiC, N.tick, Y.zp]
        omega)
      obtain ⟨w1, hw1, hb, hk⟩ := Zn w 34 #[.int .i64 3, .int .i64 t, .int .i64 a, .int .i64 b, .int .i64 c, .int .i64 0, .int .i64 0, .int .i64 0, .bool false]
      have HB1 := Lib.hid hb
      have c0 := Zv hk 0 (.int .i64 3)
      have c1 := Zv hk 1 (.int .i64 t)
      have c2 := Zv hk 2 (.int .i64 a)
      have c3 := Zv hk 3 (.int .i64 b)
      have c4 := Zv hk 4 (.int .i64 c)
      have c5 := Zv hk 5 (.int .i64 0)
      have c6 := Zv hk 6 (.int .i64 0)
      have c7 := Zv hk 7 (.int .i64 0)
      have c8 := Zv hk 8 (.bool false)
      clear hb hk hv hT
      go_enter Try.func16, Try.ntmps16
      go_wp2_with fail
      obtain ⟨b0, hb0⟩ : ∃ x, decide (0 ≤ a ∧ a ≤ 2) = x := ⟨_, rfl⟩
      rw [hb0] at HF
      have HX0 := Lib.hid hb0
      clear hb0
      refine (in_any a 0 2 b0 HX0.out w1).mono ?_
      rintro e w2 ⟨rfl, hw2⟩
      obtain rfl : w1 = w2 := hw2.symm
      cases b0 with
      | false =>
        go_wp2_with fail
        go_ret
        exact ⟨by rw [HF.out]; rfl, HB1.out⟩
      | true =>
      have ex1 : (b == 0) = decide (b = 0) := by simp [BEq.beq]
      obtain ⟨b1, hb1⟩ : ∃ x, decide (b = 0) = x := ⟨_, rfl⟩
      rw [hb1] at HF ex1
      clear hb1
      cases b1 with
      | false =>
        go_wp2_with fail
        go_ret
        exact ⟨by rw [HF.out]; rfl, HB1.out⟩
      | true =>
      go_wp2_with fail
      go_ret
      exact ⟨by rw [HF.out]; simp [BEq.beq], HB1.out⟩
    · have HE : Hid (v = false) := Lib.hid (by
        rw [← hv]
        refine decide_eq_false fun h => hp ?_
        have h' := ((N.may_iff _).1 h).2.2.2.2.2.2 (show ¬ (3 : Int) = 6 by decide)
        exact (N.zp_iff q i z pr).1 h')
      obtain ⟨w1, hw1, hb, hk⟩ := Zn w 34 #[.int .i64 3, .int .i64 t, .int .i64 a, .int .i64 b, .int .i64 c, .int .i64 q, .int .i64 i, .int .i64 z, .bool pr]
      have HB1 := Lib.hid hb
      have c0 := Zv hk 0 (.int .i64 3)
      have c1 := Zv hk 1 (.int .i64 t)
      have c2 := Zv hk 2 (.int .i64 a)
      have c3 := Zv hk 3 (.int .i64 b)
      have c4 := Zv hk 4 (.int .i64 c)
      have c5 := Zv hk 5 (.int .i64 q)
      have c6 := Zv hk 6 (.int .i64 i)
      have c7 := Zv hk 7 (.int .i64 z)
      have c8 := Zv hk 8 (.bool pr)
      clear hb hk hv hT
      go_enter Try.func16, Try.ntmps16
      go_wp2_with fail
      all_goals first | (exfalso; apply hp; simp_all; done) | (go_ret; exact ⟨by rw [HE.out]; rfl, HB1.out⟩)
  · have HE : Hid (v = false) := Lib.hid (by rw [← hv]; exact decide_eq_false fun h => hT h.1)
    obtain ⟨w1, hw1, hb, hk⟩ := Zn w 34 #[.int .i64 3, .int .i64 t, .int .i64 a, .int .i64 b, .int .i64 c, .int .i64 q, .int .i64 i, .int .i64 z, .bool pr]
    have HB1 := Lib.hid hb
    have c0 := Zv hk 0 (.int .i64 3)
    have c1 := Zv hk 1 (.int .i64 t)
    clear hb hk hv
    go_enter Try.func16, Try.ntmps16
    by_cases h0 : t < 0
    · have d1 : decide (t < 0) = true := decide_eq_true h0
      go_wp2_with fail
      go_ret
      exact ⟨by rw [HE.out]; rfl, HB1.out⟩
    · have d1 : decide (t < 0) = false := decide_eq_false h0
      have d2 : decide (1073741824 < t) = true := decide_eq_true (by omega)
      go_wp2_with fail
      go_ret
      exact ⟨by rw [HE.out]; rfl, HB1.out⟩
set_option maxRecDepth 100000 in
set_option maxHeartbeats 400000 in
theorem refMay_4 (t a b c q i z : Int) (pr : Bool) (v : Bool) (hv : decide (N.May ⟨4, t, a, b, c, ⟨q, i, z, pr⟩⟩) = v) (w : World) :
    Calls Try.prog 16 #[.agg #[.int .i64 4, .int .i64 t, .int .i64 a, .int .i64 b, .int .i64 c, .int .i64 q, .int .i64 i, .int .i64 z, .bool pr]] w fun e w' => e = .returned (.bool v) ∧ Below w.heap.size w w' := by
  by_cases hT : 0 ≤ t ∧ t ≤ 1073741824
  · have d1 : decide (t < 0) = false := by simp; omega
    have d2 : decide (1073741824 < t) = false := by simp; omega
    by_cases hp : q = 0 ∧ i = 0 ∧ z = 0 ∧ pr = false
    · obtain ⟨rfl, rfl, rfl, rfl⟩ := hp
      have HF : Hid (v = (decide (0 ≤ a ∧ a ≤ 2) && (decide (1 ≤ b ∧ b ≤ 4) && decide (c = 0)))) := Lib.hid (by
        rw [← hv, Bool.eq_iff_iff]
        simp only [decide_eq_true_eq, Bool.and_eq_true]
        rw [N.may_iff]
        simp [N.low, N.hiA, N.hiB, N.hiC, N.tick, Y.zp]
        omega)
      obtain ⟨w1, hw1, hb, hk⟩ := Zn w 34 #[.int .i64 4, .int .i64 t, .int .i64 a, .int .i64 b, .int .i64 c, .int .i64 0, .int .i64 0, .int .i64 0, .bool false]
      have HB1 := Lib.hid hb
      have c0 := Zv hk 0 (.int .i64 4)
      have c1 := Zv hk 1 (.int .i64 t)
      have c2 := Zv hk 2 (.int .i64 a)
      have c3 := Zv hk 3 (.int .i64 b)
      have c4 := Zv hk 4 (.int .i64 c)
      have c5 := Zv hk 5 (.int .i64 0)
      have c6 := Zv hk 6 (.int .i64 0)
      have c7 := Zv hk 7 (.int .i64 0)
      have c8 := Zv hk 8 (.bool false)
      clear hb hk hv hT
      go_enter Try.func16, Try.ntmps16
      go_wp2_with fail
      obtain ⟨b0, hb0⟩ : ∃ x, decide (0 ≤ a ∧ a ≤ 2) = x := ⟨_, rfl⟩
      rw [hb0] at HF
      have HX0 := Lib.hid hb0
      clear hb0
      refine (in_any a 0 2 b0 HX0.out w1).mono ?_
      rintro e w2 ⟨rfl, hw2⟩
      obtain rfl : w1 = w2 := hw2.symm
      cases b0 with
      | false =>
        go_wp2_with fail
        go_ret
        exact ⟨by rw [HF.out]; rfl, HB1.out⟩
      | true =>
      go_wp2_with fail
      obtain ⟨b1, hb1⟩ : ∃ x, decide (1 ≤ b ∧ b ≤ 4) = x := ⟨_, rfl⟩
      rw [hb1] at HF
      have HX1 := Lib.hid hb1
      clear hb1
      refine (in_any b 1 4 b1 HX1.out w1).mono ?_
      rintro e w2 ⟨rfl, hw2⟩
      obtain rfl : w1 = w2 := hw2.symm
      cases b1 with
      | false =>
        go_wp2_with fail
        go_ret
        exact ⟨by rw [HF.out]; rfl, HB1.out⟩
      | true =>
      go_wp2_with fail
      go_ret
      exact ⟨by rw [HF.out]; simp [BEq.beq], HB1.out⟩
    · have HE : Hid (v = false) := Lib.hid (by
        rw [← hv]
        refine decide_eq_false fun h => hp ?_
        have h' := ((N.may_iff _).1 h).2.2.2.2.2.2 (show ¬ (4 : Int) = 6 by decide)
        exact (N.zp_iff q i z pr).1 h')
      obtain ⟨w1, hw1, hb, hk⟩ := Zn w 34 #[.int .i64 4, .int .i64 t, .int .i64 a, .int .i64 b, .int .i64 c, .int .i64 q, .int .i64 i, .int .i64 z, .bool pr]
      have HB1 := Lib.hid hb
      have c0 := Zv hk 0 (.int .i64 4)
      have c1 := Zv hk 1 (.int .i64 t)
      have c2 := Zv hk 2 (.int .i64 a)
      have c3 := Zv hk 3 (.int .i64 b)
      have c4 := Zv hk 4 (.int .i64 c)
      have c5 := Zv hk 5 (.int .i64 q)
      have c6 := Zv hk 6 (.int .i64 i)
      have c7 := Zv hk 7 (.int .i64 z)
      have c8 := Zv hk 8 (.bool pr)
      clear hb hk hv hT
      go_enter Try.func16, Try.ntmps16
      go_wp2_with fail
      all_goals first | (exfalso; apply hp; simp_all; done) | (go_ret; exact ⟨by rw [HE.out]; rfl, HB1.out⟩)
  · have HE : Hid (v = false) := Lib.hid (by rw [← hv]; exact decide_eq_false fun h => hT h.1)
    obtain ⟨w1, hw1, hb, hk⟩ := Zn w 34 #[.int .i64 4, .int .i64 t, .int .i64 a, .int .i64 b, .int .i64 c, .int .i64 q, .int .i64 i, .int .i64 z, .bool pr]
    have HB1 := Lib.hid hb
    have c0 := Zv hk 0 (.int .i64 4)
    have c1 := Zv hk 1 (.int .i64 t)
    clear hb hk hv
    go_enter Try.func16, Try.ntmps16
    by_cases h0 : t < 0
    · have d1 : decide (t < 0) = true := decide_eq_true h0
      go_wp2_with fail
      go_ret
      exact ⟨by rw [HE.out]; rfl, HB1.out⟩
    · have d1 : decide (t < 0) = false := decide_eq_false h0
      have d2 : decide (1073741824 < t) = true := decide_eq_true (by omega)
      go_wp2_with fail
      go_ret
      exact ⟨by rw [HE.out]; rfl, HB1.out⟩
set_option maxRecDepth 100000 in
set_option maxHeartbeats 400000 in
theorem refMay_5 (t a b c q i z : Int) (pr : Bool) (v : Bool) (hv : decide (N.May ⟨5, t, a, b, c, ⟨q, i, z, pr⟩⟩) = v) (w : World) :
    Calls Try.prog 16 #[.agg #[.int .i64 5, .int .i64 t, .int .i64 a, .int .i64 b, .int .i64 c, .int .i64 q, .int .i64 i, .int .i64 z, .bool pr]] w fun e w' => e = .returned (.bool v) ∧ Below w.heap.size w w' := by
  by_cases hT : 0 ≤ t ∧ t ≤ 1073741824
  · have d1 : decide (t < 0) = false := by simp; omega
    have d2 : decide (1073741824 < t) = false := by simp; omega
    by_cases hp : q = 0 ∧ i = 0 ∧ z = 0 ∧ pr = false
    · obtain ⟨rfl, rfl, rfl, rfl⟩ := hp
      have HF : Hid (v = (decide (0 ≤ a ∧ a ≤ 2) && (decide (b = 0) && decide (c = 0)))) := Lib.hid (by
        rw [← hv, Bool.eq_iff_iff]
        simp only [decide_eq_true_eq, Bool.and_eq_true]
        rw [N.may_iff]
        simp [N.low, N.hiA, N.hiB, N.hiC, N.tick, Y.zp]
        omega)
      obtain ⟨w1, hw1, hb, hk⟩ := Zn w 34 #[.int .i64 5, .int .i64 t, .int .i64 a, .int .i64 b, .int .i64 c, .int .i64 0, .int .i64 0, .int .i64 0, .bool false]
      have HB1 := Lib.hid hb
      have c0 := Zv hk 0 (.int .i64 5)
      have c1 := Zv hk 1 (.int .i64 t)
      have c2 := Zv hk 2 (.int .i64 a)
      have c3 := Zv hk 3 (.int .i64 b)
      have c4 := Zv hk 4 (.int .i64 c)
      have c5 := Zv hk 5 (.int .i64 0)
      have c6 := Zv hk 6 (.int .i64 0)
      have c7 := Zv hk 7 (.int .i64 0)
      have c8 := Zv hk 8 (.bool false)
      clear hb hk hv hT
      go_enter Try.func16, Try.ntmps16
      go_wp2_with fail
      obtain ⟨b0, hb0⟩ : ∃ x, decide (0 ≤ a ∧ a ≤ 2) = x := ⟨_, rfl⟩
      rw [hb0] at HF
      have HX0 := Lib.hid hb0
      clear hb0
      refine (in_any a 0 2 b0 HX0.out w1).mono ?_
      rintro e w2 ⟨rfl, hw2⟩
      obtain rfl : w1 = w2 := hw2.symm
      cases b0 with
      | false =>
        go_wp2_with fail
        go_ret
        exact ⟨by rw [HF.out]; rfl, HB1.out⟩
      | true =>
      have ex1 : (b == 0) = decide (b = 0) := by simp [BEq.beq]
      obtain ⟨b1, hb1⟩ : ∃ x, decide (b = 0) = x := ⟨_, rfl⟩
      rw [hb1] at HF ex1
      clear hb1
      cases b1 with
      | false =>
        go_wp2_with fail
        go_ret
        exact ⟨by rw [HF.out]; rfl, HB1.out⟩
      | true =>
      go_wp2_with fail
      go_ret
      exact ⟨by rw [HF.out]; simp [BEq.beq], HB1.out⟩
    · have HE : Hid (v = false) := Lib.hid (by
        rw [← hv]
        refine decide_eq_false fun h => hp ?_
        have h' := ((N.may_iff _).1 h).2.2.2.2.2.2 (show ¬ (5 : Int) = 6 by decide)
        exact (N.zp_iff q i z pr).1 h')
      obtain ⟨w1, hw1, hb, hk⟩ := Zn w 34 #[.int .i64 5, .int .i64 t, .int .i64 a, .int .i64 b, .int .i64 c, .int .i64 q, .int .i64 i, .int .i64 z, .bool pr]
      have HB1 := Lib.hid hb
      have c0 := Zv hk 0 (.int .i64 5)
      have c1 := Zv hk 1 (.int .i64 t)
      have c2 := Zv hk 2 (.int .i64 a)
      have c3 := Zv hk 3 (.int .i64 b)
      have c4 := Zv hk 4 (.int .i64 c)
      have c5 := Zv hk 5 (.int .i64 q)
      have c6 := Zv hk 6 (.int .i64 i)
      have c7 := Zv hk 7 (.int .i64 z)
      have c8 := Zv hk 8 (.bool pr)
      clear hb hk hv hT
      go_enter Try.func16, Try.ntmps16
      go_wp2_with fail
      all_goals first | (exfalso; apply hp; simp_all; done) | (go_ret; exact ⟨by rw [HE.out]; rfl, HB1.out⟩)
  · have HE : Hid (v = false) := Lib.hid (by rw [← hv]; exact decide_eq_false fun h => hT h.1)
    obtain ⟨w1, hw1, hb, hk⟩ := Zn w 34 #[.int .i64 5, .int .i64 t, .int .i64 a, .int .i64 b, .int .i64 c, .int .i64 q, .int .i64 i, .int .i64 z, .bool pr]
    have HB1 := Lib.hid hb
    have c0 := Zv hk 0 (.int .i64 5)
    have c1 := Zv hk 1 (.int .i64 t)
    clear hb hk hv
    go_enter Try.func16, Try.ntmps16
    by_cases h0 : t < 0
    · have d1 : decide (t < 0) = true := decide_eq_true h0
      go_wp2_with fail
      go_ret
      exact ⟨by rw [HE.out]; rfl, HB1.out⟩
    · have d1 : decide (t < 0) = false := decide_eq_false h0
      have d2 : decide (1073741824 < t) = true := decide_eq_true (by omega)
      go_wp2_with fail
      go_ret
      exact ⟨by rw [HE.out]; rfl, HB1.out⟩
set_option maxRecDepth 100000 in
set_option maxHeartbeats 400000 in
theorem refMay_6 (t a b c q i z : Int) (pr : Bool) (v : Bool) (hv : decide (N.May ⟨6, t, a, b, c, ⟨q, i, z, pr⟩⟩) = v) (w : World) :
    Calls Try.prog 16 #[.agg #[.int .i64 6, .int .i64 t, .int .i64 a, .int .i64 b, .int .i64 c, .int .i64 q, .int .i64 i, .int .i64 z, .bool pr]] w fun e w' => e = .returned (.bool v) ∧ Below w.heap.size w w' := by
  by_cases hT : 0 ≤ t ∧ t ≤ 1073741824
  · have d1 : decide (t < 0) = false := by simp; omega
    have d2 : decide (1073741824 < t) = false := by simp; omega
    have HF : Hid (v = (decide (a = 0) && (decide (b = 0) && (decide (c = 0) && decide (Y.MayP ⟨q, i, z, pr⟩))))) := Lib.hid (by
      rw [← hv, Bool.eq_iff_iff]
      simp only [decide_eq_true_eq, Bool.and_eq_true]
      rw [N.may_iff]
      constructor
      · rintro ⟨-, -, ha, hb, hc, hm, -⟩
        simp [N.low, N.hiA, N.hiB, N.hiC] at ha hb hc
        exact ⟨by omega, by omega, by omega, hm rfl⟩
      · rintro ⟨rfl, rfl, rfl, hm⟩
        exact ⟨by simp, hT, by simp [N.hiA], by simp [N.low, N.hiB], by simp [N.hiC], fun _ => hm, fun h => absurd rfl h⟩)
    obtain ⟨w1, hw1, hb, hk⟩ := Zn w 34 #[.int .i64 6, .int .i64 t, .int .i64 a, .int .i64 b, .int .i64 c, .int .i64 q, .int .i64 i, .int .i64 z, .bool pr]
    have HB1 := Lib.hid hb
    have c0 := Zv hk 0 (.int .i64 6)
    have c1 := Zv hk 1 (.int .i64 t)
    have c2 := Zv hk 2 (.int .i64 a)
    have c3 := Zv hk 3 (.int .i64 b)
    have c4 := Zv hk 4 (.int .i64 c)
    have c5 := Zv hk 5 (.int .i64 q)
    have c6 := Zv hk 6 (.int .i64 i)
    have c7 := Zv hk 7 (.int .i64 z)
    have c8 := Zv hk 8 (.bool pr)
    clear hb hk hv hT
    go_enter Try.func16, Try.ntmps16
    have ea : (a == 0) = decide (a = 0) := by simp [BEq.beq]
    have eb : (b == 0) = decide (b = 0) := by simp [BEq.beq]
    have ec : (c == 0) = decide (c = 0) := by simp [BEq.beq]
    obtain ⟨b0, hb0⟩ : ∃ x, decide (a = 0) = x := ⟨_, rfl⟩
    obtain ⟨b1, hb1⟩ : ∃ x, decide (b = 0) = x := ⟨_, rfl⟩
    obtain ⟨b2, hb2⟩ : ∃ x, decide (c = 0) = x := ⟨_, rfl⟩
    obtain ⟨b3, hb3⟩ : ∃ x, decide (Y.MayP ⟨q, i, z, pr⟩) = x := ⟨_, rfl⟩
    rw [hb0] at HF ea
    rw [hb1] at HF eb
    rw [hb2] at HF ec
    rw [hb3] at HF
    have H3 := Lib.hid hb3
    clear hb0 hb1 hb2 hb3
    cases b0 with
    | false =>
      go_wp2_with fail
      go_ret
      exact ⟨by rw [HF.out]; rfl, HB1.out⟩
    | true =>
    cases b1 with
    | false =>
      go_wp2_with fail
      go_ret
      exact ⟨by rw [HF.out]; rfl, HB1.out⟩
    | true =>
    cases b2 with
    | false =>
      go_wp2_with fail
      go_ret
      exact ⟨by rw [HF.out]; rfl, HB1.out⟩
    | true =>
    go_wp2_with fail
    refine (refMayP_any ⟨q, i, z, pr⟩ b3 H3.out w1).mono ?_
    rintro e w2 ⟨rfl, hb⟩
    have HB2 := Zt HB1 hb
    clear hb
    go_wp2_with fail
    go_ret
    exact ⟨by rw [HF.out]; rfl, HB2.out⟩
  · have HE : Hid (v = false) := Lib.hid (by rw [← hv]; exact decide_eq_false fun h => hT h.1)
    obtain ⟨w1, hw1, hb, hk⟩ := Zn w 34 #[.int .i64 6, .int .i64 t, .int .i64 a, .int .i64 b, .int .i64 c, .int .i64 q, .int .i64 i, .int .i64 z, .bool pr]
    have HB1 := Lib.hid hb
    have c0 := Zv hk 0 (.int .i64 6)
    have c1 := Zv hk 1 (.int .i64 t)
    clear hb hk hv
    go_enter Try.func16, Try.ntmps16
    by_cases h0 : t < 0
    · have d1 : decide (t < 0) = true := decide_eq_true h0
      go_wp2_with fail
      go_ret
      exact ⟨by rw [HE.out]; rfl, HB1.out⟩
    · have d1 : decide (t < 0) = false := decide_eq_false h0
      have d2 : decide (1073741824 < t) = true := decide_eq_true (by omega)
      go_wp2_with fail
      go_ret
      exact ⟨by rw [HE.out]; rfl, HB1.out⟩
set_option maxRecDepth 100000 in
set_option maxHeartbeats 400000 in
theorem refMay_7 (k t a b c q i z : Int) (pr : Bool) (h7 : k < 0 ∨ 6 < k) (w : World) :
    Calls Try.prog 16 #[.agg #[.int .i64 k, .int .i64 t, .int .i64 a, .int .i64 b, .int .i64 c, .int .i64 q, .int .i64 i, .int .i64 z, .bool pr]] w fun e w' => e = .returned (.bool false) ∧ Below w.heap.size w w' := by
  obtain ⟨w1, hw1, hb, hk⟩ := Zn w 34 #[.int .i64 k, .int .i64 t, .int .i64 a, .int .i64 b, .int .i64 c, .int .i64 q, .int .i64 i, .int .i64 z, .bool pr]
  have HB1 := Lib.hid hb
  have c0 := Zv hk 0 (.int .i64 k)
  have c1 := Zv hk 1 (.int .i64 t)
  have c2 := Zv hk 2 (.int .i64 a)
  have c3 := Zv hk 3 (.int .i64 b)
  have c4 := Zv hk 4 (.int .i64 c)
  have c5 := Zv hk 5 (.int .i64 q)
  have c6 := Zv hk 6 (.int .i64 i)
  have c7 := Zv hk 7 (.int .i64 z)
  have c8 := Zv hk 8 (.bool pr)
  clear hb hk
  have e0 : (k == 0) = false := by simp; omega
  have n0 : (k = 0) = False := by simp; omega
  have e1 : (k == 1) = false := by simp; omega
  have n1 : (k = 1) = False := by simp; omega
  have e2 : (k == 2) = false := by simp; omega
  have n2 : (k = 2) = False := by simp; omega
  have e3 : (k == 3) = false := by simp; omega
  have n3 : (k = 3) = False := by simp; omega
  have e4 : (k == 4) = false := by simp; omega
  have n4 : (k = 4) = False := by simp; omega
  have e5 : (k == 5) = false := by simp; omega
  have n5 : (k = 5) = False := by simp; omega
  have e6 : (k == 6) = false := by simp; omega
  have n6 : (k = 6) = False := by simp; omega
  go_enter Try.func16, Try.ntmps16
  go_wp2_with fail
  all_goals (go_ret; exact ⟨rfl, HB1.out⟩)
theorem refMay_any (e : Y.Ev) (v : Bool) (hv : decide (N.May e) = v) (w : World) : Calls Try.prog 16 #[.agg (N.ecs e)] w fun x w' => x = .returned (.bool v) ∧ Below w.heap.size w w' := by
  obtain ⟨k, t, a, b, c, ⟨q, i, z, pr⟩⟩ := e
  have h8 : k = 0 ∨ k = 1 ∨ k = 2 ∨ k = 3 ∨ k = 4 ∨ k = 5 ∨ k = 6 ∨ (k < 0 ∨ 6 < k) := by omega
  rcases h8 with rfl | rfl | rfl | rfl | rfl | rfl | rfl | h7
  · exact refMay_0 t a b c q i z pr v hv w
  · exact refMay_1 t a b c q i z pr v hv w
  · exact refMay_2 t a b c q i z pr v hv w
  · exact refMay_3 t a b c q i z pr v hv w
  · exact refMay_4 t a b c q i z pr v hv w
  · exact refMay_5 t a b c q i z pr v hv w
  · exact refMay_6 t a b c q i z pr v hv w
  · obtain rfl : v = false := by rw [← hv]; exact decide_eq_false fun h => by have := h.kind; simp only at this; omega
    exact refMay_7 k t a b c q i z pr h7 w
end Go.Proofs.Ytebiogadkamgcaa
