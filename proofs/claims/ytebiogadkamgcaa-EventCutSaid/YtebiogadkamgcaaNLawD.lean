/-
  EventCut.
-/
import Derived.Test.YtebiogadkamgcaaNLawC
namespace Go.Proofs.Ytebiogadkamgcaa
open Go.RowKit
set_option maxRecDepth 100000 in
set_option maxHeartbeats 600000 in
theorem EventCut_in (t k : Int) (a : Option Addr) (n c : Nat) (l : List Y.Ev) (w : World) (h : VIn w a n c l) (h6 : n * 72 ≤ 140737488351232) : Calls Try.prog 8 #[.int .i64 t, .slice a n c, .int .i64 k] w fun x w' => x = .returned (.bool true) ∧ Below w.heap.size w w' := by
  have HV0 := Lib.hid h
  clear h
  go_enter Try.func8, Try.ntmps8
  go_wp2_with fail
  refine (nawake_any w).mono ?_
  rintro e w1 ⟨rfl, hb⟩
  have HB1 := Lib.hid hb
  have HV1 := Lib.hid (HV0.out.below hb)
  clear hb
  go_wp2_with fail
  refine (evPut_any t a n c l w1 HV1.out (by omega)).mono ?_
  rintro e w2 ⟨a2, c2, n2, rfl, h1, h2, hb⟩
  have HB2 := Zt HB1 hb
  have HV2 := Lib.hid (HV1.out.below hb)
  clear hb
  cases hp : N.put t l with
  | none =>
    simp only [Option.isSome_none]
    clear hp h1 h2
    go_wp2_with fail
    go_ret
    exact ⟨rfl, HB2.out⟩
  | some q =>
  rw [hp] at h1 h2
  simp only [Option.getD_some] at h1 h2
  simp only [Option.isSome_some]
  have HP := Lib.hid hp
  have HN2 := h1
  have HR2 := h2
  clear h1 h2 hp
  by_cases hn : 60 < n
  · have d1 : decide (60 < (n : Int)) = true := by simp; omega
    go_wp2_with fail
    go_ret
    exact ⟨rfl, HB2.out⟩
  have d1 : decide (60 < (n : Int)) = false := by simp; omega
  by_cases hk0 : k < 0
  · have d2 : decide (k < 0) = true := decide_eq_true hk0
    go_wp2_with fail
    go_ret
    exact ⟨rfl, HB2.out⟩
  have d2 : decide (k < 0) = false := decide_eq_false hk0
  by_cases hkn : (n2 : Int) < k
  · have d3 : decide ((n2 : Int) < k) = true := decide_eq_true hkn
    go_wp2_with fail
    go_ret
    exact ⟨rfl, HB2.out⟩
  have d3 : decide ((n2 : Int) < k) = false := decide_eq_false hkn
  obtain ⟨j, rfl⟩ : ∃ j : Nat, k = (j : Int) := ⟨k.toNat, by omega⟩
  have hj : j ≤ n2 := by omega
  have hc2 := HR2.out.1
  have hq := HN2.out
  have s1 : ∀ w, (Instr.sliceAt 23 (.slice a2 n2 c2) none (some (.int .i64 (j : Int))) none).run Try.prog w = .ok (.slice (slk 1 a2 0 c2) j c2) w := fun w => slice_h (a := a2) (len := n2) (cap := c2) (k := 1) Try.underlying23 (fun _ => rfl) w (h := j) (by omega)
  have HJ : Hid (RowIn .u8 w2 (slk 1 a2 0 c2) c2 (q.take j)) := Lib.hid (by
    have := row_sliced HR2.out (l := 0) (h := j) (m := c2) (by omega) (by omega) (by omega) hc2.2
    rw [sl_slk]
    simpa using this)
  have hlj : (q.take j).length = j := by simp; omega
  go_wp2_with fail
  refine (evRead_any t (slk 1 a2 0 c2) j c2 (q.take j) w2 hlj HJ.out).mono ?_
  rintro e w3 ⟨a4, c4, n4, rfl, h1, h2, hb⟩
  have HB3 := Zt HB2 hb
  have HV3 := Lib.hid (HV2.out.below hb)
  clear hb
  cases hr : N.read t (q.take j) with
  | none =>
    rw [hr] at h1
    simp only [Option.getD_none, List.length_nil] at h1
    obtain rfl : 0 = n4 := h1.out
    simp only [Option.isSome_none]
    clear hr h1 h2
    go_wp2_with fail
    go_ret
    exact ⟨rfl, HB3.out⟩
  | some x =>
  rw [hr] at h1 h2
  simp only [Option.getD_some] at h1 h2
  simp only [Option.isSome_some]
  obtain ⟨y, hy⟩ := N.cut HP.out hr
  obtain rfl : x.length = n4 := h1.out
  have HX3 := h2
  have hxl : x.length ≤ n := by rw [← HV0.out.1, hy, List.length_append]; omega
  have hcn := HV0.out.2.1.1
  have s2 : ∀ w, (Instr.sliceAt 22 (.slice a n c) none (some (.int .i64 (x.length : Int))) none).run Try.prog w = .ok (.slice (slk 9 a 0 c) x.length c) w := fun w => slice_h (a := a) (len := n) (cap := c) (k := 9) Try.underlying22 (fun _ => rfl) w (h := x.length) (by omega)
  have HX : Hid (l.take x.length = x) := Lib.hid (by rw [hy, List.take_left])
  have d4 : decide ((n : Int) < (x.length : Int)) = false := by simp; omega
  have HQ : Hid (N.put t x = some (q.take j)) := Lib.hid (N.read_some.1 hr)
  clear hr h1 h2 hy s1
  go_wp2_with fail
  refine (evSame_any a4 (slk 9 a 0 c) x.length x.length c4 c x (l.take x.length) w3 HX3.out (N.parts HV3.out hxl).1 (by omega) true (decide_eq_true HX.out.symm)).mono ?_
  rintro e w4 ⟨rfl, hb⟩
  have HB4 := Zt HB3 hb
  have HX4 := Lib.hid (HX3.out.below hb)
  clear hb
  clear s2
  go_wp2_with fail
  refine (evPut_any t a4 x.length c4 x w4 HX4.out (by omega)).mono ?_
  rintro e w5 ⟨a5, c5, n5, rfl, h1, h2, hb⟩
  have HB5 := Zt HB4 hb
  clear hb
  rw [HQ.out] at h1 ⊢
  simp only [Option.getD_some, Option.isSome_some] at h1 ⊢
  obtain rfl : j = n5 := by rw [← h1.out, hlj]
  clear h1 h2
  go_wp2_with fail
  go_ret
  exact ⟨rfl, HB5.out⟩
end Go.Proofs.Ytebiogadkamgcaa
