/-
  EventBack.
-/
import Derived.Test.YtebiogadkamgcaaNLawE
import Derived.Test.YtebiogadkamgcaaReg2
namespace Go.Proofs.Ytebiogadkamgcaa
open Go.RowKit
set_option maxRecDepth 100000 in
set_option maxHeartbeats 1000000 in
theorem EventBack_in (t : Int) (a : Option Addr) (n c : Nat) (l : List Y.Ev) (a' : Option Addr) (m c' : Nat) (k : List Y.Ev) (ab : Option Addr) (nb cb : Nat) (b : List Int) (w : World) (h : VIn w a n c l) (h' : VIn w a' m c' k) (hbl : b.length = nb) (hbr : RowIn .u8 w ab cb b) : Calls Try.prog 4 #[.int .i64 t, .slice a n c, .slice a' m c', .slice ab nb cb] w fun x w' => x = .returned (.bool true) ∧ Below w.heap.size w w' := by
  have HV0 := Lib.hid h
  have HW0 := Lib.hid h'
  have HR0 := Lib.hid hbr
  have HBL := Lib.hid hbl
  clear h h' hbr hbl
  go_enter Try.func4, Try.ntmps4
  go_wp2_with fail
  refine (nawake_any w).mono ?_
  rintro e w1 ⟨rfl, hb⟩
  have HB1 := Lib.hid hb
  have HV1 := Lib.hid (HV0.out.below hb)
  have HW1 := Lib.hid (HW0.out.below hb)
  have HR1 := Lib.hid (HR0.out.below hb)
  clear hb
  by_cases hn : 100 < n
  · have d1 : decide (100 < (n : Int)) = true := by simp; omega
    go_wp2_with fail
    go_ret
    exact ⟨rfl, HB1.out⟩
  have d1 : decide (100 < (n : Int)) = false := by simp; omega
  by_cases hm : 100 < m
  · have d2 : decide (100 < (m : Int)) = true := by simp; omega
    go_wp2_with fail
    go_ret
    exact ⟨rfl, HB1.out⟩
  have d2 : decide (100 < (m : Int)) = false := by simp; omega
  by_cases hnb : 600 < nb
  · have d3 : decide (600 < (nb : Int)) = true := by simp; omega
    go_wp2_with fail
    go_ret
    exact ⟨rfl, HB1.out⟩
  have d3 : decide (600 < (nb : Int)) = false := by simp; omega
  go_wp2_with fail
  refine (evPut_any t a n c l w1 HV1.out (by omega)).mono ?_
  rintro e w2 ⟨a2, c2, n2, rfl, h1, h2, hb⟩
  have HB2 := Zt HB1 hb
  have HV2 := Lib.hid (HV1.out.below hb)
  have HW2 := Lib.hid (HW1.out.below hb)
  have HR2 := Lib.hid (HR1.out.below hb)
  clear hb
  have HP2 := h2
  have HPN := h1
  clear h1 h2
  go_wp2_with fail
  refine (evPut_any t a' m c' k w2 HW2.out (by omega)).mono ?_
  rintro e w3 ⟨a3, c3, n3, rfl, h1, h2, hb⟩
  have HB3 := Zt HB2 hb
  have HV3 := Lib.hid (HV2.out.below hb)
  have HW3 := Lib.hid (HW2.out.below hb)
  have HR3 := Lib.hid (HR2.out.below hb)
  have HP3 := Lib.hid (HP2.out.below hb)
  clear hb
  have HQ3 := h2
  have HQN := h1
  clear h1 h2
  go_wp2_with fail
  refine (evRead_any t a2 n2 c2 ((N.put t l).getD []) w3 HPN.out HP3.out).mono ?_
  rintro e w4 ⟨a4, c4, n4, rfl, h1, h2, hb⟩
  have HB4 := Zt HB3 hb
  have HV4 := Lib.hid (HV3.out.below hb)
  have HW4 := Lib.hid (HW3.out.below hb)
  have HR4 := Lib.hid (HR3.out.below hb)
  have HP4 := Lib.hid (HP3.out.below hb)
  have HQ4 := Lib.hid (HQ3.out.below hb)
  clear hb
  have HX4 := h2
  have HXN := h1
  clear h1 h2
  go_wp2_with fail
  refine (evRead_any t ab nb cb b w4 HBL.out HR4.out).mono ?_
  rintro e w5 ⟨a5, c5, n5, rfl, h1, h2, hb⟩
  have HB5 := Zt HB4 hb
  have HV5 := Lib.hid (HV4.out.below hb)
  have HW5 := Lib.hid (HW4.out.below hb)
  have HR5 := Lib.hid (HR4.out.below hb)
  have HP5 := Lib.hid (HP4.out.below hb)
  have HQ5 := Lib.hid (HQ4.out.below hb)
  have HX5 := Lib.hid (HX4.out.below hb)
  clear hb
  have HY5 := h2
  have HYN := h1
  clear h1 h2
  have hq5 : n5 ≤ 600 := by
    rw [← HYN.out]
    cases hr : N.read t b with
    | none => simp
    | some z =>
      have h1 := (N.put_some.1 (N.read_some.1 hr)).2.2.1
      have h2 : z.length ≤ (N.flat t z).length := N.len_flat z t
      simp only [Option.getD_some]
      omega
  go_wp2_with fail
  refine (evPut_any t a5 n5 c5 ((N.read t b).getD []) w5 HY5.out (by omega)).mono ?_
  rintro e w6 ⟨a6, c6, n6, rfl, h1, h2, hb⟩
  have HB6 := Zt HB5 hb
  have HV6 := Lib.hid (HV5.out.below hb)
  have HW6 := Lib.hid (HW5.out.below hb)
  have HR6 := Lib.hid (HR5.out.below hb)
  have HP6 := Lib.hid (HP5.out.below hb)
  have HQ6 := Lib.hid (HQ5.out.below hb)
  have HX6 := Lib.hid (HX5.out.below hb)
  clear hb
  have HZ6 := h2
  have HZN := h1
  clear h1 h2
  obtain ⟨yv, hyv⟩ : ∃ z, (N.read t b).isSome = z := ⟨_, rfl⟩
  obtain ⟨rv, hrv⟩ : ∃ z, (N.put t ((N.read t b).getD [])).isSome = z := ⟨_, rfl⟩
  rw [hyv, hrv]
  have F1 : Hid (yv = false → n5 = 0) := Lib.hid (by
    rintro rfl
    rw [← HYN.out]
    cases hr : N.read t b with
    | none => rfl
    | some y => rw [hr] at hyv; cases hyv)
  have F2 : Hid (yv = true → rv = true ∧ (N.put t ((N.read t b).getD [])).getD [] = b) := Lib.hid (by
    rintro rfl
    rw [← hrv]
    cases hr : N.read t b with
    | none => rw [hr] at hyv; cases hyv
    | some y => rw [Option.getD_some, N.read_some.1 hr]; exact ⟨rfl, rfl⟩)
  clear hyv hrv
  cases hp : N.put t l with
  | none =>
    simp only [Option.isSome_none]
    clear hp
    go_wp2_with fail
    refine wp_region_held (S := fun w' => Below w6.heap.size w6 w') (by kernel_rfl) ?_
    change wpAnyH _ _ _ _ _ _ _ _ (World.drew _)
    have RS0 : (fun w' => Below w6.heap.size w6 w') (World.drew w6) := below_drew w6
    refine wpAnyH_take (i := 0) (v := .bool false) rfl (by kernel_rfl) (by kernel_rfl) (by kernel_rfl) (fun _ _ _ h => h) (.inl ⟨by kernel_rfl, fun w9 hS => by kernel_rfl⟩) RS0 ?_
    refine wpAnyH_take (i := 1) (v := .bool false) rfl (by kernel_rfl) (by kernel_rfl) (by kernel_rfl) (fun _ _ _ h => h) (.inl ⟨by kernel_rfl, fun w9 hS => by kernel_rfl⟩) RS0 ?_
    refine wpAnyH_take (i := 2) (v := undef) rfl (by kernel_rfl) (by kernel_rfl) (by kernel_rfl) (fun _ _ _ h => h) (.inr ⟨by kernel_rfl, rfl⟩) RS0 ?_
    refine wpAnyH_take (i := 3) (v := undef) rfl (by kernel_rfl) (by kernel_rfl) (by kernel_rfl) (fun _ _ _ h => h) (.inr ⟨by kernel_rfl, rfl⟩) RS0 ?_
    refine wpAnyH_take (i := 4) (v := undef) rfl (by kernel_rfl) (by kernel_rfl) (by kernel_rfl) (fun _ _ _ h => h) (.inr ⟨by kernel_rfl, rfl⟩) RS0 ?_
    refine wpAnyH_take (i := 5) (v := undef) rfl (by kernel_rfl) (by kernel_rfl) (by kernel_rfl) (fun _ _ _ h => h) (.inr ⟨by kernel_rfl, rfl⟩) RS0 ?_
    refine wpAnyH_take (i := 6) (v := undef) rfl (by kernel_rfl) (by kernel_rfl) (by kernel_rfl) (fun _ _ _ h => h) (.inr ⟨by kernel_rfl, rfl⟩) RS0 ?_
    refine wpAnyH_take (i := 7) (v := undef) rfl (by kernel_rfl) (by kernel_rfl) (by kernel_rfl) (fun _ _ _ h => h) (.inr ⟨by kernel_rfl, rfl⟩) RS0 ?_
    refine wpAnyH_take (i := 8) (v := undef) rfl (by kernel_rfl) (by kernel_rfl) (by kernel_rfl) (fun _ _ _ h => h) (.inr ⟨by kernel_rfl, rfl⟩) RS0 ?_
    refine wpAnyH_take (i := 9) (v := undef) rfl (by kernel_rfl) (by kernel_rfl) (by kernel_rfl) (fun _ _ _ h => h) (.inr ⟨by kernel_rfl, rfl⟩) RS0 ?_
    refine wpAnyH_take (i := 10) (v := .bool false) rfl (by kernel_rfl) (by kernel_rfl) (by kernel_rfl) (fun _ _ _ h => h) (.inl ⟨by kernel_rfl, fun w9 hS => by kernel_rfl⟩) RS0 ?_
    refine wpAnyH_take (i := 11) (v := .bool false) rfl (by kernel_rfl) (by kernel_rfl) (by kernel_rfl) (fun _ _ _ h => h) (.inl ⟨by kernel_rfl, fun w9 hS => by kernel_rfl⟩) RS0 ?_
    refine wpAnyH_take (i := 12) (v := .bool false) rfl (by kernel_rfl) (by kernel_rfl) (by kernel_rfl) (fun _ _ _ h => h) (.inl ⟨by kernel_rfl, fun w9 hS => by kernel_rfl⟩) RS0 ?_
    refine wpAnyH_take (i := 13) (v := .bool false) rfl (by kernel_rfl) (by kernel_rfl) (by kernel_rfl) (fun _ _ _ h => h) (.inl ⟨by kernel_rfl, fun w9 hS => by kernel_rfl⟩) RS0 ?_
    refine wpAnyH_take (i := 14) (v := undef) rfl (by kernel_rfl) (by kernel_rfl) (by kernel_rfl) (fun _ _ _ h => h) (.inr ⟨by kernel_rfl, rfl⟩) RS0 ?_
    refine wpAnyH_take (i := 15) (v := .bool false) rfl (by kernel_rfl) (by kernel_rfl) (by kernel_rfl) (fun _ _ _ h => h) (.inl ⟨by kernel_rfl, fun w9 hS => by kernel_rfl⟩) RS0 ?_
    refine wpAnyH_take (i := 16) (v := .bool false) rfl (by kernel_rfl) (by kernel_rfl) (by kernel_rfl) (fun _ _ _ h => h) (.inl ⟨by kernel_rfl, fun w9 hS => by kernel_rfl⟩) RS0 ?_
    refine wpAnyH_take (i := 17) (v := undef) rfl (by kernel_rfl) (by kernel_rfl) (by kernel_rfl) (fun _ _ _ h => h) (.inr ⟨by kernel_rfl, rfl⟩) RS0 ?_
    refine wpAnyH_take (i := 18) (v := undef) rfl (by kernel_rfl) (by kernel_rfl) (by kernel_rfl) (fun _ _ _ h => h) (.inr ⟨by kernel_rfl, rfl⟩) RS0 ?_
    refine wpAnyH_take (i := 19) (v := undef) rfl (by kernel_rfl) (by kernel_rfl) (by kernel_rfl) (fun _ _ _ h => h) (.inr ⟨by kernel_rfl, rfl⟩) RS0 ?_
    refine wpAnyH_take (i := 20) (v := undef) rfl (by kernel_rfl) (by kernel_rfl) (by kernel_rfl) (fun _ _ _ h => h) (.inr ⟨by kernel_rfl, rfl⟩) RS0 ?_
    refine wpAnyH_take (i := 21) (v := undef) rfl (by kernel_rfl) (by kernel_rfl) (by kernel_rfl) (fun _ _ _ h => h) (.inr ⟨by kernel_rfl, rfl⟩) RS0 ?_
    refine wpAnyH_take (i := 22) (v := undef) rfl (by kernel_rfl) (by kernel_rfl) (by kernel_rfl) (fun _ _ _ h => h) (.inr ⟨by kernel_rfl, rfl⟩) RS0 ?_
    refine wpAnyH_take (i := 23) (v := undef) rfl (by kernel_rfl) (by kernel_rfl) (by kernel_rfl) (fun _ _ _ h => h) (.inr ⟨by kernel_rfl, rfl⟩) RS0 ?_
    refine wpAnyH_take (i := 24) (v := undef) rfl (by kernel_rfl) (by kernel_rfl) (by kernel_rfl) (fun _ _ _ h => h) (.inr ⟨by kernel_rfl, rfl⟩) RS0 ?_
    refine wpAnyH_take (i := 25) (v := undef) rfl (by kernel_rfl) (by kernel_rfl) (by kernel_rfl) (fun _ _ _ h => h) (.inr ⟨by kernel_rfl, rfl⟩) RS0 ?_
    refine wpAnyH_take (i := 26) (v := .bool false) rfl (by kernel_rfl) (by kernel_rfl) (by kernel_rfl) (fun _ _ _ h => h) (.inl ⟨by kernel_rfl, fun w9 hS => by kernel_rfl⟩) RS0 ?_
    refine wpAnyH_take (i := 27) (v := .bool false) rfl (by kernel_rfl) (by kernel_rfl) (by kernel_rfl) (fun _ _ _ h => h) (.inl ⟨by kernel_rfl, fun w9 hS => by kernel_rfl⟩) RS0 ?_
    refine wpAnyH_done (by kernel_rfl) ?_ _
    simp only [List.getElem_toArray, List.getElem_cons_succ, List.getElem_cons_zero, put_some, List.setIfInBounds_toArray, List.set_cons_succ, List.set_cons_zero]
    obtain ⟨w7, hw7⟩ : ∃ W, World.drew w6 = W := ⟨_, rfl⟩
    rw [hw7]
    have HX7 : Hid (Below w6.heap.size w6 w7) := Lib.hid (by rw [← hw7]; exact below_drew w6)
    have HB7 := Zt HB6 HX7.out
    clear RS0 hw7
    cases yv with
    | false =>
      obtain rfl : n5 = 0 := F1.out rfl
      go_wp2_with fail
      go_ret
      exact ⟨rfl, HB7.out⟩
    | true =>
      obtain ⟨rfl, e⟩ := F2.out rfl
      have s1 := conv_row (HZ6.out.below HX7.out) HZN.out
      have s2 := conv_row (HR6.out.below HX7.out) HBL.out
      rw [e] at s1
      obtain ⟨sb, hsb⟩ : ∃ z, strOf b = z := ⟨_, rfl⟩
      rw [hsb] at s1 s2
      have hse : (sb.toList == sb.toList) = true := by simp
      clear e hsb
      go_wp2_with fail
      go_ret
      exact ⟨by first | rfl | simp, HB7.out⟩
  | some p =>
    have hrd := N.read_some.2 hp
    rw [hp] at HPN HP6
    rw [show N.read t ((N.put t l).getD []) = some l by rw [hp]; exact hrd] at HXN HX6
    rw [show N.read t ((some p).getD []) = some l from hrd]
    simp only [Option.getD_some] at HPN HP6 HXN HX6
    simp only [Option.isSome_some]
    have hn4 : l.length = n4 := HXN.out
    cases hq : N.put t k with
    | none =>
      simp only [Option.isSome_none]
      clear hp hq hrd
      go_wp2_with fail
      refine wp_region_held (S := fun w' => Below w6.heap.size w6 w') (by kernel_rfl) ?_
      change wpAnyH _ _ _ _ _ _ _ _ (World.drew _)
      have RS0 : (fun w' => Below w6.heap.size w6 w') (World.drew w6) := below_drew w6
      refine wpAnyH_take (i := 0) (v := .bool true) rfl (by kernel_rfl) (by kernel_rfl) (by kernel_rfl) (fun _ _ _ h => h) (.inl ⟨by kernel_rfl, fun w9 hS => by kernel_rfl⟩) RS0 ?_
      refine wpAnyH_take (i := 1) (v := .bool true) rfl (by kernel_rfl) (by kernel_rfl) (by kernel_rfl) (fun _ _ _ h => h) (.inl ⟨by kernel_rfl, fun w9 hS => by kernel_rfl⟩) RS0 ?_
      refine wpAnyH_take (i := 2) (v := .bool true) rfl (by kernel_rfl) (by kernel_rfl) (by kernel_rfl) (fun _ _ _ h => h) (.inl ⟨by kernel_rfl, fun w9 hS => by kernel_rfl⟩) RS0 ?_
      refine wpAnyH_take (i := 3) (v := .bool false) rfl (by kernel_rfl) (by kernel_rfl) (by kernel_rfl) (fun _ _ _ h => h) (.inl ⟨by kernel_rfl, fun w9 hS => by kernel_rfl⟩) RS0 ?_
      refine wpAnyH_take (i := 4) (v := .bool false) rfl (by kernel_rfl) (by kernel_rfl) (by kernel_rfl) (fun _ _ _ h => h) (.inl ⟨by kernel_rfl, fun w9 hS => by kernel_rfl⟩) RS0 ?_
      refine wpAnyH_take (i := 5) (v := .slice a4 n4 c4) rfl (by kernel_rfl) (by kernel_rfl) (by kernel_rfl) (fun _ _ _ h => h) (.inl ⟨by kernel_rfl, fun w9 hS => by kernel_rfl⟩) RS0 ?_
      refine wpAnyH_take (i := 6) (v := .slice a n c) rfl (by kernel_rfl) (by kernel_rfl) (by kernel_rfl) (fun _ _ _ h => h) (.inl ⟨by kernel_rfl, fun w9 hS => by kernel_rfl⟩) RS0 ?_
      refine wpAnyH_call (i := 7) (f := 18) (args := #[.slice a4 n4 c4, .slice a n c]) (by kernel_rfl) rfl (by kernel_rfl) (by kernel_rfl) (evSame_any a4 a n4 n c4 c l l _ (HX6.out.below RS0) (HV6.out.below RS0) (by rw [← hn4, HV0.out.1]; omega) true (decide_eq_true rfl)) ?_
      rintro e w7 ⟨rfl, hb⟩
      have RS1 : (fun w' => Below w6.heap.size w6 w') w7 := Below.trans RS0 (hb.mono (Below.size RS0))
      refine ⟨_, rfl, RS1, ?_⟩
      refine wpAnyH_take (i := 8) (v := .bool false) rfl (by kernel_rfl) (by kernel_rfl) (by kernel_rfl) (fun _ _ _ h => h) (.inl ⟨by kernel_rfl, fun w9 hS => by kernel_rfl⟩) RS1 ?_
      refine wpAnyH_take (i := 9) (v := .bool false) rfl (by kernel_rfl) (by kernel_rfl) (by kernel_rfl) (fun _ _ _ h => h) (.inl ⟨by kernel_rfl, fun w9 hS => by kernel_rfl⟩) RS1 ?_
      refine wpAnyH_take (i := 10) (v := .bool false) rfl (by kernel_rfl) (by kernel_rfl) (by kernel_rfl) (fun _ _ _ h => h) (.inl ⟨by kernel_rfl, fun w9 hS => by kernel_rfl⟩) RS1 ?_
      refine wpAnyH_take (i := 11) (v := .bool false) rfl (by kernel_rfl) (by kernel_rfl) (by kernel_rfl) (fun _ _ _ h => h) (.inl ⟨by kernel_rfl, fun w9 hS => by kernel_rfl⟩) RS1 ?_
      refine wpAnyH_take (i := 12) (v := .bool true) rfl (by kernel_rfl) (by kernel_rfl) (by kernel_rfl) (fun _ _ _ h => h) (.inl ⟨by kernel_rfl, fun w9 hS => by kernel_rfl⟩) RS1 ?_
      refine wpAnyH_take (i := 13) (v := .bool true) rfl (by kernel_rfl) (by kernel_rfl) (by kernel_rfl) (fun _ _ _ h => h) (.inl ⟨by kernel_rfl, fun w9 hS => by kernel_rfl⟩) RS1 ?_
      refine wpAnyH_take (i := 14) (v := .bool false) rfl (by kernel_rfl) (by kernel_rfl) (by kernel_rfl) (fun _ _ _ h => h) (.inl ⟨by kernel_rfl, fun w9 hS => by kernel_rfl⟩) RS1 ?_
      refine wpAnyH_take (i := 15) (v := .bool false) rfl (by kernel_rfl) (by kernel_rfl) (by kernel_rfl) (fun _ _ _ h => h) (.inl ⟨by kernel_rfl, fun w9 hS => by kernel_rfl⟩) RS1 ?_
      refine wpAnyH_take (i := 16) (v := .bool false) rfl (by kernel_rfl) (by kernel_rfl) (by kernel_rfl) (fun _ _ _ h => h) (.inl ⟨by kernel_rfl, fun w9 hS => by kernel_rfl⟩) RS1 ?_
      refine wpAnyH_take (i := 17) (v := undef) rfl (by kernel_rfl) (by kernel_rfl) (by kernel_rfl) (fun _ _ _ h => h) (.inr ⟨by kernel_rfl, rfl⟩) RS1 ?_
      refine wpAnyH_take (i := 18) (v := undef) rfl (by kernel_rfl) (by kernel_rfl) (by kernel_rfl) (fun _ _ _ h => h) (.inr ⟨by kernel_rfl, rfl⟩) RS1 ?_
      refine wpAnyH_take (i := 19) (v := undef) rfl (by kernel_rfl) (by kernel_rfl) (by kernel_rfl) (fun _ _ _ h => h) (.inr ⟨by kernel_rfl, rfl⟩) RS1 ?_
      refine wpAnyH_take (i := 20) (v := undef) rfl (by kernel_rfl) (by kernel_rfl) (by kernel_rfl) (fun _ _ _ h => h) (.inr ⟨by kernel_rfl, rfl⟩) RS1 ?_
      refine wpAnyH_take (i := 21) (v := undef) rfl (by kernel_rfl) (by kernel_rfl) (by kernel_rfl) (fun _ _ _ h => h) (.inr ⟨by kernel_rfl, rfl⟩) RS1 ?_
      refine wpAnyH_take (i := 22) (v := undef) rfl (by kernel_rfl) (by kernel_rfl) (by kernel_rfl) (fun _ _ _ h => h) (.inr ⟨by kernel_rfl, rfl⟩) RS1 ?_
      refine wpAnyH_take (i := 23) (v := undef) rfl (by kernel_rfl) (by kernel_rfl) (by kernel_rfl) (fun _ _ _ h => h) (.inr ⟨by kernel_rfl, rfl⟩) RS1 ?_
      refine wpAnyH_take (i := 24) (v := undef) rfl (by kernel_rfl) (by kernel_rfl) (by kernel_rfl) (fun _ _ _ h => h) (.inr ⟨by kernel_rfl, rfl⟩) RS1 ?_
      refine wpAnyH_take (i := 25) (v := undef) rfl (by kernel_rfl) (by kernel_rfl) (by kernel_rfl) (fun _ _ _ h => h) (.inr ⟨by kernel_rfl, rfl⟩) RS1 ?_
      refine wpAnyH_take (i := 26) (v := .bool false) rfl (by kernel_rfl) (by kernel_rfl) (by kernel_rfl) (fun _ _ _ h => h) (.inl ⟨by kernel_rfl, fun w9 hS => by kernel_rfl⟩) RS1 ?_
      refine wpAnyH_take (i := 27) (v := .bool false) rfl (by kernel_rfl) (by kernel_rfl) (by kernel_rfl) (fun _ _ _ h => h) (.inl ⟨by kernel_rfl, fun w9 hS => by kernel_rfl⟩) RS1 ?_
      refine wpAnyH_done (by kernel_rfl) ?_ _
      simp only [List.getElem_toArray, List.getElem_cons_succ, List.getElem_cons_zero, put_some, List.setIfInBounds_toArray, List.set_cons_succ, List.set_cons_zero]
      have HX7 : Hid (Below w6.heap.size w6 w7) := Lib.hid RS1
      have HB7 := Zt HB6 HX7.out
      clear RS0 RS1
      cases yv with
      | false =>
        obtain rfl : n5 = 0 := F1.out rfl
        go_wp2_with fail
        go_ret
        exact ⟨rfl, HB7.out⟩
      | true =>
        obtain ⟨rfl, e⟩ := F2.out rfl
        have s1 := conv_row (HZ6.out.below HX7.out) HZN.out
        have s2 := conv_row (HR6.out.below HX7.out) HBL.out
        rw [e] at s1
        obtain ⟨sb, hsb⟩ : ∃ z, strOf b = z := ⟨_, rfl⟩
        rw [hsb] at s1 s2
        have hse : (sb.toList == sb.toList) = true := by simp
        clear e hsb
        go_wp2_with fail
        go_ret
        exact ⟨by first | rfl | simp, HB7.out⟩
    | some q =>
      simp only [Option.isSome_some]
      rw [hq] at HQN HQ6
      simp only [Option.getD_some] at HQN HQ6
      obtain ⟨zv, hzv⟩ : ∃ z, decide (l = k) = z := ⟨_, rfl⟩
      have hpq : decide (p = q) = zv := by
        rw [← hzv, decide_eq_decide]
        constructor
        · rintro rfl
          exact N.put_inj hp hq
        · rintro rfl
          rw [hp] at hq
          exact Option.some.inj hq
      have hbe := str_beq HP6.out.2.1 HQ6.out.2.1
      rw [hpq] at hbe
      have HZV := Lib.hid hzv
      have hzz : (zv != zv) = false := by simp
      clear hp hq hrd hzv hpq
      go_wp2_with fail
      refine wp_region_held (S := fun w' => Below w6.heap.size w6 w') (by kernel_rfl) ?_
      change wpAnyH _ _ _ _ _ _ _ _ (World.drew _)
      have RS0 : (fun w' => Below w6.heap.size w6 w') (World.drew w6) := below_drew w6
      refine wpAnyH_take (i := 0) (v := .bool true) rfl (by kernel_rfl) (by kernel_rfl) (by kernel_rfl) (fun _ _ _ h => h) (.inl ⟨by kernel_rfl, fun w9 hS => by kernel_rfl⟩) RS0 ?_
      refine wpAnyH_take (i := 1) (v := .bool true) rfl (by kernel_rfl) (by kernel_rfl) (by kernel_rfl) (fun _ _ _ h => h) (.inl ⟨by kernel_rfl, fun w9 hS => by kernel_rfl⟩) RS0 ?_
      refine wpAnyH_take (i := 2) (v := .bool true) rfl (by kernel_rfl) (by kernel_rfl) (by kernel_rfl) (fun _ _ _ h => h) (.inl ⟨by kernel_rfl, fun w9 hS => by kernel_rfl⟩) RS0 ?_
      refine wpAnyH_take (i := 3) (v := .bool false) rfl (by kernel_rfl) (by kernel_rfl) (by kernel_rfl) (fun _ _ _ h => h) (.inl ⟨by kernel_rfl, fun w9 hS => by kernel_rfl⟩) RS0 ?_
      refine wpAnyH_take (i := 4) (v := .bool false) rfl (by kernel_rfl) (by kernel_rfl) (by kernel_rfl) (fun _ _ _ h => h) (.inl ⟨by kernel_rfl, fun w9 hS => by kernel_rfl⟩) RS0 ?_
      refine wpAnyH_take (i := 5) (v := .slice a4 n4 c4) rfl (by kernel_rfl) (by kernel_rfl) (by kernel_rfl) (fun _ _ _ h => h) (.inl ⟨by kernel_rfl, fun w9 hS => by kernel_rfl⟩) RS0 ?_
      refine wpAnyH_take (i := 6) (v := .slice a n c) rfl (by kernel_rfl) (by kernel_rfl) (by kernel_rfl) (fun _ _ _ h => h) (.inl ⟨by kernel_rfl, fun w9 hS => by kernel_rfl⟩) RS0 ?_
      refine wpAnyH_call (i := 7) (f := 18) (args := #[.slice a4 n4 c4, .slice a n c]) (by kernel_rfl) rfl (by kernel_rfl) (by kernel_rfl) (evSame_any a4 a n4 n c4 c l l _ (HX6.out.below RS0) (HV6.out.below RS0) (by rw [← hn4, HV0.out.1]; omega) true (decide_eq_true rfl)) ?_
      rintro e w7 ⟨rfl, hb⟩
      have RS1 : (fun w' => Below w6.heap.size w6 w') w7 := Below.trans RS0 (hb.mono (Below.size RS0))
      refine ⟨_, rfl, RS1, ?_⟩
      refine wpAnyH_take (i := 8) (v := .bool false) rfl (by kernel_rfl) (by kernel_rfl) (by kernel_rfl) (fun _ _ _ h => h) (.inl ⟨by kernel_rfl, fun w9 hS => by kernel_rfl⟩) RS1 ?_
      refine wpAnyH_take (i := 9) (v := .bool false) rfl (by kernel_rfl) (by kernel_rfl) (by kernel_rfl) (fun _ _ _ h => h) (.inl ⟨by kernel_rfl, fun w9 hS => by kernel_rfl⟩) RS1 ?_
      refine wpAnyH_take (i := 10) (v := .bool false) rfl (by kernel_rfl) (by kernel_rfl) (by kernel_rfl) (fun _ _ _ h => h) (.inl ⟨by kernel_rfl, fun w9 hS => by kernel_rfl⟩) RS1 ?_
      refine wpAnyH_take (i := 11) (v := .bool false) rfl (by kernel_rfl) (by kernel_rfl) (by kernel_rfl) (fun _ _ _ h => h) (.inl ⟨by kernel_rfl, fun w9 hS => by kernel_rfl⟩) RS1 ?_
      refine wpAnyH_take (i := 12) (v := .bool true) rfl (by kernel_rfl) (by kernel_rfl) (by kernel_rfl) (fun _ _ _ h => h) (.inl ⟨by kernel_rfl, fun w9 hS => by kernel_rfl⟩) RS1 ?_
      refine wpAnyH_take (i := 13) (v := .bool true) rfl (by kernel_rfl) (by kernel_rfl) (by kernel_rfl) (fun _ _ _ h => h) (.inl ⟨by kernel_rfl, fun w9 hS => by kernel_rfl⟩) RS1 ?_
      refine wpAnyH_take (i := 14) (v := .bool true) rfl (by kernel_rfl) (by kernel_rfl) (by kernel_rfl) (fun _ _ _ h => h) (.inl ⟨by kernel_rfl, fun w9 hS => by kernel_rfl⟩) RS1 ?_
      refine wpAnyH_take (i := 15) (v := .bool true) rfl (by kernel_rfl) (by kernel_rfl) (by kernel_rfl) (fun _ _ _ h => h) (.inl ⟨by kernel_rfl, fun w9 hS => by kernel_rfl⟩) RS1 ?_
      refine wpAnyH_take (i := 16) (v := .bool true) rfl (by kernel_rfl) (by kernel_rfl) (by kernel_rfl) (fun _ _ _ h => h) (.inl ⟨by kernel_rfl, fun w9 hS => by kernel_rfl⟩) RS1 ?_
      refine wpAnyH_take (i := 17) (v := .slice a2 n2 c2) rfl (by kernel_rfl) (by kernel_rfl) (by kernel_rfl) (fun _ _ _ h => h) (.inl ⟨by kernel_rfl, fun w9 hS => by kernel_rfl⟩) RS1 ?_
      refine wpAnyH_take (i := 18) (v := .string (strOf p)) rfl (by kernel_rfl) (by kernel_rfl) (by kernel_rfl) (fun _ _ _ h => h) (.inl ⟨by kernel_rfl, fun w9 hS => by
            have y := conv_row (w := w9) (HP6.out.below hS) HPN.out
            go_simp⟩) RS1 ?_
      refine wpAnyH_take (i := 19) (v := .slice a3 n3 c3) rfl (by kernel_rfl) (by kernel_rfl) (by kernel_rfl) (fun _ _ _ h => h) (.inl ⟨by kernel_rfl, fun w9 hS => by kernel_rfl⟩) RS1 ?_
      refine wpAnyH_take (i := 20) (v := .string (strOf q)) rfl (by kernel_rfl) (by kernel_rfl) (by kernel_rfl) (fun _ _ _ h => h) (.inl ⟨by kernel_rfl, fun w9 hS => by
            have y := conv_row (w := w9) (HQ6.out.below hS) HQN.out
            go_simp⟩) RS1 ?_
      refine wpAnyH_take (i := 21) (v := .bool zv) rfl (by kernel_rfl) (by kernel_rfl) (by kernel_rfl) (fun _ _ _ h => h) (.inl ⟨by kernel_rfl, fun w9 hS => by go_simp⟩) RS1 ?_
      refine wpAnyH_take (i := 22) (v := .slice a n c) rfl (by kernel_rfl) (by kernel_rfl) (by kernel_rfl) (fun _ _ _ h => h) (.inl ⟨by kernel_rfl, fun w9 hS => by kernel_rfl⟩) RS1 ?_
      refine wpAnyH_take (i := 23) (v := .slice a' m c') rfl (by kernel_rfl) (by kernel_rfl) (by kernel_rfl) (fun _ _ _ h => h) (.inl ⟨by kernel_rfl, fun w9 hS => by kernel_rfl⟩) RS1 ?_
      refine wpAnyH_call (i := 24) (f := 18) (args := #[.slice a n c, .slice a' m c']) (by kernel_rfl) rfl (by kernel_rfl) (by kernel_rfl) (evSame_any a a' n m c c' l k _ (HV6.out.below RS1) (HW6.out.below RS1) (by omega) zv HZV.out) ?_
      rintro e w8 ⟨rfl, hb⟩
      have RS2 : (fun w' => Below w6.heap.size w6 w') w8 := Below.trans RS1 (hb.mono (Below.size RS1))
      refine ⟨_, rfl, RS2, ?_⟩
      refine wpAnyH_take (i := 25) (v := .bool false) rfl (by kernel_rfl) (by kernel_rfl) (by kernel_rfl) (fun _ _ _ h => h) (.inl ⟨by kernel_rfl, fun w9 hS => by go_simp⟩) RS2 ?_
      refine wpAnyH_take (i := 26) (v := .bool false) rfl (by kernel_rfl) (by kernel_rfl) (by kernel_rfl) (fun _ _ _ h => h) (.inl ⟨by kernel_rfl, fun w9 hS => by kernel_rfl⟩) RS2 ?_
      refine wpAnyH_take (i := 27) (v := .bool false) rfl (by kernel_rfl) (by kernel_rfl) (by kernel_rfl) (fun _ _ _ h => h) (.inl ⟨by kernel_rfl, fun w9 hS => by kernel_rfl⟩) RS2 ?_
      refine wpAnyH_done (by kernel_rfl) ?_ _
      simp only [List.getElem_toArray, List.getElem_cons_succ, List.getElem_cons_zero, put_some, List.setIfInBounds_toArray, List.set_cons_succ, List.set_cons_zero]
      have HX8 : Hid (Below w6.heap.size w6 w8) := Lib.hid RS2
      have HB8 := Zt HB6 HX8.out
      clear RS0 RS1 RS2
      cases yv with
      | false =>
        obtain rfl : n5 = 0 := F1.out rfl
        go_wp2_with fail
        go_ret
        exact ⟨rfl, HB8.out⟩
      | true =>
        obtain ⟨rfl, e⟩ := F2.out rfl
        have s1 := conv_row (HZ6.out.below HX8.out) HZN.out
        have s2 := conv_row (HR6.out.below HX8.out) HBL.out
        rw [e] at s1
        obtain ⟨sb, hsb⟩ : ∃ z, strOf b = z := ⟨_, rfl⟩
        rw [hsb] at s1 s2
        have hse : (sb.toList == sb.toList) = true := by simp
        clear e hsb
        go_wp2_with fail
        go_ret
        exact ⟨by first | rfl | simp, HB8.out⟩
end Go.Proofs.Ytebiogadkamgcaa
