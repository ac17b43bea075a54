/-
  MapFree, at every map and block.
-/
import Derived.Test.YtagkpkgflnccpaaULaws
import Derived.Test.YtagkpkgflnccpaaURef
namespace Go.Proofs.Ytagkpkgflnccpaa
open Go.RowKit

theorem U.take_mem {L : List Int} {k : Nat} {v i : Int} {t g : Bool} (hk : k < L.length) (ht : t = decide (i ∈ L.take k)) (hv : L.getD k 0 = v) (hg : (v == i) = g) : (t || g) = decide (i ∈ L.take (k + 1)) := by
  rw [take_snoc hk, hv, ht, ← hg]
  rw [Bool.eq_iff_iff]
  simp only [Bool.or_eq_true, decide_eq_true_eq, beq_iff_eq, List.mem_append, List.mem_singleton]
  constructor
  · rintro (h | h)
    · exact .inl h
    · exact .inr h.symm
  · rintro (h | h)
    · exact .inl h
    · exact .inr h.symm
theorem U.mem_bool {n u i : Int} {q : Bool} {L : List Int} (h : U.may n u = true) (hm : ∀ i, i ∈ L ↔ U.off n u i = true) (hq : U.has n u i = q) :
    (0 ≤ i ∧ i < n → decide (i ∈ L) = !q) ∧ (¬ (0 ≤ i ∧ i < n) → decide (i ∈ L) = false) := by
  have e : decide (i ∈ L) = U.off n u i := by rw [Bool.eq_iff_iff, decide_eq_true_eq]; exact hm i
  rw [e]
  constructor
  · intro hi
    unfold U.has at hq
    unfold U.off
    rw [U.at_yes h hi.1 hi.2] at hq ⊢
    cases hb : U.bit u i.toNat <;> rw [hb] at hq <;> rw [← hq] <;> rfl
  · intro hi
    cases ho : U.off n u i with
    | false => rfl
    | true => exact absurd (U.off_in ho).2 hi

set_option maxRecDepth 100000 in
set_option maxHeartbeats 4000000 in
theorem MapFree_in (n u i : Int) (w : World)  :
    Calls Try.prog 5 #[.agg #[.int .i64 n, .int .i64 u], .int .i64 i] w fun e w' => e = .returned (.bool true) ∧ Below w.heap.size w w' := by
  have HB0 := Lib.hid (ubox_below w n u)
  have HKu0 := Lib.hid (ubox_blok w n u)
  cases hm : U.may n u
  · have e1 : U.free n u = [] := by unfold U.free; rw [U.all_no hm]; rfl
    have e2 : U.first n u = -1 := by unfold U.first; rw [e1]; rfl
    have hl := fun W => free_any n u W
    rw [e1] at hl
    have hf := fun W => first_any n u (-1) W e2
    have hmm := fun W => may_any n u false W hm
    clear e1 e2 hm
    go_enter Try.func5, Try.ntmps5
    go_wp2_with fail
    refine (uawake_any (ubox w n u)).mono ?_
    rintro e w1 ⟨rfl, hb⟩
    have HKu1 := Lib.hid (HKu0.out.below hb HKu0.out.lt)
    have uf0 := u0 HKu1.out
    have uf1 := u1 HKu1.out
    have HB1 := Lib.hid (HB0.out.trans (hb.mono HB0.out.size))
    have HS1 := Lib.hid hb
    clear hb
    go_wp2_with fail
    refine (hl w1).mono ?_
    clear uf0 uf1
    rintro e w2 ⟨a, cap, j, rfl, hj, hr, hb⟩
    have HKu2 := Lib.hid (HKu1.out.below hb HKu1.out.lt)
    have uf0 := u0 HKu2.out
    have uf1 := u1 HKu2.out
    have HB2 := Lib.hid (HB1.out.trans (hb.mono HB1.out.size))
    have HS2 := Lib.hid hb
    clear hb
    obtain rfl : j = 0 := hj.out.symm
    go_wp2_with fail
    refine (hf w2).mono ?_
    clear uf0 uf1
    rintro e w3 ⟨rfl, hb⟩
    have HKu3 := Lib.hid (HKu2.out.below hb HKu2.out.lt)
    have uf0 := u0 HKu3.out
    have uf1 := u1 HKu3.out
    have HB3 := Lib.hid (HB2.out.trans (hb.mono HB2.out.size))
    have HS3 := Lib.hid hb
    clear hb
    go_wp2_with fail
    refine (hmm w3).mono ?_
    clear uf0 uf1
    rintro e w4 ⟨rfl, hb⟩
    have HKu4 := Lib.hid (HKu3.out.below hb HKu3.out.lt)
    have uf0 := u0 HKu4.out
    have uf1 := u1 HKu4.out
    have HB4 := Lib.hid (HB3.out.trans (hb.mono HB3.out.size))
    have HS4 := Lib.hid hb
    clear hb
    go_wp2
    go_ret
    exact ⟨rfl, HB4.out⟩
  · obtain ⟨e1, e2, e3, e4⟩ := U.free_facts hm
    have hmem := fun i => U.free_mem (i := i) hm
    have hle := U.free_le n u
    have hcl := U.count_le n u
    have hn8 := U.may_iff.1 hm
    have hn0 := hn8.1
    have hn8 := hn8.2.1
    have hmm := fun W => may_any n u true W hm
    have hl := fun W => free_any n u W
    obtain ⟨L, hL⟩ : ∃ L, U.free n u = L := ⟨_, rfl⟩
    rw [hL] at e1 e2 e3 e4 hmem hle hl
    obtain ⟨p, hp⟩ : ∃ p, U.count n u = p := ⟨_, rfl⟩
    rw [hp] at e1 hcl
    obtain ⟨p0, p8⟩ := hcl
    obtain ⟨fi, hfi⟩ : ∃ fi, U.first n u = fi := ⟨_, rfl⟩
    rw [hfi] at e2 e3
    have hF0 : fi = L.headD (-1) := by rw [← hfi, ← hL]; rfl
    have hf := fun W => first_any n u fi W hfi
    have hcu := fun W => count_any n u p W hp
    obtain ⟨x, hx⟩ : ∃ x, U.take n u fi = x := ⟨_, rfl⟩
    have ht := fun W => take_any n u fi x _ W e3 hx
    obtain ⟨q, hq⟩ : ∃ q, U.has n u i = q := ⟨_, rfl⟩
    have hh := fun W => has_any n u i q W hq
    have HI : Hid ((0 ≤ i ∧ i < n → decide (i ∈ L) = !q) ∧ (¬ (0 ≤ i ∧ i < n) → decide (i ∈ L) = false)) := Lib.hid (U.mem_bool hm hmem hq)
    have HE2 := Lib.hid e2
    have HE4 := Lib.hid e4
    have HF0 := Lib.hid hF0
    clear hm hL hp hfi hx hq e2 e3 e4 hF0 hmem
    go_enter Try.func5, Try.ntmps5
    go_wp2_with fail
    refine (uawake_any (ubox w n u)).mono ?_
    rintro e w1 ⟨rfl, hb⟩
    have HKu1 := Lib.hid (HKu0.out.below hb HKu0.out.lt)
    have uf0 := u0 HKu1.out
    have uf1 := u1 HKu1.out
    have HB1 := Lib.hid (HB0.out.trans (hb.mono HB0.out.size))
    have HS1 := Lib.hid hb
    clear hb
    go_wp2_with fail
    refine (hl w1).mono ?_
    clear uf0 uf1
    rintro e w2 ⟨a, cap, j, rfl, hj, hr, hb⟩
    have HKu2 := Lib.hid (HKu1.out.below hb HKu1.out.lt)
    have uf0 := u0 HKu2.out
    have uf1 := u1 HKu2.out
    have HB2 := Lib.hid (HB1.out.trans (hb.mono HB1.out.size))
    have HS2 := Lib.hid hb
    clear hb
    have HR := Lib.hid hr.out
    clear hr
    have HJ := Lib.hid hj.out
    rw [hj.out] at e1 hle ht
    clear hj
    go_wp2_with fail
    refine (hf w2).mono ?_
    clear uf0 uf1
    rintro e w3 ⟨rfl, hb⟩
    have HKu3 := Lib.hid (HKu2.out.below hb HKu2.out.lt)
    have uf0 := u0 HKu3.out
    have uf1 := u1 HKu3.out
    have HB3 := Lib.hid (HB2.out.trans (hb.mono HB2.out.size))
    have HS3 := Lib.hid hb
    clear hb
    go_wp2_with fail
    refine (hmm w3).mono ?_
    clear uf0 uf1
    rintro e w4 ⟨rfl, hb⟩
    have HKu4 := Lib.hid (HKu3.out.below hb HKu3.out.lt)
    have uf0 := u0 HKu4.out
    have uf1 := u1 HKu4.out
    have HB4 := Lib.hid (HB3.out.trans (hb.mono HB3.out.size))
    have HS4 := Lib.hid hb
    clear hb
    have HR4 := Lib.hid (HR.out.below (HS3.out.trans (HS4.out.mono HS3.out.size)))
    go_wp2
    clear uf0 uf1
    go_loopw [8, 9] (fun tv kv wr => ∃ (k : Nat) (t : Bool), tv = .bool t ∧ kv = .int .i64 k ∧ k ≤ j ∧ Hid (t = decide (i ∈ L.take k)) ∧ Hid (Below w4.heap.size w4 wr)) (fun _ kv _ => j - (intOf kv).toNat)
    case atStart => exact ⟨0, false, rfl, rfl, by omega, Lib.hid (by simp), Lib.hid (Below.refl _ _)⟩
    case round =>
      obtain ⟨k, t, rfl, rfl, hk, HT, HBr⟩ := hrel
      have HUr := Lib.hid (HKu4.out.below HBr.out HKu4.out.lt)
      by_cases hlt : k < j
      · have hkL : k < L.length := by rw [HJ.out]; exact hlt
        obtain ⟨b, off, rfl, hbl, hcell⟩ := row_at (HR4.out.below HBr.out) hkL
        obtain ⟨v, hv⟩ : ∃ v, L.getD k 0 = v := ⟨_, rfl⟩
        rw [hv] at hcell
        have HV := Lib.hid hv
        have hd : decide (k < j) = true := decide_eq_true hlt
        have hcs := fun d os => cell_regrown hcell d os
        obtain ⟨g, hg⟩ : ∃ g, (v == i) = g := ⟨_, rfl⟩
        have HG := Lib.hid hg
        have HTN : Hid ((t || g) = decide (i ∈ L.take (k + 1))) := Lib.hid (U.take_mem hkL HT.out HV.out HG.out)
        by_cases hk0 : k = 0
        · have hz : decide (0 < k) = false := decide_eq_false (by omega)
          clear hv hk0
          cases t <;> cases g
          all_goals (
            go_wp2_with fail
            go_quiet (fail)
            go_wp2
            go_roundw
            case rel => exact ⟨k + 1, _, rfl, by go_num, by omega, Lib.hid HTN.out, Lib.hid (HBr.out.trans ((below_drewN _ _ _).mono HBr.out.size))⟩
            case measure => simp [intOf]; omega)
        · have hz : decide (0 < k) = true := decide_eq_true (by omega)
          obtain ⟨k', hk'⟩ : ∃ k', k = k' + 1 := ⟨k - 1, by omega⟩
          obtain ⟨v', hv'⟩ : ∃ v', L.getD k' 0 = v' := ⟨_, rfl⟩
          have hvv := HE4.out k (by omega) (by rw [HJ.out]; exact hlt)
          obtain ⟨b', off', he', -, hcell'⟩ := row_at (HR4.out.below HBr.out) (i := k') (by omega)
          rw [show k - 1 = k' by omega, HV.out, hv'] at hvv
          obtain ⟨rfl, rfl⟩ : b = b' ∧ off = off' := by simpa using he'
          rw [hv'] at hcell'
          have hle2 : decide (v ≤ v') = false := decide_eq_false (by omega)
          have hw1 : IntKind.i64.wrap ((k : Int) - 1) = (k' : Int) := by rw [IntWalk.i64_in _ (by omega)]; omega
          have hw2 : ((k : Int) - 1) = (k' : Int) := by omega
          have hlt' : k' < j := by omega
          have hd' : decide (k' < j) = true := decide_eq_true hlt'
          have HK' := Lib.hid hk'
          clear hv hv' hk0 hvv he' hk'
          cases t <;> cases g
          all_goals (
            go_wp2_with fail
            go_quiet (fail)
            go_wp2
            go_roundw
            case rel => exact ⟨k + 1, _, rfl, by go_num, by omega, Lib.hid HTN.out, Lib.hid (HBr.out.trans ((below_drewN _ _ _).mono HBr.out.size))⟩
            case measure => simp [intOf]; omega)
      · have hd : decide (k < j) = false := decide_eq_false hlt
        have HE : Hid (k = j) := Lib.hid (by omega)
        have HT2 : Hid (t = decide (i ∈ L)) := Lib.hid (by have h := HT.out; rwa [HE.out, List.take_of_length_le (Nat.le_of_eq HJ.out)] at h)
        clear hlt hk
        have HKu5 := Lib.hid HUr.out
        have HB5 := Lib.hid (HB4.out.trans (HBr.out.mono HB4.out.size))
        have HR5 := Lib.hid (HR4.out.below HBr.out)
        have hw13 : IntKind.i64.wrap ((j : Int) + p) = n := by rw [IntWalk.i64_in _ (by omega)]; omega
        have hw14 : (j : Int) + p = n := e1
        have hjL := HJ.out
        have hFE := HE2.out
        rw [hjL] at hFE
        have HE2 := Lib.hid hFE
        clear hFE hjL e1
        by_cases h0 : 0 ≤ i
        · have g0 : decide (0 ≤ i) = true := decide_eq_true h0
          by_cases h1 : i < n
          · have g1 : decide (i < n) = true := decide_eq_true h1
            have HTQ : Hid (t = !q) := Lib.hid (HT2.out.trans (HI.out.1 ⟨h0, h1⟩))
            clear h0 h1
            obtain rfl : t = !q := HTQ.out
            cases q
            · skip
              by_cases hj0 : j = 0
              · obtain rfl : j = 0 := hj0
                have hg2 : (fi == -1) = true := HE2.out
                obtain rfl : n = p := by omega
                have hwn : IntKind.i64.wrap n = n := IntWalk.i64_in _ (by omega)
                clear hw13 hw14
                have hc0 : decide (0 < 0) = false := rfl
                rw [hc0] at ht
                have uc0 := fun d os => cell_regrown (u0 HKu5.out) d os
                have uf0 := u0 HKu5.out
                have uc1 := fun d os => cell_regrown (u1 HKu5.out) d os
                have uf1 := u1 HKu5.out
                go_wp2_with fail
                refine wp_region_quiet_below (by kernel_rfl) (by kernel_rfl) ?_
                repeat (go_big_quiet_step (first | with_reducible exact Calls.regrown_of (hcu _) | with_reducible exact Calls.regrown_of (hh _)))
                refine wpQuiet_nil ?_
                intro _ hw'
                obtain ⟨⟨dq, osq⟩, hw''⟩ := hw'
                subst hw''
                clear uc0 uf0 uc1 uf1
                obtain ⟨w6, hw6⟩ : ∃ w6, Go.Sort.grow (redrawn wr dq) osq = w6 := ⟨_, rfl⟩
                have hb : Below wr.heap.size wr w6 := by rw [← hw6]; exact below_regrown _ _ _
                rw [hw6]
                clear hw6
                have HKu6 := Lib.hid (HKu5.out.below hb HKu5.out.lt)
                have uf0 := u0 HKu6.out
                have uf1 := u1 HKu6.out
                have HB6 := Lib.hid (HB5.out.trans (hb.mono HB5.out.size))
                have HS6 := Lib.hid hb
                clear hb
                have HR6 := Lib.hid (HR5.out.below HS6.out)
                go_wp2_with fail
                refine (ht w6).mono ?_
                clear uf0 uf1
                rintro e w7 ⟨rfl, hb⟩
                have HKu7 := Lib.hid (HKu6.out.below hb HKu6.out.lt)
                have uf0 := u0 HKu7.out
                have uf1 := u1 HKu7.out
                have HB7 := Lib.hid (HB6.out.trans (hb.mono HB6.out.size))
                have HS7 := Lib.hid hb
                clear hb
                have Nua := Lib.hid (Nat.ne_of_lt HKu7.out.lt)
                have hb := ubox_below w7 n x
                have HKu8 := Lib.hid (HKu7.out.below hb HKu7.out.lt)
                have uaa0 := fun o => u0 (HKu7.out.alloc o)
                have uaa1 := fun o => u1 (HKu7.out.alloc o)
                have HKa8 := Lib.hid (ubox_blok w7 n x)
                have HB8 := Lib.hid (HB7.out.trans (hb.mono HB7.out.size))
                clear hb
                go_wp2
                go_ret
                exact ⟨rfl, HB8.out⟩
              · have hg1 : ((j : Int) == 0) = false := by simpa using hj0
                have hg0 : (j == 0) = false := by simpa using hj0
                have hg2 : (fi == -1) = false := HE2.out.trans hg0
                have hjp : 0 < j := by omega
                have hg3 : decide (0 < j) = true := decide_eq_true hjp
                have HJ0 := Lib.hid hj0
                rw [hg3] at ht
                clear hj0
                have uc0 := fun d os => cell_regrown (u0 HKu5.out) d os
                have uf0 := u0 HKu5.out
                have uc1 := fun d os => cell_regrown (u1 HKu5.out) d os
                have uf1 := u1 HKu5.out
                go_wp2_with fail
                refine wp_region_quiet_below (by kernel_rfl) (by kernel_rfl) ?_
                repeat (go_big_quiet_step (first | with_reducible exact Calls.regrown_of (hcu _) | with_reducible exact Calls.regrown_of (hh _)))
                refine wpQuiet_nil ?_
                intro _ hw'
                obtain ⟨⟨dq, osq⟩, hw''⟩ := hw'
                subst hw''
                clear uc0 uf0 uc1 uf1
                obtain ⟨w6, hw6⟩ : ∃ w6, Go.Sort.grow (redrawn wr dq) osq = w6 := ⟨_, rfl⟩
                have hb : Below wr.heap.size wr w6 := by rw [← hw6]; exact below_regrown _ _ _
                rw [hw6]
                clear hw6
                have HKu6 := Lib.hid (HKu5.out.below hb HKu5.out.lt)
                have uf0 := u0 HKu6.out
                have uf1 := u1 HKu6.out
                have HB6 := Lib.hid (HB5.out.trans (hb.mono HB5.out.size))
                have HS6 := Lib.hid hb
                clear hb
                have HR6 := Lib.hid (HR5.out.below HS6.out)
                go_wp2_with fail
                refine (ht w6).mono ?_
                clear uf0 uf1
                rintro e w7 ⟨rfl, hb⟩
                have HKu7 := Lib.hid (HKu6.out.below hb HKu6.out.lt)
                have uf0 := u0 HKu7.out
                have uf1 := u1 HKu7.out
                have HB7 := Lib.hid (HB6.out.trans (hb.mono HB6.out.size))
                have HS7 := Lib.hid hb
                clear hb
                have HR7 := Lib.hid (HR6.out.below HS7.out)
                obtain ⟨b, off, rfl, hbl, hcell⟩ := row_at HR7.out (i := 0) (by have := HJ.out; have := HJ0.out; omega)
                have hv0 : L.getD 0 0 = fi := by
                  rw [HF0.out]
                  have := HJ.out
                  have := HJ0.out
                  cases L with
                  | nil => simp at *; omega
                  | cons y l => rfl
                rw [hv0, Nat.add_zero] at hcell
                have hal := fun o => (((Below.refl w7.heap.size w7).alloc (Nat.le_refl _) o).cell (p := ⟨b, off, none⟩) hbl).trans hcell
                clear hv0
                have Nua := Lib.hid (Nat.ne_of_lt HKu7.out.lt)
                have hb := ubox_below w7 n x
                have HKu8 := Lib.hid (HKu7.out.below hb HKu7.out.lt)
                have uaa0 := fun o => u0 (HKu7.out.alloc o)
                have uaa1 := fun o => u1 (HKu7.out.alloc o)
                have HKa8 := Lib.hid (ubox_blok w7 n x)
                have HB8 := Lib.hid (HB7.out.trans (hb.mono HB7.out.size))
                clear hb
                go_wp2
                go_ret
                exact ⟨rfl, HB8.out⟩
            · skip
              by_cases hj0 : j = 0
              · obtain rfl : j = 0 := hj0
                have hg2 : (fi == -1) = true := HE2.out
                obtain rfl : n = p := by omega
                have hwn : IntKind.i64.wrap n = n := IntWalk.i64_in _ (by omega)
                clear hw13 hw14
                have hc0 : decide (0 < 0) = false := rfl
                rw [hc0] at ht
                have uc0 := fun d os => cell_regrown (u0 HKu5.out) d os
                have uf0 := u0 HKu5.out
                have uc1 := fun d os => cell_regrown (u1 HKu5.out) d os
                have uf1 := u1 HKu5.out
                go_wp2_with fail
                refine wp_region_quiet_below (by kernel_rfl) (by kernel_rfl) ?_
                repeat (go_big_quiet_step (first | with_reducible exact Calls.regrown_of (hcu _) | with_reducible exact Calls.regrown_of (hh _)))
                refine wpQuiet_nil ?_
                intro _ hw'
                obtain ⟨⟨dq, osq⟩, hw''⟩ := hw'
                subst hw''
                clear uc0 uf0 uc1 uf1
                obtain ⟨w6, hw6⟩ : ∃ w6, Go.Sort.grow (redrawn wr dq) osq = w6 := ⟨_, rfl⟩
                have hb : Below wr.heap.size wr w6 := by rw [← hw6]; exact below_regrown _ _ _
                rw [hw6]
                clear hw6
                have HKu6 := Lib.hid (HKu5.out.below hb HKu5.out.lt)
                have uf0 := u0 HKu6.out
                have uf1 := u1 HKu6.out
                have HB6 := Lib.hid (HB5.out.trans (hb.mono HB5.out.size))
                have HS6 := Lib.hid hb
                clear hb
                have HR6 := Lib.hid (HR5.out.below HS6.out)
                go_wp2_with fail
                refine (ht w6).mono ?_
                clear uf0 uf1
                rintro e w7 ⟨rfl, hb⟩
                have HKu7 := Lib.hid (HKu6.out.below hb HKu6.out.lt)
                have uf0 := u0 HKu7.out
                have uf1 := u1 HKu7.out
                have HB7 := Lib.hid (HB6.out.trans (hb.mono HB6.out.size))
                have HS7 := Lib.hid hb
                clear hb
                have Nua := Lib.hid (Nat.ne_of_lt HKu7.out.lt)
                have hb := ubox_below w7 n x
                have HKu8 := Lib.hid (HKu7.out.below hb HKu7.out.lt)
                have uaa0 := fun o => u0 (HKu7.out.alloc o)
                have uaa1 := fun o => u1 (HKu7.out.alloc o)
                have HKa8 := Lib.hid (ubox_blok w7 n x)
                have HB8 := Lib.hid (HB7.out.trans (hb.mono HB7.out.size))
                clear hb
                go_wp2
                go_ret
                exact ⟨rfl, HB8.out⟩
              · have hg1 : ((j : Int) == 0) = false := by simpa using hj0
                have hg0 : (j == 0) = false := by simpa using hj0
                have hg2 : (fi == -1) = false := HE2.out.trans hg0
                have hjp : 0 < j := by omega
                have hg3 : decide (0 < j) = true := decide_eq_true hjp
                have HJ0 := Lib.hid hj0
                rw [hg3] at ht
                clear hj0
                have uc0 := fun d os => cell_regrown (u0 HKu5.out) d os
                have uf0 := u0 HKu5.out
                have uc1 := fun d os => cell_regrown (u1 HKu5.out) d os
                have uf1 := u1 HKu5.out
                go_wp2_with fail
                refine wp_region_quiet_below (by kernel_rfl) (by kernel_rfl) ?_
                repeat (go_big_quiet_step (first | with_reducible exact Calls.regrown_of (hcu _) | with_reducible exact Calls.regrown_of (hh _)))
                refine wpQuiet_nil ?_
                intro _ hw'
                obtain ⟨⟨dq, osq⟩, hw''⟩ := hw'
                subst hw''
                clear uc0 uf0 uc1 uf1
                obtain ⟨w6, hw6⟩ : ∃ w6, Go.Sort.grow (redrawn wr dq) osq = w6 := ⟨_, rfl⟩
                have hb : Below wr.heap.size wr w6 := by rw [← hw6]; exact below_regrown _ _ _
                rw [hw6]
                clear hw6
                have HKu6 := Lib.hid (HKu5.out.below hb HKu5.out.lt)
                have uf0 := u0 HKu6.out
                have uf1 := u1 HKu6.out
                have HB6 := Lib.hid (HB5.out.trans (hb.mono HB5.out.size))
                have HS6 := Lib.hid hb
                clear hb
                have HR6 := Lib.hid (HR5.out.below HS6.out)
                go_wp2_with fail
                refine (ht w6).mono ?_
                clear uf0 uf1
                rintro e w7 ⟨rfl, hb⟩
                have HKu7 := Lib.hid (HKu6.out.below hb HKu6.out.lt)
                have uf0 := u0 HKu7.out
                have uf1 := u1 HKu7.out
                have HB7 := Lib.hid (HB6.out.trans (hb.mono HB6.out.size))
                have HS7 := Lib.hid hb
                clear hb
                have HR7 := Lib.hid (HR6.out.below HS7.out)
                obtain ⟨b, off, rfl, hbl, hcell⟩ := row_at HR7.out (i := 0) (by have := HJ.out; have := HJ0.out; omega)
                have hv0 : L.getD 0 0 = fi := by
                  rw [HF0.out]
                  have := HJ.out
                  have := HJ0.out
                  cases L with
                  | nil => simp at *; omega
                  | cons y l => rfl
                rw [hv0, Nat.add_zero] at hcell
                have hal := fun o => (((Below.refl w7.heap.size w7).alloc (Nat.le_refl _) o).cell (p := ⟨b, off, none⟩) hbl).trans hcell
                clear hv0
                have Nua := Lib.hid (Nat.ne_of_lt HKu7.out.lt)
                have hb := ubox_below w7 n x
                have HKu8 := Lib.hid (HKu7.out.below hb HKu7.out.lt)
                have uaa0 := fun o => u0 (HKu7.out.alloc o)
                have uaa1 := fun o => u1 (HKu7.out.alloc o)
                have HKa8 := Lib.hid (ubox_blok w7 n x)
                have HB8 := Lib.hid (HB7.out.trans (hb.mono HB7.out.size))
                clear hb
                go_wp2
                go_ret
                exact ⟨rfl, HB8.out⟩
          · have g1 : decide (i < n) = false := decide_eq_false h1
            obtain rfl : t = false := HT2.out.trans (HI.out.2 (fun h => h1 h.2))
            clear h0 h1
            by_cases hj0 : j = 0
            · obtain rfl : j = 0 := hj0
              have hg2 : (fi == -1) = true := HE2.out
              obtain rfl : n = p := by omega
              have hwn : IntKind.i64.wrap n = n := IntWalk.i64_in _ (by omega)
              clear hw13 hw14
              have hc0 : decide (0 < 0) = false := rfl
              rw [hc0] at ht
              have uc0 := fun d os => cell_regrown (u0 HKu5.out) d os
              have uf0 := u0 HKu5.out
              have uc1 := fun d os => cell_regrown (u1 HKu5.out) d os
              have uf1 := u1 HKu5.out
              go_wp2_with fail
              refine wp_region_quiet_below (by kernel_rfl) (by kernel_rfl) ?_
              repeat (go_big_quiet_step (first | with_reducible exact Calls.regrown_of (hcu _) | with_reducible exact Calls.regrown_of (hh _)))
              refine wpQuiet_nil ?_
              intro _ hw'
              obtain ⟨⟨dq, osq⟩, hw''⟩ := hw'
              subst hw''
              clear uc0 uf0 uc1 uf1
              obtain ⟨w6, hw6⟩ : ∃ w6, Go.Sort.grow (redrawn wr dq) osq = w6 := ⟨_, rfl⟩
              have hb : Below wr.heap.size wr w6 := by rw [← hw6]; exact below_regrown _ _ _
              rw [hw6]
              clear hw6
              have HKu6 := Lib.hid (HKu5.out.below hb HKu5.out.lt)
              have uf0 := u0 HKu6.out
              have uf1 := u1 HKu6.out
              have HB6 := Lib.hid (HB5.out.trans (hb.mono HB5.out.size))
              have HS6 := Lib.hid hb
              clear hb
              have HR6 := Lib.hid (HR5.out.below HS6.out)
              go_wp2_with fail
              refine (ht w6).mono ?_
              clear uf0 uf1
              rintro e w7 ⟨rfl, hb⟩
              have HKu7 := Lib.hid (HKu6.out.below hb HKu6.out.lt)
              have uf0 := u0 HKu7.out
              have uf1 := u1 HKu7.out
              have HB7 := Lib.hid (HB6.out.trans (hb.mono HB6.out.size))
              have HS7 := Lib.hid hb
              clear hb
              have Nua := Lib.hid (Nat.ne_of_lt HKu7.out.lt)
              have hb := ubox_below w7 n x
              have HKu8 := Lib.hid (HKu7.out.below hb HKu7.out.lt)
              have uaa0 := fun o => u0 (HKu7.out.alloc o)
              have uaa1 := fun o => u1 (HKu7.out.alloc o)
              have HKa8 := Lib.hid (ubox_blok w7 n x)
              have HB8 := Lib.hid (HB7.out.trans (hb.mono HB7.out.size))
              clear hb
              go_wp2
              go_ret
              exact ⟨rfl, HB8.out⟩
            · have hg1 : ((j : Int) == 0) = false := by simpa using hj0
              have hg0 : (j == 0) = false := by simpa using hj0
              have hg2 : (fi == -1) = false := HE2.out.trans hg0
              have hjp : 0 < j := by omega
              have hg3 : decide (0 < j) = true := decide_eq_true hjp
              have HJ0 := Lib.hid hj0
              rw [hg3] at ht
              clear hj0
              have uc0 := fun d os => cell_regrown (u0 HKu5.out) d os
              have uf0 := u0 HKu5.out
              have uc1 := fun d os => cell_regrown (u1 HKu5.out) d os
              have uf1 := u1 HKu5.out
              go_wp2_with fail
              refine wp_region_quiet_below (by kernel_rfl) (by kernel_rfl) ?_
              repeat (go_big_quiet_step (first | with_reducible exact Calls.regrown_of (hcu _) | with_reducible exact Calls.regrown_of (hh _)))
              refine wpQuiet_nil ?_
              intro _ hw'
              obtain ⟨⟨dq, osq⟩, hw''⟩ := hw'
              subst hw''
              clear uc0 uf0 uc1 uf1
              obtain ⟨w6, hw6⟩ : ∃ w6, Go.Sort.grow (redrawn wr dq) osq = w6 := ⟨_, rfl⟩
              have hb : Below wr.heap.size wr w6 := by rw [← hw6]; exact below_regrown _ _ _
              rw [hw6]
              clear hw6
              have HKu6 := Lib.hid (HKu5.out.below hb HKu5.out.lt)
              have uf0 := u0 HKu6.out
              have uf1 := u1 HKu6.out
              have HB6 := Lib.hid (HB5.out.trans (hb.mono HB5.out.size))
              have HS6 := Lib.hid hb
              clear hb
              have HR6 := Lib.hid (HR5.out.below HS6.out)
              go_wp2_with fail
              refine (ht w6).mono ?_
              clear uf0 uf1
              rintro e w7 ⟨rfl, hb⟩
              have HKu7 := Lib.hid (HKu6.out.below hb HKu6.out.lt)
              have uf0 := u0 HKu7.out
              have uf1 := u1 HKu7.out
              have HB7 := Lib.hid (HB6.out.trans (hb.mono HB6.out.size))
              have HS7 := Lib.hid hb
              clear hb
              have HR7 := Lib.hid (HR6.out.below HS7.out)
              obtain ⟨b, off, rfl, hbl, hcell⟩ := row_at HR7.out (i := 0) (by have := HJ.out; have := HJ0.out; omega)
              have hv0 : L.getD 0 0 = fi := by
                rw [HF0.out]
                have := HJ.out
                have := HJ0.out
                cases L with
                | nil => simp at *; omega
                | cons y l => rfl
              rw [hv0, Nat.add_zero] at hcell
              have hal := fun o => (((Below.refl w7.heap.size w7).alloc (Nat.le_refl _) o).cell (p := ⟨b, off, none⟩) hbl).trans hcell
              clear hv0
              have Nua := Lib.hid (Nat.ne_of_lt HKu7.out.lt)
              have hb := ubox_below w7 n x
              have HKu8 := Lib.hid (HKu7.out.below hb HKu7.out.lt)
              have uaa0 := fun o => u0 (HKu7.out.alloc o)
              have uaa1 := fun o => u1 (HKu7.out.alloc o)
              have HKa8 := Lib.hid (ubox_blok w7 n x)
              have HB8 := Lib.hid (HB7.out.trans (hb.mono HB7.out.size))
              clear hb
              go_wp2
              go_ret
              exact ⟨rfl, HB8.out⟩
        · have g0 : decide (0 ≤ i) = false := decide_eq_false h0
          obtain rfl : t = false := HT2.out.trans (HI.out.2 (fun h => h0 h.1))
          clear h0
          by_cases hj0 : j = 0
          · obtain rfl : j = 0 := hj0
            have hg2 : (fi == -1) = true := HE2.out
            obtain rfl : n = p := by omega
            have hwn : IntKind.i64.wrap n = n := IntWalk.i64_in _ (by omega)
            clear hw13 hw14
            have hc0 : decide (0 < 0) = false := rfl
            rw [hc0] at ht
            have uc0 := fun d os => cell_regrown (u0 HKu5.out) d os
            have uf0 := u0 HKu5.out
            have uc1 := fun d os => cell_regrown (u1 HKu5.out) d os
            have uf1 := u1 HKu5.out
            go_wp2_with fail
            refine wp_region_quiet_below (by kernel_rfl) (by kernel_rfl) ?_
            repeat (go_big_quiet_step (first | with_reducible exact Calls.regrown_of (hcu _) | with_reducible exact Calls.regrown_of (hh _)))
            refine wpQuiet_nil ?_
            intro _ hw'
            obtain ⟨⟨dq, osq⟩, hw''⟩ := hw'
            subst hw''
            clear uc0 uf0 uc1 uf1
            obtain ⟨w6, hw6⟩ : ∃ w6, Go.Sort.grow (redrawn wr dq) osq = w6 := ⟨_, rfl⟩
            have hb : Below wr.heap.size wr w6 := by rw [← hw6]; exact below_regrown _ _ _
            rw [hw6]
            clear hw6
            have HKu6 := Lib.hid (HKu5.out.below hb HKu5.out.lt)
            have uf0 := u0 HKu6.out
            have uf1 := u1 HKu6.out
            have HB6 := Lib.hid (HB5.out.trans (hb.mono HB5.out.size))
            have HS6 := Lib.hid hb
            clear hb
            have HR6 := Lib.hid (HR5.out.below HS6.out)
            go_wp2_with fail
            refine (ht w6).mono ?_
            clear uf0 uf1
            rintro e w7 ⟨rfl, hb⟩
            have HKu7 := Lib.hid (HKu6.out.below hb HKu6.out.lt)
            have uf0 := u0 HKu7.out
            have uf1 := u1 HKu7.out
            have HB7 := Lib.hid (HB6.out.trans (hb.mono HB6.out.size))
            have HS7 := Lib.hid hb
            clear hb
            have Nua := Lib.hid (Nat.ne_of_lt HKu7.out.lt)
            have hb := ubox_below w7 n x
            have HKu8 := Lib.hid (HKu7.out.below hb HKu7.out.lt)
            have uaa0 := fun o => u0 (HKu7.out.alloc o)
            have uaa1 := fun o => u1 (HKu7.out.alloc o)
            have HKa8 := Lib.hid (ubox_blok w7 n x)
            have HB8 := Lib.hid (HB7.out.trans (hb.mono HB7.out.size))
            clear hb
            go_wp2
            go_ret
            exact ⟨rfl, HB8.out⟩
          · have hg1 : ((j : Int) == 0) = false := by simpa using hj0
            have hg0 : (j == 0) = false := by simpa using hj0
            have hg2 : (fi == -1) = false := HE2.out.trans hg0
            have hjp : 0 < j := by omega
            have hg3 : decide (0 < j) = true := decide_eq_true hjp
            have HJ0 := Lib.hid hj0
            rw [hg3] at ht
            clear hj0
            have uc0 := fun d os => cell_regrown (u0 HKu5.out) d os
            have uf0 := u0 HKu5.out
            have uc1 := fun d os => cell_regrown (u1 HKu5.out) d os
            have uf1 := u1 HKu5.out
            go_wp2_with fail
            refine wp_region_quiet_below (by kernel_rfl) (by kernel_rfl) ?_
            repeat (go_big_quiet_step (first | with_reducible exact Calls.regrown_of (hcu _) | with_reducible exact Calls.regrown_of (hh _)))
            refine wpQuiet_nil ?_
            intro _ hw'
            obtain ⟨⟨dq, osq⟩, hw''⟩ := hw'
            subst hw''
            clear uc0 uf0 uc1 uf1
            obtain ⟨w6, hw6⟩ : ∃ w6, Go.Sort.grow (redrawn wr dq) osq = w6 := ⟨_, rfl⟩
            have hb : Below wr.heap.size wr w6 := by rw [← hw6]; exact below_regrown _ _ _
            rw [hw6]
            clear hw6
            have HKu6 := Lib.hid (HKu5.out.below hb HKu5.out.lt)
            have uf0 := u0 HKu6.out
            have uf1 := u1 HKu6.out
            have HB6 := Lib.hid (HB5.out.trans (hb.mono HB5.out.size))
            have HS6 := Lib.hid hb
            clear hb
            have HR6 := Lib.hid (HR5.out.below HS6.out)
            go_wp2_with fail
            refine (ht w6).mono ?_
            clear uf0 uf1
            rintro e w7 ⟨rfl, hb⟩
            have HKu7 := Lib.hid (HKu6.out.below hb HKu6.out.lt)
            have uf0 := u0 HKu7.out
            have uf1 := u1 HKu7.out
            have HB7 := Lib.hid (HB6.out.trans (hb.mono HB6.out.size))
            have HS7 := Lib.hid hb
            clear hb
            have HR7 := Lib.hid (HR6.out.below HS7.out)
            obtain ⟨b, off, rfl, hbl, hcell⟩ := row_at HR7.out (i := 0) (by have := HJ.out; have := HJ0.out; omega)
            have hv0 : L.getD 0 0 = fi := by
              rw [HF0.out]
              have := HJ.out
              have := HJ0.out
              cases L with
              | nil => simp at *; omega
              | cons y l => rfl
            rw [hv0, Nat.add_zero] at hcell
            have hal := fun o => (((Below.refl w7.heap.size w7).alloc (Nat.le_refl _) o).cell (p := ⟨b, off, none⟩) hbl).trans hcell
            clear hv0
            have Nua := Lib.hid (Nat.ne_of_lt HKu7.out.lt)
            have hb := ubox_below w7 n x
            have HKu8 := Lib.hid (HKu7.out.below hb HKu7.out.lt)
            have uaa0 := fun o => u0 (HKu7.out.alloc o)
            have uaa1 := fun o => u1 (HKu7.out.alloc o)
            have HKa8 := Lib.hid (ubox_blok w7 n x)
            have HB8 := Lib.hid (HB7.out.trans (hb.mono HB7.out.size))
            clear hb
            go_wp2
            go_ret
            exact ⟨rfl, HB8.out⟩
end Go.Proofs.Ytagkpkgflnccpaa
