/-
  Walks of the document's own Free, First, Count.
-/
import Derived.Test.YtagkpkgflnccpaaURef
import Derived.Test.YtagkpkgflnccpaaUFree
import Derived.Deep.RegionHeld3
namespace Go.Proofs.Ytagkpkgflnccpaa
open Go.RowKit

def RFreeIs (l : List Int) (w : World) (e : Ending) (w' : World) : Prop :=
  ∃ v, e = .returned v ∧ w'.ownsRow w.heap.size 3 1 v l.length (l.map (Value.int .i64)) ∧ Below w.heap.size w w'

theorem U.free_take {n u : Int} (h : U.may n u = true) {k : Nat} (hk : k < n.toNat) : U.fr ((U.all n u).take (k + 1)) = if U.has n u k then U.fr ((U.all n u).take k) else U.fr ((U.all n u).take k) ++ [(k : Int)] := by
  rw [U.all_take h hk]
  unfold U.has
  rw [U.at_yes h (by omega) (by omega)]
  cases hb : U.bit u k
  · simp [U.num, hb, U.fr_f]
  · simp [U.num, hb, U.fr_t]

set_option maxHeartbeats 400000 in
theorem refFree_no (n u : Int) (w : World) (hm : U.may n u = false) : Calls Try.prog 18 #[.agg #[.int .i64 n, .int .i64 u]] w (RFreeIs (U.free n u) w) := by
  have HB := Lib.hid (ubox_below w n u)
  have HU := Lib.hid (ubox_blok w n u)
  have HF : Hid (U.free n u = []) := Lib.hid (by unfold U.free; rw [U.all_no hm]; rfl)
  have hc := refMay_any n u false (ubox w n u) hm
  clear hm
  go_enter Try.func18, Try.ntmps18
  go_wp2_with fail
  refine hc.mono ?_
  rintro e w1 ⟨rfl, hb1⟩
  have hu := HU.out.below hb1 HU.out.lt
  have c0 := u0 hu
  have c1 := u1 hu
  have HB1 := Lib.hid (HB.out.trans (hb1.mono HB.out.size))
  clear hb1 hu
  go_wp2
  refine wp_loop_rounds 1 ?_
  rw [rounds_succ]
  by_cases hn : 0 < n
  · have g : decide (0 < n) = true := decide_eq_true hn
    clear hn
    go_wp2
    go_ret
    exact ⟨_, rfl, by rw [HF.out]; exact World.ownsRow_nil _ _ _ _, HB1.out⟩
  · have g : decide (0 < n) = false := decide_eq_false hn
    clear hn
    go_wp2
    go_ret
    exact ⟨_, rfl, by rw [HF.out]; exact World.ownsRow_nil _ _ _ _, HB1.out⟩

set_option maxRecDepth 100000 in
set_option maxHeartbeats 1000000 in
theorem refFree_yes (n u : Int) (w : World) (hm : U.may n u = true) : Calls Try.prog 18 #[.agg #[.int .i64 n, .int .i64 u]] w (RFreeIs (U.free n u) w) := by
  obtain ⟨i0, hi, hz0, hz1, hz2⟩ := info_parts info3
  have HB := Lib.hid (ubox_below w n u)
  have HU := Lib.hid (ubox_blok w n u)
  have HM := Lib.hid hm
  have hc := refMay_any n u true (ubox w n u) hm
  obtain ⟨M, V, rfl, rfl, hM8, -, hV⟩ := U.may_cases hm
  have HT : ∀ k, k < M → Hid (U.fr ((U.all M V).take (k + 1)) = if U.has M V k then U.fr ((U.all M V).take k) else U.fr ((U.all M V).take k) ++ [(k : Int)]) := fun k hk => Lib.hid (U.free_take hm (by simpa using hk))
  have HT' := Lib.hid HT
  clear hm HT
  go_enter Try.func18, Try.ntmps18
  go_wp2_with fail
  refine hc.mono ?_
  rintro e w1 ⟨rfl, hb1⟩
  have HU1 := Lib.hid (HU.out.below hb1 HU.out.lt)
  have HB1 := Lib.hid (HB.out.trans (hb1.mono HB.out.size))
  have hsz : w.heap.size + 1 ≤ w1.heap.size := by have := hb1.size; rw [ubox_size] at this; exact this
  clear hb1
  go_wp2
  go_loopw [3, 5] (fun v i wr => ∃ k : Nat, i = .int .i64 k ∧ k ≤ M ∧ wr.ownsRow (w.heap.size + 1) 3 1 v (U.fr ((U.all M V).take k)).length ((U.fr ((U.all M V).take k)).map (Value.int .i64)) ∧ Hid (Below (w.heap.size + 1) w1 wr)) (fun _ i _ => M - (intOf i).toNat)
  case atStart => exact ⟨0, rfl, by omega, World.ownsRow_nil _ _ _ _, Lib.hid (Below.refl _ _)⟩
  case round =>
    obtain ⟨k, rfl, hk, hown, HBr⟩ := hrel
    have HUr := Lib.hid (HU1.out.below HBr.out (by omega))
    have c0 := u0 HUr.out
    have c1 := u1 HUr.out
    by_cases hlt : k < M
    · obtain ⟨xs, hxs⟩ : ∃ xs, U.fr ((U.all M V).take k) = xs := ⟨_, rfl⟩
      have hle : xs.length ≤ 8 := by rw [← hxs]; have := U.fr_len ((U.all M V).take k); have := U.all_le M V; simp at *; omega
      rw [hxs] at hown
      have HT := Lib.hid (HT'.out k hlt)
      have HX := Lib.hid hxs
      clear hxs
      have hd : decide (k < M) = true := decide_eq_true hlt
      cases hb : U.has M V k
      · have hh := fun W => refHas_any M V k false W hb
        have HBB := Lib.hid hb
        clear hb
        go_wp2_with fail
        refine (hh wr).mono ?_
        rintro e w2 ⟨rfl, hb2⟩
        have hown2 := ownsRow_below hown hb2
        have HB2 := Lib.hid (HBr.out.trans (hb2.mono (by have := HBr.out.size; omega)))
        have hs2 := HB2.out.size
        clear hb2 hown hh c0 c1
        go_wp2_with (at_builtin; refine wpList_append_own _ rfl _ _ 29 rfl (w.heap.size + 1) 3 i0 (.int .i64 0) 1 8 Try.underlying29 hi hz0 hz1 hz2 rfl (by decide) _ _ _ rfl (hown2.alloc _) ⟨w2.heap.size, 0, none⟩ 1 1 [.int .i64 (k : Int)] rfl rfl (cell_one_new _ _ _) (by simp [Value.oneCell']) (by unfold maxLen; omega) (by omega) (by simp; omega) ?_; intro v' w3 hown' hgrow _)
        go_roundw
        case rel => exact ⟨k + 1, by go_num, by omega, by rw [HT.out.out, HBB.out, HX.out]; simpa using hown', Lib.hid (below_appended0 (hown2.alloc _) (by simp; omega) (HB2.out.alloc (by omega) _) hgrow)⟩
        case measure => simp [intOf]; omega
      · have hh := fun W => refHas_any M V k true W hb
        have HBB := Lib.hid hb
        clear hb
        go_wp2_with fail
        refine (hh wr).mono ?_
        rintro e w2 ⟨rfl, hb2⟩
        have hown2 := ownsRow_below hown hb2
        have HB2 := Lib.hid (HBr.out.trans (hb2.mono (by have := HBr.out.size; omega)))
        clear hb2 hown hh c0 c1
        go_wp2
        go_roundw
        case rel => exact ⟨k + 1, by go_num, by omega, by rw [HT.out.out, HBB.out, HX.out]; simpa using hown2, HB2⟩
        case measure => simp [intOf]; omega
    · have hd : decide (k < M) = false := decide_eq_false hlt
      have HE : Hid (k = M) := Lib.hid (by omega)
      clear hlt hk
      go_wp2
      go_ret
      have ho := hown
      rw [HE.out, List.take_of_length_le (by rw [U.all_len HM.out]; simp)] at ho
      exact ⟨_, rfl, ownsRow_base ho (by omega), HB1.out.trans (HBr.out.mono (by omega))⟩

/-- **The document's Free**, at whatever map. -/
theorem refFree_any (m u : Int) (w : World) : Calls Try.prog 18 #[.agg #[.int .i64 m, .int .i64 u]] w fun e w' =>
    ∃ a cap n, e = .returned (.slice a n cap) ∧ Hid ((U.free m u).length = n) ∧ Hid (RowIn .i64 w' a cap (U.free m u)) ∧ Below w.heap.size w w' :=
  (show Calls Try.prog 18 #[.agg #[.int .i64 m, .int .i64 u]] w (RFreeIs (U.free m u) w) by
    cases hm : U.may m u
    · exact refFree_no m u w hm
    · exact refFree_yes m u w hm).mono fun e w' ⟨v, he, ho, hb⟩ => by
    obtain ⟨a, cap, rfl, _, hr⟩ := ownsRow_rowIn ho (U.free_wf m u)
    exact ⟨a, cap, _, he, rfl, hr, hb⟩

theorem U.count_free {n u : Int} (h : U.may n u = true) : U.count n u = n - (U.free n u).length := by
  rw [U.count_eq]
  have h1 : U.ct (U.all n u) + (U.fr (U.all n u)).length = (U.all n u).length := by
    generalize U.all n u = l
    induction l with
    | nil => simp [U.ct, U.fr]
    | cons p l ih =>
      obtain ⟨k, b⟩ := p
      have e1 : U.ct ((k, b) :: l) = U.ct l + (if b then 1 else 0) := by cases b <;> simp [U.ct]
      have e2 : (U.fr ((k, b) :: l)).length = (U.fr l).length + (if b then 0 else 1) := by cases b <;> simp [U.fr]
      rw [e1, e2, List.length_cons, ← ih]
      cases b <;> simp <;> omega
  have h2 := U.may_iff.1 h
  rw [U.all_len h] at h1
  have h3 : (U.free n u).length = (U.fr (U.all n u)).length := rfl
  rw [h3]
  omega

set_option maxHeartbeats 400000 in
theorem refFirst_any (m u f : Int) (w : World) (h : U.first m u = f) : Calls Try.prog 24 #[.agg #[.int .i64 m, .int .i64 u]] w fun e w' => e = .returned (.int .i64 f) ∧ Below w.heap.size w w' := by
  have HB := Lib.hid (ubox_below w m u)
  have HH := Lib.hid h
  have hc := refFree_any m u (ubox w m u)
  have hle := U.free_le m u
  clear h
  cases hl : U.free m u with
  | nil =>
    have HF : Hid (f = -1) := Lib.hid (by rw [← HH.out]; unfold U.first; rw [hl]; rfl)
    rw [hl] at hc hle
    clear hl
    go_enter Try.func24, Try.ntmps24
    go_wp2_with fail
    refine hc.mono ?_
    rintro e w1 ⟨a, cap, n, rfl, hn, hr, hb1⟩
    obtain rfl : n = 0 := hn.out.symm
    go_wp2
    go_ret
    exact ⟨by rw [HF.out]; rfl, HB.out.trans (hb1.mono HB.out.size)⟩
  | cons x l =>
    have HF : Hid (f = x) := Lib.hid (by rw [← HH.out]; unfold U.first; rw [hl]; rfl)
    rw [hl] at hc hle
    clear hl
    go_enter Try.func24, Try.ntmps24
    go_wp2_with fail
    refine hc.mono ?_
    rintro e w1 ⟨a, cap, n, rfl, hn, hr, hb1⟩
    obtain ⟨b, off, rfl, -, hcell⟩ := row_at hr.out (i := 0) (by simp)
    simp at hcell
    obtain ⟨j, rfl⟩ : ∃ j, n = j + 1 := ⟨l.length, by have := hn.out; simpa using this.symm⟩
    have hj : j ≤ 8 := by have := hn.out; simp at this hle; omega
    go_wp2
    go_ret
    exact ⟨by rw [HF.out]; rfl, HB.out.trans (hb1.mono HB.out.size)⟩

set_option maxHeartbeats 400000 in
theorem refCount_any (m u f : Int) (w : World) (h : U.count m u = f) : Calls Try.prog 26 #[.agg #[.int .i64 m, .int .i64 u]] w fun e w' => e = .returned (.int .i64 f) ∧ Below w.heap.size w w' := by
  have HB := Lib.hid (ubox_below w m u)
  have HU := Lib.hid (ubox_blok w m u)
  have HH := Lib.hid h
  clear h
  cases hm : U.may m u
  · have HF : Hid (f = 0) := Lib.hid (by rw [← HH.out]; unfold U.count; rw [U.all_no hm]; rfl)
    have hc := refMay_any m u false (ubox w m u) hm
    clear hm
    go_enter Try.func26, Try.ntmps26
    go_wp2_with fail
    refine hc.mono ?_
    rintro e w1 ⟨rfl, hb1⟩
    go_wp2
    go_ret
    exact ⟨by rw [HF.out]; rfl, HB.out.trans (hb1.mono HB.out.size)⟩
  · have HF : Hid (f = m - (U.free m u).length) := Lib.hid (by rw [← HH.out]; exact U.count_free hm)
    have hc := refMay_any m u true (ubox w m u) hm
    have hq := fun W => refFree_any m u W
    have hle := U.free_le m u
    have hmm := U.may_iff.1 hm
    have hm0 := hmm.1
    have hm8 := hmm.2.1
    clear hm hmm
    go_enter Try.func26, Try.ntmps26
    go_wp2_with fail
    refine hc.mono ?_
    rintro e w1 ⟨rfl, hb1⟩
    have HU1 := Lib.hid (HU.out.below hb1 HU.out.lt)
    have HB1 := Lib.hid (HB.out.trans (hb1.mono HB.out.size))
    have c0 := u0 HU1.out
    have c1 := u1 HU1.out
    clear hb1
    go_wp2_with fail
    go_region_with (go_at_call 18; refine (hq _).mono ?_; rintro e w2 ⟨a, cap, n, rfl, hn, hr, hb2⟩; have hu := HU1.out.drew.below hb2 HU1.out.lt; have k0 := u0 hu; have k1 := u1 hu; have hn8 : n ≤ 8 := (by have := hn.out; omega); have hwr : IntKind.i64.wrap (m - (n : Int)) = m - n := IntWalk.i64_in _ (by omega); have HW := Lib.hid (HB1.out.trans ((below_drew w1).trans (hb2.mono (Nat.le_refl _)) |>.mono HB1.out.size)); clear hb2 hr hu)
    all_goals (go_wp2; go_ret; exact ⟨by rw [HF.out, hn.out]; rfl, HW.out⟩)
end Go.Proofs.Ytagkpkgflnccpaa
