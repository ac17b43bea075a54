/-
  Two lists of pools are the same: slices.Equal, pool.Same; the document's Same.
-/
import Derived.Test.YtejckbnapcdhpaaORows
namespace Go.Proofs.Ytejckbnapcdhpaa
open Go.RowKit

theorem O.same_step {l k : List O.Pl} {i : Nat} {x : O.Pl} (hx : l[i]? = some x) (hy : k[i]? = some x) (h : l.take i = k.take i) : l.take (i + 1) = k.take (i + 1) := by
  obtain ⟨h0, h1⟩ := List.getElem?_eq_some_iff.1 hx
  obtain ⟨h2, h3⟩ := List.getElem?_eq_some_iff.1 hy
  rw [List.take_succ_eq_append_getElem h0, List.take_succ_eq_append_getElem h2, h, h1, h3]
theorem O.same_bad {l k : List O.Pl} {i : Nat} {x y : O.Pl} (hx : l[i]? = some x) (hy : k[i]? = some y) (h : ¬ x = y) : decide (l = k) = false := by
  refine decide_eq_false fun e => h ?_
  rw [e, hy] at hx; exact (Option.some.inj hx).symm
set_option maxRecDepth 100000 in
set_option maxHeartbeats 400000 in
theorem equalO_any (a a' : Option Addr) (n m c c' : Nat) (l k : List O.Pl) (w : World) (h : QIn w a n c l) (h' : QIn w a' m c' k) (hn : n ≤ 1000000) (p : Bool) (hp : decide (l = k) = p) :
    Calls Try.prog 38 #[.slice a n c, .slice a' m c'] w fun e w' => e = .returned (.bool p) ∧ Below w.heap.size w w' := by
  by_cases hnm : n = m
  · subst hnm
    have HT := Lib.hid h
    have HK := Lib.hid h'
    have HP := Lib.hid hp
    have dn : ((n : Int) != n) = false := by simp
    clear h h' hp
    go_enter Try.func38, Try.ntmps38
    go_wp2_with fail
    go_loopw [13] (fun i wr => ∃ k' : Nat, i = .int .i64 k' ∧ k' ≤ n ∧ Hid (l.take k' = k.take k') ∧ Hid (Below w.heap.size w wr)) (fun i _ => n - (intOf i).toNat)
    case atStart => exact ⟨0, rfl, by omega, Lib.hid (by simp), Lib.hid (Below.refl _ _)⟩
    case round =>
      obtain ⟨i, rfl, hin, HA, HB⟩ := hrel
      by_cases hlt : i < n
      · have d1 : decide ((i : Int) < n) = true := by simp; omega
        obtain ⟨b, off, x, rfl, hb, hx, p1, p2, p3⟩ := (HT.out.below HB.out).at hlt
        obtain ⟨b2, off2, y, rfl, hb2, hy, q1, q2, q3⟩ := (HK.out.below HB.out).at hlt
        have k0 : (0 : Int) ≤ i := by omega
        have k1 : (i : Int) < n := by omega
        have HX := Lib.hid hx
        have HY := Lib.hid hy
        clear hx hy
        by_cases hxy : x = y
        · subst hxy
          have HE := Lib.hid (O.same_step HX.out HY.out HA.out)
          go_wp2_with fail
          go_quiet (fail)
          go_wp2
          go_roundw
          case rel => exact ⟨i + 1, by go_num, by omega, HE, Lib.hid (HB.out.trans (below_drewN _ _ _))⟩
          case measure => simp [intOf] <;> omega
        · have HE : Hid (p = false) := Lib.hid (by rw [← HP.out]; exact O.same_bad HX.out HY.out hxy)
          obtain ⟨x1, x2, x3⟩ := x
          obtain ⟨y1, y2, y3⟩ := y
          by_cases h1 : x1 = y1
          · subst h1
            by_cases h2 : x2 = y2
            · subst h2
              have h3 : ¬ x3 = y3 := fun e => hxy (by rw [e])
              go_wp2_with fail
              go_quiet (fail)
              go_wp2
              go_ret
              exact ⟨by rw [HE.out]; rfl, HB.out.trans (below_drewN _ _ _)⟩
            · go_wp2_with fail
              go_quiet (fail)
              go_wp2
              go_ret
              exact ⟨by rw [HE.out]; rfl, HB.out.trans (below_drewN _ _ _)⟩
          · go_wp2_with fail
            go_quiet (fail)
            go_wp2
            go_ret
            exact ⟨by rw [HE.out]; rfl, HB.out.trans (below_drewN _ _ _)⟩
      · have d1 : decide ((i : Int) < n) = false := by simp; omega
        have HE : Hid (p = true) := Lib.hid (by
          have h1 := HA.out
          rw [List.take_of_length_le (by rw [HT.out.1]; omega), List.take_of_length_le (by rw [HK.out.1]; omega)] at h1
          rw [← HP.out]; exact decide_eq_true h1)
        go_wp2
        go_ret
        exact ⟨by rw [HE.out]; rfl, HB.out⟩
  · have HE : Hid (p = false) := Lib.hid (by
      rw [← hp]
      refine decide_eq_false fun e => hnm ?_
      rw [← h.1, ← h'.1, e])
    have dn : ((n : Int) != m) = true := by simp; omega
    clear h h' hp hnm
    go_enter Try.func38, Try.ntmps38
    go_wp2
    go_ret
    exact ⟨by rw [HE.out]; rfl, Below.refl _ _⟩
set_option maxRecDepth 100000 in
set_option maxHeartbeats 400000 in
theorem refSame_any (a a' : Option Addr) (n m c c' : Nat) (l k : List O.Pl) (w : World) (h : QIn w a n c l) (h' : QIn w a' m c' k) (hn : n ≤ 1000000) (p : Bool) (hp : decide (l = k) = p) :
    Calls Try.prog 19 #[.slice a n c, .slice a' m c'] w fun e w' => e = .returned (.bool p) ∧ Below w.heap.size w w' := by
  by_cases hnm : n = m
  · subst hnm
    have HT := Lib.hid h
    have HK := Lib.hid h'
    have HP := Lib.hid hp
    have dn : ((n : Int) != n) = false := by simp
    clear h h' hp
    go_enter Try.func19, Try.ntmps19
    go_wp2_with fail
    go_loopw [5] (fun i wr => ∃ k' : Nat, i = .int .i64 k' ∧ k' ≤ n ∧ Hid (l.take k' = k.take k') ∧ Hid (Below w.heap.size w wr)) (fun i _ => n - (intOf i).toNat)
    case atStart => exact ⟨0, rfl, by omega, Lib.hid (by simp), Lib.hid (Below.refl _ _)⟩
    case round =>
      obtain ⟨i, rfl, hin, HA, HB⟩ := hrel
      by_cases hlt : i < n
      · have d1 : decide ((i : Int) < n) = true := by simp; omega
        obtain ⟨b, off, x, rfl, hb, hx, p1, p2, p3⟩ := (HT.out.below HB.out).at hlt
        obtain ⟨b2, off2, y, rfl, hb2, hy, q1, q2, q3⟩ := (HK.out.below HB.out).at hlt
        have k0 : (0 : Int) ≤ i := by omega
        have k1 : (i : Int) < n := by omega
        have HX := Lib.hid hx
        have HY := Lib.hid hy
        clear hx hy
        by_cases hxy : x = y
        · subst hxy
          have HE := Lib.hid (O.same_step HX.out HY.out HA.out)
          go_wp2_with fail
          go_quiet (fail)
          go_wp2
          go_roundw
          case rel => exact ⟨i + 1, by go_num, by omega, HE, Lib.hid (HB.out.trans (below_drewN _ _ _))⟩
          case measure => simp [intOf] <;> omega
        · have HE : Hid (p = false) := Lib.hid (by rw [← HP.out]; exact O.same_bad HX.out HY.out hxy)
          obtain ⟨x1, x2, x3⟩ := x
          obtain ⟨y1, y2, y3⟩ := y
          by_cases h1 : x1 = y1
          · subst h1
            by_cases h2 : x2 = y2
            · subst h2
              have h3 : ¬ x3 = y3 := fun e => hxy (by rw [e])
              go_wp2_with fail
              go_quiet (fail)
              go_wp2
              go_ret
              exact ⟨by rw [HE.out]; rfl, HB.out.trans (below_drewN _ _ _)⟩
            · go_wp2_with fail
              go_quiet (fail)
              go_wp2
              go_ret
              exact ⟨by rw [HE.out]; rfl, HB.out.trans (below_drewN _ _ _)⟩
          · go_wp2_with fail
            go_quiet (fail)
            go_wp2
            go_ret
            exact ⟨by rw [HE.out]; rfl, HB.out.trans (below_drewN _ _ _)⟩
      · have d1 : decide ((i : Int) < n) = false := by simp; omega
        have HE : Hid (p = true) := Lib.hid (by
          have h1 := HA.out
          rw [List.take_of_length_le (by rw [HT.out.1]; omega), List.take_of_length_le (by rw [HK.out.1]; omega)] at h1
          rw [← HP.out]; exact decide_eq_true h1)
        go_wp2
        go_ret
        exact ⟨by rw [HE.out]; rfl, HB.out⟩
  · have HE : Hid (p = false) := Lib.hid (by
      rw [← hp]
      refine decide_eq_false fun e => hnm ?_
      rw [← h.1, ← h'.1, e])
    have dn : ((n : Int) != m) = true := by simp; omega
    clear h h' hp hnm
    go_enter Try.func19, Try.ntmps19
    go_wp2
    go_ret
    exact ⟨by rw [HE.out]; rfl, Below.refl _ _⟩
theorem sameO_any (a a' : Option Addr) (n m c c' : Nat) (l k : List O.Pl) (w : World) (h : QIn w a n c l) (h' : QIn w a' m c' k) (hn : n ≤ 1000000) (p : Bool) (hp : decide (l = k) = p) :
    Calls Try.prog 23 #[.slice a n c, .slice a' m c'] w fun e w' => e = .returned (.bool p) ∧ Below w.heap.size w w' := by
  have c1 := equalO_any a a' n m c c' l k w h h' hn p hp
  clear h h' hp
  go_enter Try.func23, Try.ntmps23
  go_wp2_with fail
  refine c1.mono ?_
  rintro e w2 ⟨rfl, hb2⟩
  go_wp2
  go_ret
  exact ⟨rfl, hb2⟩
end Go.Proofs.Ytejckbnapcdhpaa
