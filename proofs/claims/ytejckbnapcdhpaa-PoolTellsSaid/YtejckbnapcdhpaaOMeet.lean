/-
  Pools that have an address alike: the closure of pool.meeting, slices.IndexFunc, slices.ContainsFunc.
-/
import Derived.Test.YtejckbnapcdhpaaOHas
namespace Go.Proofs.Ytejckbnapcdhpaa
open Go.RowKit

set_option maxHeartbeats 400000 in
theorem hit_any (p q : O.Pl) (v : Bool) (hv : O.hit p q = v) (w : World) (b : Nat) (hb : O.Bx w b p) :
    Calls Try.prog 41 #[O.val q, .pointer (some ⟨b, 0, none⟩)] w fun e w' => e = .returned (.bool v) ∧ Below w.heap.size w w' := by
  have HV := Lib.hid hv
  have HP := Lib.hid (hb.on (O.box_below w q))
  have HQ := Lib.hid (O.box_is w q)
  have HB := Lib.hid (O.box_below w q)
  obtain ⟨W, hW⟩ : ∃ W, O.box w q = W := ⟨_, rfl⟩
  rw [hW] at HP HQ HB
  unfold O.box at hW
  have p0 := HP.out.b0
  have p1 := HP.out.b1
  have p2 := HP.out.b2
  have q0 := HQ.out.b0
  have q1 := HQ.out.b1
  have q2 := HQ.out.b2
  obtain ⟨u1, hu1⟩ : ∃ u, O.has p q.f = u := ⟨_, rfl⟩
  obtain ⟨u2, hu2⟩ : ∃ u, O.has q p.f = u := ⟨_, rfl⟩
  have HU : Hid (v = (u1 || u2)) := Lib.hid (by rw [← HV.out, ← hu1, ← hu2]; rfl)
  have c1 := ohas_any p q.f u1 W hu1
  have U2 := Lib.hid hu2
  unfold O.val at c1 ⊢
  clear hv hb hu1 hu2
  go_enter Try.func41, Try.ntmps41
  go_wp2_with fail
  refine c1.mono ?_
  rintro e w1 ⟨rfl, hb1⟩
  have HB1 := Lib.hid (HB.out.trans (hb1.mono HB.out.size))
  have HP1 := Lib.hid (HP.out.on hb1)
  have HQ1 := Lib.hid (HQ.out.on hb1)
  clear p0 p1 p2 q0 q1 q2 hb1 c1 hW HP HQ
  have p0 := HP1.out.b0
  have p1 := HP1.out.b1
  have p2 := HP1.out.b2
  have q0 := HQ1.out.b0
  have q1 := HQ1.out.b1
  have q2 := HQ1.out.b2
  cases u1 with
  | true =>
    go_wp2
    go_ret
    exact ⟨by rw [HU.out]; rfl, HB1.out⟩
  | false =>
    have c2 := ohas_any q p.f u2 w1 U2.out
    unfold O.val at c2
    go_wp2_with fail
    refine c2.mono ?_
    rintro e w2 ⟨rfl, hb2⟩
    go_wp2
    go_ret
    exact ⟨by rw [HU.out]; rfl, HB1.out.trans (hb2.mono HB1.out.size)⟩
/-- The closure that meeting hands out, over the box of a pool. -/
def O.clo (b : Nat) : Value := .func (.func 41) #[] #[.pointer (some ⟨b, 0, none⟩)]
theorem meeting_any (p : O.Pl) (w : World) : Calls Try.prog 30 #[O.val p] w fun e w' => ∃ b, e = .returned (O.clo b) ∧ Hid (O.Bx w' b p) ∧ Below w.heap.size w w' := by
  have HB := Lib.hid (O.box_below w p)
  have HX := Lib.hid (O.box_is w p)
  unfold O.val
  go_enter Try.func30, Try.ntmps30
  go_wp2
  go_ret
  exact ⟨w.heap.size, rfl, HX, HB.out⟩
theorem O.any_snoc {f : O.Pl → Bool} {l : List O.Pl} {j : Nat} {x : O.Pl} (hx : l[j]? = some x) (h : ∀ q ∈ l.take j, f q = false) (h2 : f x = false) : ∀ q ∈ l.take (j + 1), f q = false := by
  intro q hq
  obtain ⟨h0, h1⟩ := List.getElem?_eq_some_iff.1 hx
  rw [List.take_succ_eq_append_getElem h0, List.mem_append, List.mem_singleton, h1] at hq
  rcases hq with hq | rfl
  · exact h q hq
  · exact h2
theorem O.any_yes {f : O.Pl → Bool} {l : List O.Pl} {j : Nat} {x : O.Pl} (hx : l[j]? = some x) (h : f x = true) : l.any f = true :=
  List.any_eq_true.2 ⟨x, List.mem_of_getElem? hx, h⟩
theorem O.any_no {f : O.Pl → Bool} {l : List O.Pl} (h : ∀ q ∈ l, f q = false) : l.any f = false := by
  rw [Bool.eq_false_iff]; intro h1
  obtain ⟨x, hx, h2⟩ := List.any_eq_true.1 h1
  rw [h x hx] at h2; cases h2

set_option maxHeartbeats 400000 in
theorem idxQ_any (a : Option Addr) (n c : Nat) (l : List O.Pl) (p : O.Pl) (b : Nat) (v : Bool) (hv : l.any (O.hit p) = v) (w : World) (h : QIn w a n c l) (hb : O.Bx w b p) (hn : n ≤ 1000000) :
    Calls Try.prog 40 #[.slice a n c, O.clo b] w fun e w' => (∃ r : Int, e = .returned (.int .i64 r) ∧ Hid (decide (0 ≤ r) = v)) ∧ Below w.heap.size w w' := by
  have HT := Lib.hid h
  have HV := Lib.hid hv
  have HP := Lib.hid hb
  clear h hv hb
  unfold O.clo
  go_enter Try.func40, Try.ntmps40
  go_wp2_with fail
  go_loopw [8] (fun i wr => ∃ j : Nat, i = .int .i64 j ∧ j ≤ n ∧ Hid (∀ q ∈ l.take j, O.hit p q = false) ∧ Hid (Below w.heap.size w wr)) (fun i _ => n - (intOf i).toNat)
  case atStart => exact ⟨0, rfl, by omega, Lib.hid (by simp), Lib.hid (Below.refl _ _)⟩
  case round =>
    obtain ⟨j, rfl, hjn, HA, HB⟩ := hrel
    by_cases hlt : j < n
    · have d1 : decide ((j : Int) < n) = true := by simp; omega
      obtain ⟨b', off, x, rfl, hbl, hx, p0, p1, p2⟩ := (HT.out.below HB.out).at hlt
      have HX := Lib.hid hx
      have j0 : (0 : Int) ≤ j := by omega
      have j1 : (j : Int) < n := by omega
      have HPr := Lib.hid (HP.out.on HB.out)
      obtain ⟨u, hu⟩ : ∃ u, O.hit p x = u := ⟨_, rfl⟩
      have HU := Lib.hid hu
      have c1 := hit_any p x u hu wr b HPr.out
      unfold O.val at c1
      clear hu hx
      go_wp2_with fail
      refine c1.mono ?_
      rintro e w2 ⟨rfl, hb2⟩
      have HB2 := Lib.hid (HB.out.trans (hb2.mono HB.out.size))
      clear hb2 c1
      cases u with
      | true =>
        go_wp2
        go_ret
        exact ⟨⟨j, rfl, Lib.hid (by rw [← HV.out, O.any_yes HX.out HU.out]; simp)⟩, HB2.out⟩
      | false =>
        go_wp2
        go_roundw
        case rel => exact ⟨j + 1, by go_num, by omega, Lib.hid (O.any_snoc HX.out HA.out HU.out), HB2⟩
        case measure => simp [intOf] <;> omega
    · have d1 : decide ((j : Int) < n) = false := by simp; omega
      have HE : Hid (v = false) := Lib.hid (by
        rw [← HV.out]
        have h1 := HA.out
        rw [List.take_of_length_le (by rw [HT.out.1]; omega)] at h1
        exact O.any_no h1)
      go_wp2
      go_ret
      exact ⟨⟨-1, rfl, Lib.hid (by rw [HE.out]; decide)⟩, HB.out⟩
theorem hits_any (a : Option Addr) (n c : Nat) (l : List O.Pl) (p : O.Pl) (b : Nat) (v : Bool) (hv : l.any (O.hit p) = v) (w : World) (h : QIn w a n c l) (hb : O.Bx w b p) (hn : n ≤ 1000000) :
    Calls Try.prog 29 #[.slice a n c, O.clo b] w fun e w' => e = .returned (.bool v) ∧ Below w.heap.size w w' := by
  have c1 := idxQ_any a n c l p b v hv w h hb hn
  unfold O.clo at c1 ⊢
  clear h hb hv
  go_enter Try.func29, Try.ntmps29
  go_wp2_with fail
  refine c1.mono ?_
  rintro e w2 ⟨⟨r, rfl, hr⟩, hb2⟩
  go_wp2
  go_ret
  exact ⟨by rw [hr.out]; rfl, hb2⟩
end Go.Proofs.Ytejckbnapcdhpaa
