/-
  Busy addresses: the closure of pool.loses, slices.IndexFunc, slices.ContainsFunc over integers; pool.loses.
-/
import Derived.Test.YtejckbnapcdhpaaOMeet
namespace Go.Proofs.Ytejckbnapcdhpaa
open Go.RowKit

/-- What a slice of integers reads as. -/
def BIn (w : World) (a : Option Addr) (n c : Nat) (L : List Int) : Prop := L.length = n ∧ RowIn .i64 w a c L
theorem BIn.below {w w' : World} {a : Option Addr} {n c : Nat} {L : List Int} (h : BIn w a n c L) (hb : Below w.heap.size w w') : BIn w' a n c L := ⟨h.1, h.2.below hb⟩
theorem BIn.nil (w : World) : BIn w none 0 0 [] := ⟨rfl, ⟨by simp, by simp [maxLen]⟩, by simp, .inl rfl⟩
theorem BIn.at {w : World} {a : Option Addr} {n c i : Nat} {L : List Int} (h : BIn w a n c L) (hi : i < n) : ∃ b off x, a = some ⟨b, off, none⟩ ∧ b < w.heap.size ∧ L[i]? = some x ∧ w.cell? ⟨b, off + i, none⟩ = some (.int .i64 x) := by
  have h0 : i < L.length := by rw [h.1]; exact hi
  obtain ⟨b, off, h1, h2, h3⟩ := row_at h.2 h0
  refine ⟨b, off, L[i], h1, h2, List.getElem?_eq_getElem h0, ?_⟩
  rw [h3, List.getD_eq_getElem?_getD, List.getElem?_eq_getElem h0]; rfl
/-- The closure that loses asks, over the boxes of two pools. -/
def O.clo2 (b b' : Nat) : Value := .func (.func 43) #[] #[.pointer (some ⟨b, 0, none⟩), .pointer (some ⟨b', 0, none⟩)]
def O.lose (p q : O.Pl) (x : Int) : Bool := O.has p x && !O.has q x
set_option maxHeartbeats 400000 in
theorem lose1_any (p q : O.Pl) (x : Int) (v : Bool) (hv : O.lose p q x = v) (w : World) (b b' : Nat) (hb : O.Bx w b p) (hb' : O.Bx w b' q) :
    Calls Try.prog 43 #[.int .i64 x, .pointer (some ⟨b, 0, none⟩), .pointer (some ⟨b', 0, none⟩)] w fun e w' => e = .returned (.bool v) ∧ Below w.heap.size w w' := by
  have HV := Lib.hid hv
  have HP := Lib.hid hb
  have HQ := Lib.hid hb'
  have p0 := hb.b0
  have p1 := hb.b1
  have p2 := hb.b2
  obtain ⟨u1, hu1⟩ : ∃ u, O.has p x = u := ⟨_, rfl⟩
  obtain ⟨u2, hu2⟩ : ∃ u, O.has q x = u := ⟨_, rfl⟩
  have HU : Hid (v = (u1 && !u2)) := Lib.hid (by rw [← HV.out, ← hu1, ← hu2]; rfl)
  have c1 := ohas_any p x u1 w hu1
  have U2 := Lib.hid hu2
  unfold O.val at c1
  clear hv hb hb' hu1 hu2
  go_enter Try.func43, Try.ntmps43
  go_wp2_with fail
  refine c1.mono ?_
  rintro e w1 ⟨rfl, hb1⟩
  have HP1 := Lib.hid (HP.out.on hb1)
  have HQ1 := Lib.hid (HQ.out.on hb1)
  clear p0 p1 p2 c1
  cases u1 with
  | false =>
    go_wp2
    go_ret
    exact ⟨by rw [HU.out]; rfl, hb1⟩
  | true =>
    have c2 := ohas_any q x u2 w1 U2.out
    have q0 := HQ1.out.b0
    have q1 := HQ1.out.b1
    have q2 := HQ1.out.b2
    have HB1 := Lib.hid hb1
    unfold O.val at c2
    clear hb1
    go_wp2_with fail
    refine c2.mono ?_
    rintro e w2 ⟨rfl, hb2⟩
    have HB2 := Lib.hid (HB1.out.trans (hb2.mono HB1.out.size))
    clear hb2
    cases u2 with
    | true =>
      go_wp2
      go_ret
      exact ⟨by rw [HU.out]; rfl, HB2.out⟩
    | false =>
      go_wp2
      go_ret
      exact ⟨by rw [HU.out]; rfl, HB2.out⟩
theorem O.anyi_snoc {f : Int → Bool} {l : List Int} {j : Nat} {x : Int} (hx : l[j]? = some x) (h : ∀ q ∈ l.take j, f q = false) (h2 : f x = false) : ∀ q ∈ l.take (j + 1), f q = false := by
  intro q hq
  obtain ⟨h0, h1⟩ := List.getElem?_eq_some_iff.1 hx
  rw [List.take_succ_eq_append_getElem h0, List.mem_append, List.mem_singleton, h1] at hq
  rcases hq with hq | rfl
  · exact h q hq
  · exact h2
theorem O.anyi_yes {f : Int → Bool} {l : List Int} {j : Nat} {x : Int} (hx : l[j]? = some x) (h : f x = true) : l.any f = true :=
  List.any_eq_true.2 ⟨x, List.mem_of_getElem? hx, h⟩
theorem O.anyi_no {f : Int → Bool} {l : List Int} (h : ∀ q ∈ l, f q = false) : l.any f = false := by
  rw [Bool.eq_false_iff]; intro h1
  obtain ⟨x, hx, h2⟩ := List.any_eq_true.1 h1
  rw [h x hx] at h2; cases h2

set_option maxHeartbeats 400000 in
theorem idxB_any (a : Option Addr) (n c : Nat) (l : List Int) (p q : O.Pl) (b b' : Nat) (v : Bool) (hv : l.any (O.lose p q) = v) (w : World) (h : BIn w a n c l) (hb : O.Bx w b p) (hb' : O.Bx w b' q) (hn : n ≤ 1000000) :
    Calls Try.prog 44 #[.slice a n c, O.clo2 b b'] w fun e w' => (∃ r : Int, e = .returned (.int .i64 r) ∧ Hid (decide (0 ≤ r) = v)) ∧ Below w.heap.size w w' := by
  have HT := Lib.hid h
  have HV := Lib.hid hv
  have HP := Lib.hid hb
  have HQ := Lib.hid hb'
  clear h hv hb hb'
  unfold O.clo2
  go_enter Try.func44, Try.ntmps44
  go_wp2_with fail
  go_loopw [8] (fun i wr => ∃ j : Nat, i = .int .i64 j ∧ j ≤ n ∧ Hid (∀ q' ∈ l.take j, O.lose p q q' = false) ∧ Hid (Below w.heap.size w wr)) (fun i _ => n - (intOf i).toNat)
  case atStart => exact ⟨0, rfl, by omega, Lib.hid (by simp), Lib.hid (Below.refl _ _)⟩
  case round =>
    obtain ⟨j, rfl, hjn, HA, HB⟩ := hrel
    by_cases hlt : j < n
    · have d1 : decide ((j : Int) < n) = true := by simp; omega
      obtain ⟨bb, off, x, rfl, hbl, hx, p0⟩ := (HT.out.below HB.out).at hlt
      have HX := Lib.hid hx
      have j0 : (0 : Int) ≤ j := by omega
      have j1 : (j : Int) < n := by omega
      have HPr := Lib.hid (HP.out.on HB.out)
      have HQr := Lib.hid (HQ.out.on HB.out)
      obtain ⟨u, hu⟩ : ∃ u, O.lose p q x = u := ⟨_, rfl⟩
      have HU := Lib.hid hu
      have c1 := lose1_any p q x u hu wr b b' HPr.out HQr.out
      clear hu hx
      go_wp2_with fail
      refine c1.mono ?_
      rintro e w2 ⟨rfl, hb2⟩
      have HB2 := Lib.hid (HB.out.trans (hb2.mono HB.out.size))
      clear hb2 c1
      cases u with
      | true =>
        go_wp2
        go_ret
        exact ⟨⟨j, rfl, Lib.hid (by rw [← HV.out, O.anyi_yes HX.out HU.out]; simp)⟩, HB2.out⟩
      | false =>
        go_wp2
        go_roundw
        case rel => exact ⟨j + 1, by go_num, by omega, Lib.hid (O.anyi_snoc HX.out HA.out HU.out), HB2⟩
        case measure => simp [intOf] <;> omega
    · have d1 : decide ((j : Int) < n) = false := by simp; omega
      have HE : Hid (v = false) := Lib.hid (by
        rw [← HV.out]
        have h1 := HA.out
        rw [List.take_of_length_le (by rw [HT.out.1]; omega)] at h1
        exact O.anyi_no h1)
      go_wp2
      go_ret
      exact ⟨⟨-1, rfl, Lib.hid (by rw [HE.out]; decide)⟩, HB.out⟩
theorem contB_any (a : Option Addr) (n c : Nat) (l : List Int) (p q : O.Pl) (b b' : Nat) (v : Bool) (hv : l.any (O.lose p q) = v) (w : World) (h : BIn w a n c l) (hb : O.Bx w b p) (hb' : O.Bx w b' q) (hn : n ≤ 1000000) :
    Calls Try.prog 42 #[.slice a n c, O.clo2 b b'] w fun e w' => e = .returned (.bool v) ∧ Below w.heap.size w w' := by
  have c1 := idxB_any a n c l p q b b' v hv w h hb hb' hn
  unfold O.clo2 at c1 ⊢
  clear h hb hv hb'
  go_enter Try.func42, Try.ntmps42
  go_wp2_with fail
  refine c1.mono ?_
  rintro e w2 ⟨⟨r, rfl, hr⟩, hb2⟩
  go_wp2
  go_ret
  exact ⟨by rw [hr.out]; rfl, hb2⟩
theorem loses_any (p q : O.Pl) (a : Option Addr) (n c : Nat) (l : List Int) (v : Bool) (hv : O.loses p q l = v) (w : World) (h : BIn w a n c l) (hn : n ≤ 1000000) :
    Calls Try.prog 35 #[O.val p, O.val q, .slice a n c] w fun e w' => e = .returned (.bool v) ∧ Below w.heap.size w w' := by
  have HB1 := Lib.hid (O.box_below w p)
  have HP := Lib.hid ((O.box_is w p).on (O.box_below _ q))
  have HQ := Lib.hid (O.box_is (O.box w p) q)
  have HB := Lib.hid (HB1.out.trans ((O.box_below (O.box w p) q).mono HB1.out.size))
  have hsz := O.box_size w p
  obtain ⟨W, hW⟩ : ∃ W, O.box (O.box w p) q = W := ⟨_, rfl⟩
  rw [hW] at HP HQ HB
  rw [hsz] at HQ
  have c1 := contB_any a n c l p q w.heap.size (w.heap.size + 1) v hv W (h.below HB.out) HP.out HQ.out hn
  unfold O.box at hW
  unfold O.clo2 at c1
  unfold O.val
  clear h hv hsz
  go_enter Try.func35, Try.ntmps35
  go_wp2_with fail
  refine c1.mono ?_
  rintro e w2 ⟨rfl, hb2⟩
  go_wp2
  go_ret
  exact ⟨rfl, HB.out.trans (hb2.mono HB.out.size)⟩
end Go.Proofs.Ytejckbnapcdhpaa
