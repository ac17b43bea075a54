/-
  The document's meet, others.
-/
import Derived.Test.YtejckbnapcdhpaaOHas
import Derived.Lib.QuietBelow
namespace Go.Proofs.Ytejckbnapcdhpaa
open Go.RowKit

def O.both (p q : O.Pl) (i : Nat) : Bool := O.has p i && O.has q i
theorem O.meet_no {p q : O.Pl} (h : ∀ i, i < 8 → O.both p q i = false) : O.meet p q = false := by
  rw [Bool.eq_false_iff]; intro h1
  obtain ⟨i, hi, h2⟩ := List.any_eq_true.1 h1
  have h3 := h i (List.mem_range.1 hi)
  unfold O.both at h3
  rw [h2] at h3; cases h3
theorem O.meet_yes {p q : O.Pl} {i : Nat} (hi : i < 8) (h : O.both p q i = true) : O.meet p q = true :=
  List.any_eq_true.2 ⟨i, List.mem_range.2 hi, h⟩
set_option maxHeartbeats 400000 in
theorem meet_any (p q : O.Pl) (v : Bool) (hv : O.meet p q = v) (w : World) :
    Calls Try.prog 37 #[O.val p, O.val q] w fun e w' => e = .returned (.bool v) ∧ Below w.heap.size w w' := by
  have HV := Lib.hid hv
  have HB1 := Lib.hid (O.box_below w p)
  have HP := Lib.hid ((O.box_is w p).on (O.box_below _ q))
  have HQ := Lib.hid (O.box_is (O.box w p) q)
  have HB := Lib.hid (HB1.out.trans ((O.box_below (O.box w p) q).mono HB1.out.size))
  have hsz := O.box_size w p
  obtain ⟨W, hW⟩ : ∃ W, O.box (O.box w p) q = W := ⟨_, rfl⟩
  rw [hW] at HP HQ HB
  rw [hsz] at HQ
  unfold O.box at hW
  unfold O.val
  clear hv hsz HB1
  go_enter Try.func37, Try.ntmps37
  go_wp2_with fail
  clear hW
  go_loopw [5] (fun i wr => ∃ j : Nat, i = .int .i64 j ∧ j ≤ 8 ∧ Hid (∀ i, i < j → O.both p q i = false) ∧ Hid (Below W.heap.size W wr)) (fun i _ => 8 - (intOf i).toNat)
  case atStart => exact ⟨0, rfl, by omega, Lib.hid (by intro i hi; omega), Lib.hid (Below.refl _ _)⟩
  case round =>
    obtain ⟨j, rfl, hjn, HA, HBr⟩ := hrel
    by_cases hlt : j < 8
    · have d1 : decide ((j : Int) < 8) = true := by simp; omega
      have HPr := Lib.hid (HP.out.on HBr.out)
      have HQr := Lib.hid (HQ.out.on HBr.out)
      obtain ⟨u1, hu1⟩ : ∃ u, O.has p j = u := ⟨_, rfl⟩
      obtain ⟨u2, hu2⟩ : ∃ u, O.has q j = u := ⟨_, rfl⟩
      have HU : Hid (O.both p q j = (u1 && u2)) := Lib.hid (by rw [← hu1, ← hu2]; rfl)
      have c1 := refHas_any p j u1 wr hu1
      have p0 := HPr.out.b0
      have p1 := HPr.out.b1
      have p2 := HPr.out.b2
      have U2 := Lib.hid hu2
      unfold O.val at c1
      clear hu1 hu2
      go_wp2_with fail
      refine c1.mono ?_
      rintro e w1 ⟨rfl, hb1⟩
      have HB1 := Lib.hid (HBr.out.trans (hb1.mono HBr.out.size))
      have HQ1 := Lib.hid (HQr.out.on hb1)
      have c2 := refHas_any q j u2 w1 U2.out
      clear hb1 c1 p0 p1 p2
      have q0 := HQ1.out.b0
      have q1 := HQ1.out.b1
      have q2 := HQ1.out.b2
      unfold O.val at c2
      go_wp2_with fail
      refine c2.mono ?_
      rintro e w2 ⟨rfl, hb2⟩
      have HB2 := Lib.hid (HB1.out.trans (hb2.mono HB1.out.size))
      clear hb2 c2 q0 q1 q2
      have NX : Hid ((u1 && u2) = false → ∀ i, i < j + 1 → O.both p q i = false) := Lib.hid (fun h i hi => by
        rcases Nat.lt_succ_iff_lt_or_eq.1 hi with h1 | rfl
        · exact HA.out i h1
        · rw [HU.out, h])
      cases u1 with
      | true =>
        cases u2 with
        | true =>
          have HE : Hid (v = true) := Lib.hid (by rw [← HV.out]; exact O.meet_yes hlt (by rw [HU.out]; rfl))
          go_wp2
          go_ret
          exact ⟨by rw [HE.out]; rfl, HB.out.trans (HB2.out.mono HB.out.size)⟩
        | false =>
          go_wp2
          go_roundw
          case rel => exact ⟨j + 1, by go_num, by omega, Lib.hid (NX.out rfl), HB2⟩
          case measure => simp [intOf] <;> omega
      | false =>
        go_wp2
        go_roundw
        case rel => exact ⟨j + 1, by go_num, by omega, Lib.hid (NX.out rfl), HB2⟩
        case measure => simp [intOf] <;> omega
    · have d1 : decide ((j : Int) < 8) = false := by simp; omega
      have HE : Hid (v = false) := Lib.hid (by rw [← HV.out]; exact O.meet_no (fun i hi => HA.out i (by omega)))
      go_wp2
      go_ret
      exact ⟨by rw [HE.out]; rfl, HB.out.trans (HBr.out.mono HB.out.size)⟩
end Go.Proofs.Ytejckbnapcdhpaa
