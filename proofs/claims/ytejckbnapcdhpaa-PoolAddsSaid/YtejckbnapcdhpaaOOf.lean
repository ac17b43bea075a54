/-
  Whose an address is: pool.Of, pool.Gives; the document's.
-/
import Derived.Test.YtejckbnapcdhpaaOMeet
namespace Go.Proofs.Ytejckbnapcdhpaa
open Go.RowKit

theorem O.of_yes {l : List O.Pl} {x : Int} {j : Nat} {p : O.Pl} (hx : l[j]? = some p) (h : ∀ q ∈ l.take j, O.has q x = false) (hp : O.has p x = true) : O.of l x = j := O.of_some hx hp h
theorem O.of_range (l : List O.Pl) (x : Int) : -1 ≤ O.of l x ∧ O.of l x < l.length := by
  rcases O.of_cases l x with ⟨h, _⟩ | ⟨i, p, h, hi, _⟩
  · rw [h]; omega
  · rw [h]; have := (List.getElem?_eq_some_iff.1 hi).1; omega
set_option maxHeartbeats 400000 in
theorem of_any (a : Option Addr) (n c : Nat) (l : List O.Pl) (x r : Int) (hv : O.of l x = r) (w : World) (h : QIn w a n c l) (hn : n ≤ 1000000) :
    Calls Try.prog 24 #[.slice a n c, .int .i64 x] w fun e w' => e = .returned (.int .i64 r) ∧ Below w.heap.size w w' := by
  have HT := Lib.hid h
  have HV := Lib.hid hv
  clear h hv
  go_enter Try.func24, Try.ntmps24
  go_wp2_with fail
  go_loopw [9] (fun i wr => ∃ j : Nat, i = .int .i64 j ∧ j ≤ n ∧ Hid (∀ q ∈ l.take j, O.has q x = false) ∧ Hid (Below w.heap.size w wr)) (fun i _ => n - (intOf i).toNat)
  case atStart => exact ⟨0, rfl, by omega, Lib.hid (by simp), Lib.hid (Below.refl _ _)⟩
  case round =>
    obtain ⟨j, rfl, hjn, HA, HB⟩ := hrel
    by_cases hlt : j < n
    · have d1 : decide ((j : Int) < n) = true := by simp; omega
      obtain ⟨b', off, y, rfl, hbl, hx, p0, p1, p2⟩ := (HT.out.below HB.out).at hlt
      have HX := Lib.hid hx
      have j0 : (0 : Int) ≤ j := by omega
      have j1 : (j : Int) < n := by omega
      obtain ⟨u, hu⟩ : ∃ u, O.has y x = u := ⟨_, rfl⟩
      have HU := Lib.hid hu
      have c1 := fun W => ohas_any y x u W hu
      have HB1 := Lib.hid (HB.out.trans ((O.box_below wr y).mono HB.out.size))
      have HY := Lib.hid (O.box_is wr y)
      obtain ⟨W, hW⟩ : ∃ W, O.box wr y = W := ⟨_, rfl⟩
      rw [hW] at HB1 HY
      unfold O.box at hW
      have y0 := HY.out.b0
      have y1 := HY.out.b1
      have y2 := HY.out.b2
      unfold O.val at c1
      clear hu hx
      go_wp2_with fail
      refine (c1 _).mono ?_
      rintro e w2 ⟨rfl, hb2⟩
      have HB2 := Lib.hid (HB1.out.trans (hb2.mono HB1.out.size))
      clear hb2 c1 hW
      cases u with
      | true =>
        have HE : Hid (r = j) := Lib.hid (by rw [← HV.out]; exact O.of_yes HX.out HA.out HU.out)
        go_wp2
        go_ret
        exact ⟨by rw [HE.out]; rfl, HB2.out⟩
      | false =>
        go_wp2
        go_roundw
        case rel => exact ⟨j + 1, by go_num, by omega, Lib.hid (O.any_snoc HX.out HA.out HU.out), HB2⟩
        case measure => simp [intOf] <;> omega
    · have d1 : decide ((j : Int) < n) = false := by simp; omega
      have HE : Hid (r = -1) := Lib.hid (by
        rw [← HV.out]
        have h1 := HA.out
        rw [List.take_of_length_le (by rw [HT.out.1]; omega)] at h1
        exact O.of_none h1)
      go_wp2
      go_ret
      exact ⟨by rw [HE.out]; rfl, HB.out⟩
set_option maxHeartbeats 400000 in
theorem gives_any (a : Option Addr) (n c : Nat) (l : List O.Pl) (x : Int) (v : Bool) (hv : O.gives l x = v) (w : World) (h : QIn w a n c l) (hn : n ≤ 1000000) :
    Calls Try.prog 26 #[.slice a n c, .int .i64 x] w fun e w' => e = .returned (.bool v) ∧ Below w.heap.size w w' := by
  have HT := Lib.hid h
  have HV := Lib.hid hv
  have c1 := fun r hr => of_any a n c l x r hr w h hn
  clear h hv
  rcases O.of_cases l x with ⟨hr, _⟩ | ⟨i, p, hr, hi, _⟩
  · have c2 := c1 _ hr
    have HE : Hid (v = false) := Lib.hid (by rw [← HV.out]; unfold O.gives; rw [hr]; simp)
    clear c1 hr
    go_enter Try.func26, Try.ntmps26
    go_wp2_with fail
    refine c2.mono ?_
    rintro e w2 ⟨rfl, hb2⟩
    go_wp2
    go_ret
    exact ⟨by rw [HE.out]; rfl, hb2⟩
  · have c2 := c1 _ hr
    have hin : i < n := by rw [← HT.out.1]; exact (List.getElem?_eq_some_iff.1 hi).1
    obtain ⟨u, hu⟩ : ∃ u, decide (p.s = 0) = u := ⟨_, rfl⟩
    have HE : Hid (v = u) := Lib.hid (by rw [← HV.out, ← hu]; unfold O.gives; rw [O.of_at hr hi, hr]; simp)
    have HI := Lib.hid hi
    clear c1 hr hi
    go_enter Try.func26, Try.ntmps26
    go_wp2_with fail
    refine c2.mono ?_
    rintro e w2 ⟨rfl, hb2⟩
    obtain ⟨b', off, y, rfl, hbl, hx, p0, p1, p2⟩ := (HT.out.below hb2).at hin
    obtain rfl : y = p := by have := HI.out; rw [hx] at this; exact Option.some.inj this
    have j0 : (0 : Int) ≤ i := by omega
    have j1 : (i : Int) < n := by omega
    have e1 : ((i : Int) != -1) = true := by simp
    have HB2 := Lib.hid hb2
    have hu' : (y.s == 0) = u := by rw [← hu]; simp [BEq.beq]
    clear c2 hx hb2
    go_wp2_with fail
    go_ret
    exact ⟨by rw [HE.out]; rfl, HB2.out⟩
end Go.Proofs.Ytejckbnapcdhpaa
