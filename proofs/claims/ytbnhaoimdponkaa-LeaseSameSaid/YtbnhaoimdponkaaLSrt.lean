/-
  What the laws ask of leases: sorted, Few.
-/
import Derived.Test.YtbnhaoimdponkaaLAwake
namespace Go.Proofs.Ytbnhaoimdponkaa
open Go.RowKit

theorem few_any (a a' : Option Addr) (n n' c c' : Nat) (b : Bool) (hb : (decide (n ≤ 40) && decide (n' ≤ 40)) = b) (w : World) :
    Calls Try.prog 9 #[.slice a n c, .slice a' n' c'] w fun e w' => e = .returned (.bool b) ∧ Below w.heap.size w w' := by
  by_cases h1 : n ≤ 40
  · have d1 : decide ((n : Int) ≤ 40) = true := by simp; omega
    have d2 : decide (n ≤ 40) = true := by simpa using h1
    obtain ⟨u, hu⟩ : ∃ u, decide (n' ≤ 40) = u := ⟨_, rfl⟩
    have d3 : decide ((n' : Int) ≤ 40) = u := by rw [← hu]; congr 1; simp; omega
    have HE : Hid (b = u) := Lib.hid (by rw [← hb, d2, hu]; rfl)
    clear hb
    go_enter Try.func9, Try.ntmps9
    go_wp2
    go_ret
    exact ⟨by rw [HE.out]; rfl, Below.refl _ _⟩
  · have d1 : decide ((n : Int) ≤ 40) = false := by simp; omega
    have d2 : decide (n ≤ 40) = false := by simpa using h1
    have HE : Hid (b = false) := Lib.hid (by rw [← hb, d2]; rfl)
    clear hb
    go_enter Try.func9, Try.ntmps9
    go_wp2
    go_ret
    exact ⟨by rw [HE.out]; rfl, Below.refl _ _⟩

set_option maxRecDepth 100000 in
set_option maxHeartbeats 600000 in
theorem srt_any (a : Option Addr) (n c : Nat) (l : List L.Ls) (r : Bool) (hr : decide (L.Srt l) = r) (w : World) (h : RIn w a n c l) :
    Calls Try.prog 14 #[.slice a n c] w fun e w' => e = .returned (.bool r) ∧ Below w.heap.size w w' := by
  have HT := Lib.hid h
  have hl := h.1
  have HR := Lib.hid hr
  have hn : n ≤ 9223372036854775807 := by have := h.2.1; unfold maxLen at this; omega
  clear h hr
  go_enter Try.func14, Try.ntmps14
  go_wp2_with fail
  go_loopw [3] (fun i wr => ∃ j : Nat, i = .int .i64 ((j : Int) + 1) ∧ j ≤ n ∧ Hid (L.Srt (l.take (j + 1))) ∧ Hid (Below w.heap.size w wr)) (fun i _ => n + 1 - (intOf i).toNat)
  case atStart => exact ⟨0, rfl, by omega, Lib.hid (L.Srt.one l), Lib.hid (Below.refl _ _)⟩
  case round =>
    obtain ⟨j, rfl, hj, HS, HB⟩ := hrel
    by_cases hlt : j + 1 < n
    · have dj : decide ((j : Int) + 1 < n) = true := by simp; omega
      obtain ⟨b, off, x, rfl, hbl, hx, p0, p1, p2, p3, p4⟩ := (HT.out.below HB.out).at5 (i := j) (by omega)
      obtain ⟨b2, off2, y, he, hbl2, hy, q0, q1, q2, q3, q4⟩ := (HT.out.below HB.out).at5 (i := j + 1) hlt
      cases he
      have j0 : (0 : Int) ≤ j := by omega
      have j1 : (j : Int) < n := by omega
      have j2 : (0 : Int) ≤ (j : Int) + 1 := by omega
      have j3 : (j : Int) + 1 < n := by omega
      have ht1 : ((j : Int) + 1).toNat = j + 1 := by omega
      have hw1 : IntKind.i64.wrap ((j : Int) + 1 - 1) = (j : Int) := by rw [IntKind.wrap_i64]; omega
      obtain ⟨u, hu⟩ : ∃ u, decide (y.a < x.a) = u := ⟨_, rfl⟩
      obtain ⟨v, hv⟩ : ∃ v, (y.a == x.a) = v := ⟨_, rfl⟩
      obtain ⟨z, hz⟩ : ∃ z, decide (y.b ≤ x.b) = z := ⟨_, rfl⟩
      have HL : Hid ((u || (v && z)) = true ↔ ¬ L.Lt x y) := Lib.hid (by
        rw [← hu, ← hv, ← hz]; unfold L.Lt; simp; omega)
      have HX := Lib.hid hx
      have HY := Lib.hid hy
      obtain ⟨V1, hV1⟩ : ∃ V, wr.alloc (.cells #[.int .i64 x.s, .int .i64 x.a, .int .i64 x.b, .int .i64 x.f, .int .i64 x.t] 30) = V := ⟨_, rfl⟩
      have B1 : Below wr.heap.size wr V1 := by rw [← hV1]; exact (Below.refl _ wr).alloc (Nat.le_refl _) _
      have K1 : L.Bx V1 wr.heap.size 30 x := by rw [← hV1]; exact Blok.new wr _ _
      obtain ⟨V2, hV2⟩ : ∃ V, V1.alloc (.cells #[.int .i64 y.s, .int .i64 y.a, .int .i64 y.b, .int .i64 y.f, .int .i64 y.t] 30) = V := ⟨_, rfl⟩
      have B2 : Below V1.heap.size V1 V2 := by rw [← hV2]; exact (Below.refl _ V1).alloc (Nat.le_refl _) _
      have K2 : L.Bx V2 V1.heap.size 30 y := by rw [← hV2]; exact Blok.new V1 _ _
      have K12 : L.Bx V2 wr.heap.size 30 x := Blok.below K1 B2 (Blok.lt K1)
      have s1 : V1.heap.size = wr.heap.size + 1 := by rw [← hV1]; simp
      have x1 : V2.cell? ⟨wr.heap.size, 1, none⟩ = some (.int .i64 x.a) := Blok.cell K12 1
      have x2 : V2.cell? ⟨wr.heap.size, 2, none⟩ = some (.int .i64 x.b) := Blok.cell K12 2
      have y1 : V2.cell? ⟨wr.heap.size + 1, 1, none⟩ = some (.int .i64 y.a) := by rw [← s1]; exact Blok.cell K2 1
      have y2 : V2.cell? ⟨wr.heap.size + 1, 2, none⟩ = some (.int .i64 y.b) := by rw [← s1]; exact Blok.cell K2 2
      have HB2 := Lib.hid (HB.out.trans ((B1.trans (B2.mono B1.size)).mono HB.out.size))
      have q0' : V1.cell? ⟨b, off + (j + 1) * 5, none⟩ = some (.int .i64 y.s) := by
        have := (RIn.below (HT.out.below HB.out) B1).at5 hlt
        obtain ⟨_, _, y', e', _, hy', r0, _⟩ := this
        cases e'
        rw [show y = y' from Option.some.inj (HY.out.symm.trans hy')]; exact r0
      have q1' : V1.cell? ⟨b, off + (j + 1) * 5 + 1, none⟩ = some (.int .i64 y.a) := by
        have := (RIn.below (HT.out.below HB.out) B1).at5 hlt
        obtain ⟨_, _, y', e', _, hy', r0, r1, _⟩ := this
        cases e'
        rw [show y = y' from Option.some.inj (HY.out.symm.trans hy')]; exact r1
      have q2' : V1.cell? ⟨b, off + (j + 1) * 5 + 2, none⟩ = some (.int .i64 y.b) := by
        have := (RIn.below (HT.out.below HB.out) B1).at5 hlt
        obtain ⟨_, _, y', e', _, hy', r0, r1, r2, _⟩ := this
        cases e'
        rw [show y = y' from Option.some.inj (HY.out.symm.trans hy')]; exact r2
      have q3' : V1.cell? ⟨b, off + (j + 1) * 5 + 3, none⟩ = some (.int .i64 y.f) := by
        have := (RIn.below (HT.out.below HB.out) B1).at5 hlt
        obtain ⟨_, _, y', e', _, hy', r0, r1, r2, r3, _⟩ := this
        cases e'
        rw [show y = y' from Option.some.inj (HY.out.symm.trans hy')]; exact r3
      have q4' : V1.cell? ⟨b, off + (j + 1) * 5 + 4, none⟩ = some (.int .i64 y.t) := by
        have := (RIn.below (HT.out.below HB.out) B1).at5 hlt
        obtain ⟨_, _, y', e', _, hy', r0, r1, r2, r3, r4⟩ := this
        cases e'
        rw [show y = y' from Option.some.inj (HY.out.symm.trans hy')]; exact r4
      clear hx hy B1 K1 B2 K2 K12 q0 q1 q2 q3 q4 hbl2
      by_cases hc : (u || (v && z)) = true
      · have HE : Hid (r = false) := Lib.hid (by rw [← HR.out]; exact decide_eq_false (L.Srt.no HX.out HY.out (HL.out.1 hc)))
        cases u with
        | true =>
          go_wp2
          go_ret
          exact ⟨by rw [HE.out]; rfl, HB2.out⟩
        | false =>
          cases v with
          | false => cases hc
          | true =>
            cases z with
            | false => cases hc
            | true =>
              go_wp2
              go_ret
              exact ⟨by rw [HE.out]; rfl, HB2.out⟩
      · have hxy : L.Lt x y := Classical.byContradiction fun e => hc (HL.out.2 e)
        have HS2 := Lib.hid (L.Srt.snoc HS.out HX.out HY.out hxy)
        cases u with
        | true => exact absurd rfl hc
        | false =>
          cases v with
          | false =>
            go_wp2
            go_roundw
            case rel => exact ⟨j + 1, by go_num, by omega, HS2, HB2⟩
            case measure => simp [intOf] <;> omega
          | true =>
            cases z with
            | true => exact absurd rfl hc
            | false =>
              go_wp2
              go_roundw
              case rel => exact ⟨j + 1, by go_num, by omega, HS2, HB2⟩
              case measure => simp [intOf] <;> omega
    · have dj : decide ((j : Int) + 1 < n) = false := by simp; omega
      have HE : Hid (r = true) := Lib.hid (by
        have := HS.out
        rw [List.take_of_length_le (by omega)] at this
        rw [← HR.out]; exact decide_eq_true this)
      go_wp2
      go_ret
      exact ⟨by rw [HE.out]; rfl, HB.out⟩
end Go.Proofs.Ytbnhaoimdponkaa
