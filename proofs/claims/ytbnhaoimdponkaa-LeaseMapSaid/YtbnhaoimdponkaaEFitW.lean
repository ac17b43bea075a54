/-
  Whether a mapping fits: the eight closures asked one behind the other.
-/
import Derived.Test.YtbnhaoimdponkaaEFit
namespace Go.Proofs.Ytbnhaoimdponkaa
open Go.RowKit

def E.must (x : E.D) : Nat → Bool
  | 0 => E.m1 x | 1 => E.m2 x | 2 => E.m3 x | 3 => E.m4 x | 4 => E.m5 x | 5 => E.m6 x | 6 => E.m7 x | _ => E.m8 x
def E.fit (x : E.D) : Bool := E.m1 x && E.m2 x && E.m3 x && E.m4 x && E.m5 x && E.m6 x && E.m7 x && E.m8 x
theorem E.fit_all (x : E.D) : E.fit x = true ↔ ∀ j, j < 8 → E.must x j = true := by
  unfold E.fit
  simp only [Bool.and_eq_true]
  refine ⟨fun h j hj => ?_, fun h => ⟨⟨⟨⟨⟨⟨⟨h 0 (by decide), h 1 (by decide)⟩, h 2 (by decide)⟩, h 3 (by decide)⟩, h 4 (by decide)⟩, h 5 (by decide)⟩, h 6 (by decide)⟩, h 7 (by decide)⟩⟩
  obtain ⟨⟨⟨⟨⟨⟨⟨h0, h1⟩, h2⟩, h3⟩, h4⟩, h5⟩, h6⟩, h7⟩ := h
  obtain rfl | rfl | rfl | rfl | rfl | rfl | rfl | rfl : j = 0 ∨ j = 1 ∨ j = 2 ∨ j = 3 ∨ j = 4 ∨ j = 5 ∨ j = 6 ∨ j = 7 := by omega
  all_goals assumption
theorem E.fit_no {x : E.D} {j : Nat} (hj : j < 8) (h : E.must x j = false) : E.fit x = false := by
  rw [Bool.eq_false_iff]
  intro h1
  rw [(E.fit_all x).1 h1 j hj] at h
  cases h
def fcells (w : World) : Array Value := #[.func (.func 66) #[] #[.pointer (some ⟨w.heap.size, 0, none⟩)], .func (.func 68) #[] #[.pointer (some ⟨w.heap.size, 0, none⟩)], .func (.func 70) #[] #[.pointer (some ⟨w.heap.size, 0, none⟩)], .func (.func 73) #[] #[.pointer (some ⟨w.heap.size, 0, none⟩)], .func (.func 74) #[] #[.pointer (some ⟨w.heap.size, 0, none⟩)], .func (.func 76) #[] #[.pointer (some ⟨w.heap.size, 0, none⟩)], .func (.func 77) #[] #[.pointer (some ⟨w.heap.size, 0, none⟩)], .func (.func 78) #[] #[.pointer (some ⟨w.heap.size, 0, none⟩)]]
def fbox (w : World) (x : E.D) : World := (ebox w x).alloc (.cells (fcells w) 24)
theorem fbox_below (w : World) (x : E.D) : Below w.heap.size w (fbox w x) := (ebox_below w x).alloc (ebox_below w x).size _
theorem fbox_d (w : World) (x : E.D) : Blok (fbox w x) w.heap.size 40 #[.int .i64 x.b, .int .i64 x.k, .int .i64 x.c, .int .i64 x.j, .int .i64 x.lo, .int .i64 x.hi, .int .i64 x.dy, .int .i64 x.bl] := (ebox_blok w x).alloc _
theorem fbox_f (w : World) (x : E.D) : Blok (fbox w x) (w.heap.size + 1) 24 (fcells w) := by
  have := Blok.new (ebox w x) 24 (fcells w)
  rwa [ebox_size] at this

set_option maxHeartbeats 800000 in
theorem fit_any (x : E.D) (v : Bool) (w : World) (h : E.fit x = v) (hb : x.b ≤ 9223372036854775807) (hc : x.c ≤ 9223372036854775807) :
    Calls Try.prog 57 #[.agg #[.int .i64 x.b, .int .i64 x.k, .int .i64 x.c, .int .i64 x.j, .int .i64 x.lo, .int .i64 x.hi, .int .i64 x.dy, .int .i64 x.bl]] w fun e w' => e = .returned (.bool v) ∧ Below w.heap.size w w' := by
  have HV := Lib.hid h
  have HB := Lib.hid (fbox_below w x)
  have HD := Lib.hid (fbox_d w x)
  have HF := Lib.hid (fbox_f w x)
  have HX := Lib.hid (And.intro hb hc)
  clear h hb hc
  go_enter Try.func57, Try.ntmps57
  go_wp2_with fail
  go_loopg [17] 8 (fun g i wr => ∃ k : Nat, i = .int .i64 k ∧ k + g = 8 ∧ Hid (∀ j, j < k → E.must x j = true) ∧ Hid (Below (w.heap.size + 2) (fbox w x) wr))
  case atStart => exact ⟨0, rfl, rfl, Lib.hid (fun j hj => absurd hj (by omega)), Lib.hid (Below.refl _ _)⟩
  case round =>
    obtain ⟨k, rfl, hk, HM, HW⟩ := hrel
    have hBd := (fbox_below w x).size
    have hS : (fbox w x).heap.size = w.heap.size + 2 := by simp [fbox, ebox]
    have HDr := Lib.hid (HD.out.below HW.out (by omega))
    have HFr := Lib.hid (HF.out.below HW.out (by omega))
    have HBr := Lib.hid (HB.out.trans (HW.out.mono (by omega)))
    have HSz := Lib.hid (show w.heap.size + 2 ≤ wr.heap.size from by rw [← hS]; exact HW.out.size)
    clear hBd hS
    obtain rfl | rfl | rfl | rfl | rfl | rfl | rfl | rfl | rfl : k = 0 ∨ k = 1 ∨ k = 2 ∨ k = 3 ∨ k = 4 ∨ k = 5 ∨ k = 6 ∨ k = 7 ∨ k = 8 := by omega
    · have hc : wr.cell? ⟨w.heap.size + 1, 0, none⟩ = some (.func (.func 66) #[] #[.pointer (some ⟨w.heap.size, 0, none⟩)]) := HFr.out.cell 0
      cases hv : E.m1 x
      · have HN : Hid (v = false) := Lib.hid (by rw [← HV.out]; exact E.fit_no (j := 0) (by decide) hv)
        have hm := must1 x false hv wr w.heap.size HDr.out
        clear hv
        go_wp2_with fail
        refine hm.mono ?_
        rintro e w1 ⟨rfl, hb1⟩
        go_wp2
        go_ret
        exact ⟨by rw [HN.out]; rfl, HBr.out.trans (hb1.mono HBr.out.size)⟩
      · have HN : Hid (E.must x 0 = true) := Lib.hid hv
        have hm := must1 x true hv wr w.heap.size HDr.out
        clear hv
        go_wp2_with fail
        refine hm.mono ?_
        rintro e w1 ⟨rfl, hb1⟩
        have HW1 := Lib.hid (HW.out.trans (hb1.mono HSz.out))
        clear hb1 hm hc
        go_wp2
        go_roundg (8 - 1)
        case rel => exact ⟨1, rfl, rfl, Lib.hid (fun i hi => by
          rcases Nat.lt_succ_iff_lt_or_eq.1 hi with h | rfl
          · exact HM.out i h
          · exact HN.out), HW1⟩
        case measure => omega
    · have hc : wr.cell? ⟨w.heap.size + 1, 1, none⟩ = some (.func (.func 68) #[] #[.pointer (some ⟨w.heap.size, 0, none⟩)]) := HFr.out.cell 1
      cases hv : E.m2 x
      · have HN : Hid (v = false) := Lib.hid (by rw [← HV.out]; exact E.fit_no (j := 1) (by decide) hv)
        have hm := must2 x false hv HX.out.1 HX.out.2 wr w.heap.size HDr.out
        clear hv
        go_wp2_with fail
        refine hm.mono ?_
        rintro e w1 ⟨rfl, hb1⟩
        go_wp2
        go_ret
        exact ⟨by rw [HN.out]; rfl, HBr.out.trans (hb1.mono HBr.out.size)⟩
      · have HN : Hid (E.must x 1 = true) := Lib.hid hv
        have hm := must2 x true hv HX.out.1 HX.out.2 wr w.heap.size HDr.out
        clear hv
        go_wp2_with fail
        refine hm.mono ?_
        rintro e w1 ⟨rfl, hb1⟩
        have HW1 := Lib.hid (HW.out.trans (hb1.mono HSz.out))
        clear hb1 hm hc
        go_wp2
        go_roundg (8 - 2)
        case rel => exact ⟨2, rfl, rfl, Lib.hid (fun i hi => by
          rcases Nat.lt_succ_iff_lt_or_eq.1 hi with h | rfl
          · exact HM.out i h
          · exact HN.out), HW1⟩
        case measure => omega
    · have hc : wr.cell? ⟨w.heap.size + 1, 2, none⟩ = some (.func (.func 70) #[] #[.pointer (some ⟨w.heap.size, 0, none⟩)]) := HFr.out.cell 2
      cases hv : E.m3 x
      · have HN : Hid (v = false) := Lib.hid (by rw [← HV.out]; exact E.fit_no (j := 2) (by decide) hv)
        have hm := must3 x false hv wr w.heap.size HDr.out
        clear hv
        go_wp2_with fail
        refine hm.mono ?_
        rintro e w1 ⟨rfl, hb1⟩
        go_wp2
        go_ret
        exact ⟨by rw [HN.out]; rfl, HBr.out.trans (hb1.mono HBr.out.size)⟩
      · have HN : Hid (E.must x 2 = true) := Lib.hid hv
        have hm := must3 x true hv wr w.heap.size HDr.out
        clear hv
        go_wp2_with fail
        refine hm.mono ?_
        rintro e w1 ⟨rfl, hb1⟩
        have HW1 := Lib.hid (HW.out.trans (hb1.mono HSz.out))
        clear hb1 hm hc
        go_wp2
        go_roundg (8 - 3)
        case rel => exact ⟨3, rfl, rfl, Lib.hid (fun i hi => by
          rcases Nat.lt_succ_iff_lt_or_eq.1 hi with h | rfl
          · exact HM.out i h
          · exact HN.out), HW1⟩
        case measure => omega
    · have hc : wr.cell? ⟨w.heap.size + 1, 3, none⟩ = some (.func (.func 73) #[] #[.pointer (some ⟨w.heap.size, 0, none⟩)]) := HFr.out.cell 3
      cases hv : E.m4 x
      · have HN : Hid (v = false) := Lib.hid (by rw [← HV.out]; exact E.fit_no (j := 3) (by decide) hv)
        have hm := must4 x false hv wr w.heap.size HDr.out
        clear hv
        go_wp2_with fail
        refine hm.mono ?_
        rintro e w1 ⟨rfl, hb1⟩
        go_wp2
        go_ret
        exact ⟨by rw [HN.out]; rfl, HBr.out.trans (hb1.mono HBr.out.size)⟩
      · have HN : Hid (E.must x 3 = true) := Lib.hid hv
        have hm := must4 x true hv wr w.heap.size HDr.out
        clear hv
        go_wp2_with fail
        refine hm.mono ?_
        rintro e w1 ⟨rfl, hb1⟩
        have HW1 := Lib.hid (HW.out.trans (hb1.mono HSz.out))
        clear hb1 hm hc
        go_wp2
        go_roundg (8 - 4)
        case rel => exact ⟨4, rfl, rfl, Lib.hid (fun i hi => by
          rcases Nat.lt_succ_iff_lt_or_eq.1 hi with h | rfl
          · exact HM.out i h
          · exact HN.out), HW1⟩
        case measure => omega
    · have hc : wr.cell? ⟨w.heap.size + 1, 4, none⟩ = some (.func (.func 74) #[] #[.pointer (some ⟨w.heap.size, 0, none⟩)]) := HFr.out.cell 4
      cases hv : E.m5 x
      · have HN : Hid (v = false) := Lib.hid (by rw [← HV.out]; exact E.fit_no (j := 4) (by decide) hv)
        have hm := must5 x false hv (HM.out 3 (by decide)) wr w.heap.size HDr.out
        clear hv
        go_wp2_with fail
        refine hm.mono ?_
        rintro e w1 ⟨rfl, hb1⟩
        go_wp2
        go_ret
        exact ⟨by rw [HN.out]; rfl, HBr.out.trans (hb1.mono HBr.out.size)⟩
      · have HN : Hid (E.must x 4 = true) := Lib.hid hv
        have hm := must5 x true hv (HM.out 3 (by decide)) wr w.heap.size HDr.out
        clear hv
        go_wp2_with fail
        refine hm.mono ?_
        rintro e w1 ⟨rfl, hb1⟩
        have HW1 := Lib.hid (HW.out.trans (hb1.mono HSz.out))
        clear hb1 hm hc
        go_wp2
        go_roundg (8 - 5)
        case rel => exact ⟨5, rfl, rfl, Lib.hid (fun i hi => by
          rcases Nat.lt_succ_iff_lt_or_eq.1 hi with h | rfl
          · exact HM.out i h
          · exact HN.out), HW1⟩
        case measure => omega
    · have hc : wr.cell? ⟨w.heap.size + 1, 5, none⟩ = some (.func (.func 76) #[] #[.pointer (some ⟨w.heap.size, 0, none⟩)]) := HFr.out.cell 5
      cases hv : E.m6 x
      · have HN : Hid (v = false) := Lib.hid (by rw [← HV.out]; exact E.fit_no (j := 5) (by decide) hv)
        have hm := must6 x false hv wr w.heap.size HDr.out
        clear hv
        go_wp2_with fail
        refine hm.mono ?_
        rintro e w1 ⟨rfl, hb1⟩
        go_wp2
        go_ret
        exact ⟨by rw [HN.out]; rfl, HBr.out.trans (hb1.mono HBr.out.size)⟩
      · have HN : Hid (E.must x 5 = true) := Lib.hid hv
        have hm := must6 x true hv wr w.heap.size HDr.out
        clear hv
        go_wp2_with fail
        refine hm.mono ?_
        rintro e w1 ⟨rfl, hb1⟩
        have HW1 := Lib.hid (HW.out.trans (hb1.mono HSz.out))
        clear hb1 hm hc
        go_wp2
        go_roundg (8 - 6)
        case rel => exact ⟨6, rfl, rfl, Lib.hid (fun i hi => by
          rcases Nat.lt_succ_iff_lt_or_eq.1 hi with h | rfl
          · exact HM.out i h
          · exact HN.out), HW1⟩
        case measure => omega
    · have hc : wr.cell? ⟨w.heap.size + 1, 6, none⟩ = some (.func (.func 77) #[] #[.pointer (some ⟨w.heap.size, 0, none⟩)]) := HFr.out.cell 6
      cases hv : E.m7 x
      · have HN : Hid (v = false) := Lib.hid (by rw [← HV.out]; exact E.fit_no (j := 6) (by decide) hv)
        have hm := must7 x false hv (HM.out 3 (by decide)) (HM.out 4 (by decide)) (HM.out 5 (by decide)) wr w.heap.size HDr.out
        clear hv
        go_wp2_with fail
        refine hm.mono ?_
        rintro e w1 ⟨rfl, hb1⟩
        go_wp2
        go_ret
        exact ⟨by rw [HN.out]; rfl, HBr.out.trans (hb1.mono HBr.out.size)⟩
      · have HN : Hid (E.must x 6 = true) := Lib.hid hv
        have hm := must7 x true hv (HM.out 3 (by decide)) (HM.out 4 (by decide)) (HM.out 5 (by decide)) wr w.heap.size HDr.out
        clear hv
        go_wp2_with fail
        refine hm.mono ?_
        rintro e w1 ⟨rfl, hb1⟩
        have HW1 := Lib.hid (HW.out.trans (hb1.mono HSz.out))
        clear hb1 hm hc
        go_wp2
        go_roundg (8 - 7)
        case rel => exact ⟨7, rfl, rfl, Lib.hid (fun i hi => by
          rcases Nat.lt_succ_iff_lt_or_eq.1 hi with h | rfl
          · exact HM.out i h
          · exact HN.out), HW1⟩
        case measure => omega
    · have hc : wr.cell? ⟨w.heap.size + 1, 7, none⟩ = some (.func (.func 78) #[] #[.pointer (some ⟨w.heap.size, 0, none⟩)]) := HFr.out.cell 7
      cases hv : E.m8 x
      · have HN : Hid (v = false) := Lib.hid (by rw [← HV.out]; exact E.fit_no (j := 7) (by decide) hv)
        have hm := must8 x false hv (HM.out 3 (by decide)) (HM.out 4 (by decide)) wr w.heap.size HDr.out
        clear hv
        go_wp2_with fail
        refine hm.mono ?_
        rintro e w1 ⟨rfl, hb1⟩
        go_wp2
        go_ret
        exact ⟨by rw [HN.out]; rfl, HBr.out.trans (hb1.mono HBr.out.size)⟩
      · have HN : Hid (E.must x 7 = true) := Lib.hid hv
        have hm := must8 x true hv (HM.out 3 (by decide)) (HM.out 4 (by decide)) wr w.heap.size HDr.out
        clear hv
        go_wp2_with fail
        refine hm.mono ?_
        rintro e w1 ⟨rfl, hb1⟩
        have HW1 := Lib.hid (HW.out.trans (hb1.mono HSz.out))
        clear hb1 hm hc
        go_wp2
        go_roundg (8 - 8)
        case rel => exact ⟨8, rfl, rfl, Lib.hid (fun i hi => by
          rcases Nat.lt_succ_iff_lt_or_eq.1 hi with h | rfl
          · exact HM.out i h
          · exact HN.out), HW1⟩
        case measure => omega
    · have HN : Hid (v = true) := Lib.hid (by rw [← HV.out]; exact (E.fit_all x).2 HM.out)
      go_wp2
      go_ret
      exact ⟨by rw [HN.out]; rfl, HBr.out⟩
end Go.Proofs.Ytbnhaoimdponkaa
