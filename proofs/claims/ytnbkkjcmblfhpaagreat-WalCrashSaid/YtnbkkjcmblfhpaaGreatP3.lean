import Derived.Deep.RegionWith
import Derived.Test.YtnbkkjcmblfhpaaGreatP2
namespace Go.Proofs.YtnbkkjcmblfhpaaGreat
set_option maxHeartbeats 800000
open Go.RowKit
def E.must (x : E.D) : Nat -> Bool
 | 0 => E.m1 x | 1 => E.m2 x | 2 => E.m3 x | 3 => E.m4 x | 4 => E.m5 x | 5 => E.m6 x | 6 => E.m7 x | _ => E.m8 x
def E.fit (x : E.D) : Bool := E.m1 x && E.m2 x && E.m3 x && E.m4 x && E.m5 x && E.m6 x && E.m7 x && E.m8 x
theorem E.fit_all (x : E.D) : E.fit x = true ↔ ∀ j, j < 8 -> E.must x j = true := by
 unfold E.fit
 simp only [Bool.and_eq_true]
 refine ⟨fun h j hj => ?_, fun h => ⟨⟨⟨⟨⟨⟨⟨h 0 (by decide), h 1 (by decide)⟩, h 2 (by decide)⟩, h 3 (by decide)⟩, h 4 (by decide)⟩, h 5 (by decide)⟩, h 6 (by decide)⟩, h 7 (by decide)⟩⟩
 obtain ⟨⟨⟨⟨⟨⟨⟨h0, h1⟩, h2⟩, h3⟩, h4⟩, h5⟩, h6⟩, h7⟩ := h
 obtain rfl | rfl | rfl | rfl | rfl | rfl | rfl | rfl : j = 0 \/ j = 1 \/ j = 2 \/ j = 3 \/ j = 4 \/ j = 5 \/ j = 6 \/ j = 7 := by omega
 all_goals assumption
theorem E.fit_no {x : E.D} {j : Nat} (hj : j < 8) (h : E.must x j = false) : E.fit x = false := by
 rw [Bool.eq_false_iff]
 intro h1
 rw [(E.fit_all x).1 h1 j hj] at h
 cases h
def zh3 (w : World) : Array Value := #[.func (.func 190) #[] #[.pointer (some ⟨w.heap.size, 0, none⟩)], .func (.func 192) #[] #[.pointer (some ⟨w.heap.size, 0, none⟩)], .func (.func 194) #[] #[.pointer (some ⟨w.heap.size, 0, none⟩)], .func (.func 197) #[] #[.pointer (some ⟨w.heap.size, 0, none⟩)], .func (.func 198) #[] #[.pointer (some ⟨w.heap.size, 0, none⟩)], .func (.func 200) #[] #[.pointer (some ⟨w.heap.size, 0, none⟩)], .func (.func 201) #[] #[.pointer (some ⟨w.heap.size, 0, none⟩)], .func (.func 202) #[] #[.pointer (some ⟨w.heap.size, 0, none⟩)]]
def fbox (w : World) (x : E.D) : World := (ebox w x).alloc (.cells (zh3 w) 39)
theorem zel (w : World) (x : E.D) : Below w.heap.size w (fbox w x) := (zaq w x).alloc (zaq w x).size _
theorem zmd (w : World) (x : E.D) : Blok (fbox w x) w.heap.size 30 #[.int .i64 x.b, .int .i64 x.k, .int .i64 x.c, .int .i64 x.j, .int .i64 x.lo, .int .i64 x.hi, .int .i64 x.dy, .int .i64 x.bl] := (zau w x).alloc _
theorem zme (w : World) (x : E.D) : Blok (fbox w x) (w.heap.size + 1) 39 (zh3 w) := by
 have := Blok.new (ebox w x) 39 (zh3 w)
 rwa [zcm] at this
theorem za6 (x : E.D) (v : Bool) (w : World) (h : E.fit x = v) (hb : x.b <= 9223372036854775807) (hc : x.c <= 9223372036854775807) :
  Calls Tryz.prog 131 #[.agg #[.int .i64 x.b, .int .i64 x.k, .int .i64 x.c, .int .i64 x.j, .int .i64 x.lo, .int .i64 x.hi, .int .i64 x.dy, .int .i64 x.bl]] w fun e w' => e = .returned (.bool v) /\ Below w.heap.size w w' := by
 have HV := Zh h
 have HB := Zh (zel w x)
 have HD := Zh (zmd w x)
 have HF := Zh (zme w x)
 have HX := Zh (And.intro hb hc)
 clear h hb hc
 go_enter Tryz.func131, Tryz.ntmps131
 go_wp2_with fail
 go_loopg [17] 8 (fun g i wr => ∃ k : Nat, i = .int .i64 k /\ k + g = 8 /\ Hid (∀ j, j < k -> E.must x j = true) /\ Hid (Below (w.heap.size + 2) (fbox w x) wr))
 case atStart => exact ⟨0, rfl, rfl, Zh (fun j hj => absurd hj (by omega)), Zh (Below.refl _ _)⟩
 case round =>
  obtain ⟨k, rfl, hk, HM, HW⟩ := hrel
  have hBd := (zel w x).size
  have hS : (fbox w x).heap.size = w.heap.size + 2 := by simp [fbox, ebox]
  have HDr := Zh (HD.out.below HW.out (by omega))
  have HFr := Zh (HF.out.below HW.out (by omega))
  have HBr := Zh (HB.out.trans (HW.out.mono (by omega)))
  have HSz := Zh (show w.heap.size + 2 <= wr.heap.size from by rw [<- hS]; exact HW.out.size)
  clear hBd hS
  obtain rfl | rfl | rfl | rfl | rfl | rfl | rfl | rfl | rfl : k = 0 \/ k = 1 \/ k = 2 \/ k = 3 \/ k = 4 \/ k = 5 \/ k = 6 \/ k = 7 \/ k = 8 := by omega
  ·have hc : wr.cell? ⟨w.heap.size + 1, 0, none⟩ = some (.func (.func 190) #[] #[.pointer (some ⟨w.heap.size, 0, none⟩)]) := HFr.out.cell 0
   cases hv : E.m1 x
   ·have HN : Hid (v = false) := Zh (by rw [<- HV.out]; exact E.fit_no (j := 0) (by decide) hv)
    have hm := zl5 x false hv wr w.heap.size HDr.out
    clear hv
    go_wp2_with fail
    refine hm.mono ?_
    rintro e w1 ⟨rfl, hb1⟩
    go_wp2
    go_ret
    exact ⟨by rw [HN.out]; rfl, HBr.out.trans (hb1.mono HBr.out.size)⟩
   ·have HN : Hid (E.must x 0 = true) := Zh hv
    have hm := zl5 x true hv wr w.heap.size HDr.out
    clear hv
    go_wp2_with fail
    refine hm.mono ?_
    rintro e w1 ⟨rfl, hb1⟩
    have HW1 := Zh (HW.out.trans (hb1.mono HSz.out))
    clear hb1 hm hc
    go_wp2
    go_roundg (8 - 1)
    case rel => exact ⟨1, rfl, rfl, Zh (fun i hi => by
     rcases Nat.lt_succ_iff_lt_or_eq.1 hi with h | rfl
     ·exact HM.out i h
     ·exact HN.out), HW1⟩
    case measure => omega
  ·have hc : wr.cell? ⟨w.heap.size + 1, 1, none⟩ = some (.func (.func 192) #[] #[.pointer (some ⟨w.heap.size, 0, none⟩)]) := HFr.out.cell 1
   cases hv : E.m2 x
   ·have HN : Hid (v = false) := Zh (by rw [<- HV.out]; exact E.fit_no (j := 1) (by decide) hv)
    have hm := zl6 x false hv HX.out.1 HX.out.2 wr w.heap.size HDr.out
    clear hv
    go_wp2_with fail
    refine hm.mono ?_
    rintro e w1 ⟨rfl, hb1⟩
    go_wp2
    go_ret
    exact ⟨by rw [HN.out]; rfl, HBr.out.trans (hb1.mono HBr.out.size)⟩
   ·have HN : Hid (E.must x 1 = true) := Zh hv
    have hm := zl6 x true hv HX.out.1 HX.out.2 wr w.heap.size HDr.out
    clear hv
    go_wp2_with fail
    refine hm.mono ?_
    rintro e w1 ⟨rfl, hb1⟩
    have HW1 := Zh (HW.out.trans (hb1.mono HSz.out))
    clear hb1 hm hc
    go_wp2
    go_roundg (8 - 2)
    case rel => exact ⟨2, rfl, rfl, Zh (fun i hi => by
     rcases Nat.lt_succ_iff_lt_or_eq.1 hi with h | rfl
     ·exact HM.out i h
     ·exact HN.out), HW1⟩
    case measure => omega
  ·have hc : wr.cell? ⟨w.heap.size + 1, 2, none⟩ = some (.func (.func 194) #[] #[.pointer (some ⟨w.heap.size, 0, none⟩)]) := HFr.out.cell 2
   cases hv : E.m3 x
   ·have HN : Hid (v = false) := Zh (by rw [<- HV.out]; exact E.fit_no (j := 2) (by decide) hv)
    have hm := zl7 x false hv wr w.heap.size HDr.out
    clear hv
    go_wp2_with fail
    refine hm.mono ?_
    rintro e w1 ⟨rfl, hb1⟩
    go_wp2
    go_ret
    exact ⟨by rw [HN.out]; rfl, HBr.out.trans (hb1.mono HBr.out.size)⟩
   ·have HN : Hid (E.must x 2 = true) := Zh hv
    have hm := zl7 x true hv wr w.heap.size HDr.out
    clear hv
    go_wp2_with fail
    refine hm.mono ?_
    rintro e w1 ⟨rfl, hb1⟩
    have HW1 := Zh (HW.out.trans (hb1.mono HSz.out))
    clear hb1 hm hc
    go_wp2
    go_roundg (8 - 3)
    case rel => exact ⟨3, rfl, rfl, Zh (fun i hi => by
     rcases Nat.lt_succ_iff_lt_or_eq.1 hi with h | rfl
     ·exact HM.out i h
     ·exact HN.out), HW1⟩
    case measure => omega
  ·have hc : wr.cell? ⟨w.heap.size + 1, 3, none⟩ = some (.func (.func 197) #[] #[.pointer (some ⟨w.heap.size, 0, none⟩)]) := HFr.out.cell 3
   cases hv : E.m4 x
   ·have HN : Hid (v = false) := Zh (by rw [<- HV.out]; exact E.fit_no (j := 3) (by decide) hv)
    have hm := zl8 x false hv wr w.heap.size HDr.out
    clear hv
    go_wp2_with fail
    refine hm.mono ?_
    rintro e w1 ⟨rfl, hb1⟩
    go_wp2
    go_ret
    exact ⟨by rw [HN.out]; rfl, HBr.out.trans (hb1.mono HBr.out.size)⟩
   ·have HN : Hid (E.must x 3 = true) := Zh hv
    have hm := zl8 x true hv wr w.heap.size HDr.out
    clear hv
    go_wp2_with fail
    refine hm.mono ?_
    rintro e w1 ⟨rfl, hb1⟩
    have HW1 := Zh (HW.out.trans (hb1.mono HSz.out))
    clear hb1 hm hc
    go_wp2
    go_roundg (8 - 4)
    case rel => exact ⟨4, rfl, rfl, Zh (fun i hi => by
     rcases Nat.lt_succ_iff_lt_or_eq.1 hi with h | rfl
     ·exact HM.out i h
     ·exact HN.out), HW1⟩
    case measure => omega
  ·have hc : wr.cell? ⟨w.heap.size + 1, 4, none⟩ = some (.func (.func 198) #[] #[.pointer (some ⟨w.heap.size, 0, none⟩)]) := HFr.out.cell 4
   cases hv : E.m5 x
   ·have HN : Hid (v = false) := Zh (by rw [<- HV.out]; exact E.fit_no (j := 4) (by decide) hv)
    have hm := zl9 x false hv (HM.out 3 (by decide)) wr w.heap.size HDr.out
    clear hv
    go_wp2_with fail
    refine hm.mono ?_
    rintro e w1 ⟨rfl, hb1⟩
    go_wp2
    go_ret
    exact ⟨by rw [HN.out]; rfl, HBr.out.trans (hb1.mono HBr.out.size)⟩
   ·have HN : Hid (E.must x 4 = true) := Zh hv
    have hm := zl9 x true hv (HM.out 3 (by decide)) wr w.heap.size HDr.out
    clear hv
    go_wp2_with fail
    refine hm.mono ?_
    rintro e w1 ⟨rfl, hb1⟩
    have HW1 := Zh (HW.out.trans (hb1.mono HSz.out))
    clear hb1 hm hc
    go_wp2
    go_roundg (8 - 5)
    case rel => exact ⟨5, rfl, rfl, Zh (fun i hi => by
     rcases Nat.lt_succ_iff_lt_or_eq.1 hi with h | rfl
     ·exact HM.out i h
     ·exact HN.out), HW1⟩
    case measure => omega
  ·have hc : wr.cell? ⟨w.heap.size + 1, 5, none⟩ = some (.func (.func 200) #[] #[.pointer (some ⟨w.heap.size, 0, none⟩)]) := HFr.out.cell 5
   cases hv : E.m6 x
   ·have HN : Hid (v = false) := Zh (by rw [<- HV.out]; exact E.fit_no (j := 5) (by decide) hv)
    have hm := zma x false hv wr w.heap.size HDr.out
    clear hv
    go_wp2_with fail
    refine hm.mono ?_
    rintro e w1 ⟨rfl, hb1⟩
    go_wp2
    go_ret
    exact ⟨by rw [HN.out]; rfl, HBr.out.trans (hb1.mono HBr.out.size)⟩
   ·have HN : Hid (E.must x 5 = true) := Zh hv
    have hm := zma x true hv wr w.heap.size HDr.out
    clear hv
    go_wp2_with fail
    refine hm.mono ?_
    rintro e w1 ⟨rfl, hb1⟩
    have HW1 := Zh (HW.out.trans (hb1.mono HSz.out))
    clear hb1 hm hc
    go_wp2
    go_roundg (8 - 6)
    case rel => exact ⟨6, rfl, rfl, Zh (fun i hi => by
     rcases Nat.lt_succ_iff_lt_or_eq.1 hi with h | rfl
     ·exact HM.out i h
     ·exact HN.out), HW1⟩
    case measure => omega
  ·have hc : wr.cell? ⟨w.heap.size + 1, 6, none⟩ = some (.func (.func 201) #[] #[.pointer (some ⟨w.heap.size, 0, none⟩)]) := HFr.out.cell 6
   cases hv : E.m7 x
   ·have HN : Hid (v = false) := Zh (by rw [<- HV.out]; exact E.fit_no (j := 6) (by decide) hv)
    have hm := zmb x false hv (HM.out 3 (by decide)) (HM.out 4 (by decide)) (HM.out 5 (by decide)) wr w.heap.size HDr.out
    clear hv
    go_wp2_with fail
    refine hm.mono ?_
    rintro e w1 ⟨rfl, hb1⟩
    go_wp2
    go_ret
    exact ⟨by rw [HN.out]; rfl, HBr.out.trans (hb1.mono HBr.out.size)⟩
   ·have HN : Hid (E.must x 6 = true) := Zh hv
    have hm := zmb x true hv (HM.out 3 (by decide)) (HM.out 4 (by decide)) (HM.out 5 (by decide)) wr w.heap.size HDr.out
    clear hv
    go_wp2_with fail
    refine hm.mono ?_
    rintro e w1 ⟨rfl, hb1⟩
    have HW1 := Zh (HW.out.trans (hb1.mono HSz.out))
    clear hb1 hm hc
    go_wp2
    go_roundg (8 - 7)
    case rel => exact ⟨7, rfl, rfl, Zh (fun i hi => by
     rcases Nat.lt_succ_iff_lt_or_eq.1 hi with h | rfl
     ·exact HM.out i h
     ·exact HN.out), HW1⟩
    case measure => omega
  ·have hc : wr.cell? ⟨w.heap.size + 1, 7, none⟩ = some (.func (.func 202) #[] #[.pointer (some ⟨w.heap.size, 0, none⟩)]) := HFr.out.cell 7
   cases hv : E.m8 x
   ·have HN : Hid (v = false) := Zh (by rw [<- HV.out]; exact E.fit_no (j := 7) (by decide) hv)
    have hm := zmc x false hv (HM.out 3 (by decide)) (HM.out 4 (by decide)) wr w.heap.size HDr.out
    clear hv
    go_wp2_with fail
    refine hm.mono ?_
    rintro e w1 ⟨rfl, hb1⟩
    go_wp2
    go_ret
    exact ⟨by rw [HN.out]; rfl, HBr.out.trans (hb1.mono HBr.out.size)⟩
   ·have HN : Hid (E.must x 7 = true) := Zh hv
    have hm := zmc x true hv (HM.out 3 (by decide)) (HM.out 4 (by decide)) wr w.heap.size HDr.out
    clear hv
    go_wp2_with fail
    refine hm.mono ?_
    rintro e w1 ⟨rfl, hb1⟩
    have HW1 := Zh (HW.out.trans (hb1.mono HSz.out))
    clear hb1 hm hc
    go_wp2
    go_roundg (8 - 8)
    case rel => exact ⟨8, rfl, rfl, Zh (fun i hi => by
     rcases Nat.lt_succ_iff_lt_or_eq.1 hi with h | rfl
     ·exact HM.out i h
     ·exact HN.out), HW1⟩
    case measure => omega
  ·have HN : Hid (v = true) := Zh (by rw [<- HV.out]; exact (E.fit_all x).2 HM.out)
   go_wp2
   go_ret
   exact ⟨by rw [HN.out]; rfl, HBr.out⟩
open Go.RowKit
def E.sh (x : E.D) : Int := x.hi - x.lo + 1 - x.dy
structure E.Fits (x : E.D) : Prop where
 ni : 1 <= E.ni x /\ E.ni x <= 32
 no : 1 <= E.no x /\ E.no x <= 4
 meet : A.meet x.b x.k x.c x.j = false
 lo : 1 <= x.lo /\ x.lo <= x.hi /\ x.hi <= 65535
 dy : 0 <= x.dy /\ x.dy < x.hi - x.lo + 1
 bl : 1 <= x.bl /\ x.bl <= 65535
 nb : x.dy / x.bl <= 8
 sh : E.ratio x <= E.sh x
theorem E.fits_iff {x : E.D} : E.fit x = true ↔ E.Fits x := by
 unfold E.fit E.m1 E.m2 E.m3 E.m4 E.m5 E.m6 E.m7 E.m8
 simp only [Bool.and_eq_true, decide_eq_true_eq, Bool.not_eq_true', A.may_size]
 constructor
 ·rintro ⟨⟨⟨⟨⟨⟨⟨h1, h2⟩, h3⟩, h4⟩, h5⟩, h6⟩, h7⟩, h8⟩
  exact ⟨⟨h1.1, h3.1⟩, ⟨h1.2, h3.2⟩, h2, h4, h5, h6, h7, h8⟩
 ·intro h
  exact ⟨⟨⟨⟨⟨⟨⟨⟨h.ni.1, h.no.1⟩, h.meet⟩, ⟨h.ni.2, h.no.2⟩⟩, h.lo⟩, h.dy⟩, h.bl⟩, h.nb⟩, h.sh⟩
def E.each (x : E.D) : Int := if E.fit x then E.sh x / E.ratio x else 0
def E.nb (x : E.D) : Int := if E.fit x then x.dy / x.bl else 0
theorem E.Fits.ratio {x : E.D} (h : E.Fits x) : 1 <= E.ratio x /\ E.ratio x <= 32 /\ E.ni x <= E.ratio x * E.no x /\ (E.ratio x - 1) * E.no x < E.ni x := by
 have h1 := h.ni
 have h2 := h.no
 have e : E.ratio x = (E.ni x + E.no x - 1) / E.no x := by unfold E.ratio; rw [if_neg (by omega)]
 rw [e]
 generalize E.ni x = p at *
 generalize E.no x = q at *
 have a1 := Int.mul_ediv_add_emod (p + q - 1) q
 have a2 := Int.emod_nonneg (p + q - 1) (show q ≠ 0 by omega)
 have a3 := Int.emod_lt_of_pos (p + q - 1) (show 0 < q by omega)
 generalize (p + q - 1) / q = r at *
 generalize (p + q - 1) % q = m at *
 obtain rfl | rfl | rfl | rfl : q = 1 \/ q = 2 \/ q = 3 \/ q = 4 := by omega
 all_goals omega
theorem E.Fits.each {x : E.D} (h : E.Fits x) : 1 <= E.each x /\ E.ratio x * E.each x <= E.sh x /\ E.sh x < E.ratio x * (E.each x + 1) /\ E.each x <= E.sh x /\ E.sh x <= 65535 /\ E.each x = E.sh x / E.ratio x := by
 have hr := h.ratio
 have hs := h.sh
 have hl := h.lo
 have hd := h.dy
 have e : E.each x = E.sh x / E.ratio x := by unfold E.each; rw [E.fits_iff.2 h, if_pos rfl]
 have hm : E.sh x <= 65535 := by unfold E.sh; omega
 have a1 := Int.mul_ediv_add_emod (E.sh x) (E.ratio x)
 have a2 := Int.emod_nonneg (E.sh x) (show E.ratio x ≠ 0 by omega)
 have a3 := Int.emod_lt_of_pos (E.sh x) (show 0 < E.ratio x by omega)
 have a4 : 1 <= E.sh x / E.ratio x := (Int.le_ediv_iff_mul_le (by omega)).2 (by omega)
 have a5 := Int.ediv_le_self (E.ratio x) (show 0 <= E.sh x by omega)
 rw [e]
 exact ⟨a4, by omega, by rw [Int.mul_add]; omega, a5, hm, rfl⟩
theorem E.Fits.nb' {x : E.D} (h : E.Fits x) : 0 <= E.nb x /\ E.nb x <= 8 /\ E.nb x * x.bl <= x.dy /\ x.dy < (E.nb x + 1) * x.bl /\ E.nb x = x.dy / x.bl := by
 have hb := h.bl
 have hd := h.dy
 have hn := h.nb
 have e : E.nb x = x.dy / x.bl := by unfold E.nb; rw [E.fits_iff.2 h, if_pos rfl]
 have a1 := Int.mul_ediv_add_emod x.dy x.bl
 have a2 := Int.emod_nonneg x.dy (show x.bl ≠ 0 by omega)
 have a3 := Int.emod_lt_of_pos x.dy (show 0 < x.bl by omega)
 have a4 := Int.ediv_nonneg hd.1 (show 0 <= x.bl by omega)
 rw [e]
 rw [Int.mul_comm] at a1
 exact ⟨a4, hn, by omega, by rw [Int.add_mul]; omega, rfl⟩
def E.baseB (x : E.D) (s : Int) : Bool := E.fit x && decide (0 <= s /\ s < E.ni x)
def E.baseA (x : E.D) (s : Int) : Int := if E.baseB x s then s / E.ratio x else 0
def E.baseF (x : E.D) (s : Int) : Int := if E.baseB x s then x.lo + s % E.ratio x * E.each x else 0
def E.baseT (x : E.D) (s : Int) : Int := if E.baseB x s then E.baseF x s + E.each x - 1 else 0
def E.blkB (x : E.D) (a i : Int) : Bool := decide (0 <= a /\ a < E.no x) && decide (0 <= i /\ i < E.nb x)
def E.blkA (x : E.D) (a i : Int) : Int := if E.blkB x a i then a else 0
def E.blkF (x : E.D) (a i : Int) : Int := if E.blkB x a i then x.hi - x.dy + 1 + i * x.bl else 0
def E.blkT (x : E.D) (a i : Int) : Int := if E.blkB x a i then E.blkF x a i + x.bl - 1 else 0
theorem E.baseB_iff {x : E.D} {s : Int} : E.baseB x s = true ↔ E.Fits x /\ 0 <= s /\ s < E.ni x := by
 unfold E.baseB; rw [Bool.and_eq_true, E.fits_iff, decide_eq_true_iff]
theorem E.nb_pos {x : E.D} {i : Int} (h : 0 <= i /\ i < E.nb x) : E.Fits x := by
 rw [<- E.fits_iff]
 cases hf : E.fit x
 ·unfold E.nb at h; rw [hf] at h; simp at h; omega
 ·rfl
theorem E.blkB_iff {x : E.D} {a i : Int} : E.blkB x a i = true ↔ E.Fits x /\ (0 <= a /\ a < E.no x) /\ (0 <= i /\ i < E.nb x) := by
 unfold E.blkB; rw [Bool.and_eq_true, decide_eq_true_iff, decide_eq_true_iff]
 exact ⟨fun h => ⟨E.nb_pos h.2, h.1, h.2⟩, fun h => h.2⟩
theorem E.base_in {x : E.D} {s : Int} (h : E.baseB x s = true) : E.Fits x /\ (0 <= s /\ s < E.ni x) /\ E.baseA x s = s / E.ratio x /\ E.baseF x s = x.lo + s % E.ratio x * E.each x /\ E.baseT x s = E.baseF x s + E.each x - 1 /\
  (0 <= E.baseA x s /\ E.baseA x s < E.no x) /\ x.lo <= E.baseF x s /\ E.baseF x s <= E.baseT x s /\ E.baseT x s <= x.hi - x.dy /\ E.baseA x s * E.ratio x <= s /\ s < (E.baseA x s + 1) * E.ratio x /\
  (0 <= s % E.ratio x /\ s % E.ratio x < E.ratio x /\ 0 <= s % E.ratio x * E.each x) := by
 obtain ⟨hf, hs⟩ := E.baseB_iff.1 h
 have e1 : E.baseA x s = s / E.ratio x := by unfold E.baseA; rw [h, if_pos rfl]
 have e2 : E.baseF x s = x.lo + s % E.ratio x * E.each x := by unfold E.baseF; rw [h, if_pos rfl]
 have e3 : E.baseT x s = E.baseF x s + E.each x - 1 := by unfold E.baseT; rw [h, if_pos rfl]
 have hr := hf.ratio
 have he := hf.each
 have a1 := Int.mul_ediv_add_emod s (E.ratio x)
 have a2 := Int.emod_nonneg s (show E.ratio x ≠ 0 by omega)
 have a3 := Int.emod_lt_of_pos s (show 0 < E.ratio x by omega)
 have a4 := Int.ediv_nonneg hs.1 (show 0 <= E.ratio x by omega)
 have a5 : s / E.ratio x < E.no x := Int.ediv_lt_of_lt_mul (by omega) (by rw [Int.mul_comm]; omega)
 have a6 : 0 <= s % E.ratio x * E.each x := Int.mul_nonneg a2 (by omega)
 have a7 : s % E.ratio x * E.each x <= (E.ratio x - 1) * E.each x := Int.mul_le_mul_of_nonneg_right (by omega) (by omega)
 rw [Int.sub_mul, Int.one_mul] at a7
 have hsh : E.sh x = x.hi - x.lo + 1 - x.dy := rfl
 refine ⟨hf, hs, e1, e2, e3, by rw [e1]; exact ⟨a4, a5⟩, by omega, by omega, by omega, ?_, ?_, a2, a3, a6⟩
 ·rw [e1, Int.mul_comm]; omega
 ·rw [e1, Int.add_mul, Int.one_mul, Int.mul_comm]; omega
theorem E.blk_in {x : E.D} {a i : Int} (h : E.blkB x a i = true) : E.Fits x /\ (0 <= a /\ a < E.no x) /\ (0 <= i /\ i < E.nb x) /\ E.blkA x a i = a /\ E.blkF x a i = x.hi - x.dy + 1 + i * x.bl /\ E.blkT x a i = E.blkF x a i + x.bl - 1 /\
  x.hi - x.dy < E.blkF x a i /\ E.blkF x a i <= E.blkT x a i /\ E.blkT x a i <= x.hi /\ 0 <= i * x.bl := by
 obtain ⟨hf, ha, hi⟩ := E.blkB_iff.1 h
 have e1 : E.blkA x a i = a := by unfold E.blkA; rw [h, if_pos rfl]
 have e2 : E.blkF x a i = x.hi - x.dy + 1 + i * x.bl := by unfold E.blkF; rw [h, if_pos rfl]
 have e3 : E.blkT x a i = E.blkF x a i + x.bl - 1 := by unfold E.blkT; rw [h, if_pos rfl]
 have hn := hf.nb'
 have hb := hf.bl
 have a1 : 0 <= i * x.bl := Int.mul_nonneg hi.1 (by omega)
 have a2 : i * x.bl <= (E.nb x - 1) * x.bl := Int.mul_le_mul_of_nonneg_right (by omega) (by omega)
 rw [Int.sub_mul, Int.one_mul] at a2
 exact ⟨hf, ha, hi, e1, e2, e3, by omega, by omega, by omega, a1⟩
open Go.RowKit
theorem E.Fits.sh_of {x : E.D} (h : E.Fits x) : IntKind.i64.wrap (x.hi - x.lo) = x.hi - x.lo /\ IntKind.i64.wrap (x.hi - x.lo + 1) = x.hi - x.lo + 1 /\ IntKind.i64.wrap (x.hi - x.lo + 1 - x.dy) = E.sh x := by
 have h1 := h.lo
 have h2 := h.dy
 exact ⟨IntWalk.i64_in _ (by omega), IntWalk.i64_in _ (by omega), IntWalk.i64_in _ (by omega)⟩
theorem zgb {x : E.D} (h : E.Fits x) (n : Int) (w : World) (hn : E.sh x = n) : Calls Tryz.prog 203 #[.agg #[.int .i64 x.b, .int .i64 x.k, .int .i64 x.c, .int .i64 x.j, .int .i64 x.lo, .int .i64 x.hi, .int .i64 x.dy, .int .i64 x.bl]] w fun e w' => e = .returned (.int .i64 n) /\ Below w.heap.size w w' := by
 obtain ⟨h1, h2, h3⟩ := h.sh_of
 rw [hn] at h3
 exact zek x _ _ _ w h1 h2 h3
theorem zj1 (x : E.D) (n : Int) (w : World) (h : E.each x = n) (hb : x.b <= 9223372036854775807) (hc : x.c <= 9223372036854775807) :
  Calls Tryz.prog 294 #[.agg #[.int .i64 x.b, .int .i64 x.k, .int .i64 x.c, .int .i64 x.j, .int .i64 x.lo, .int .i64 x.hi, .int .i64 x.dy, .int .i64 x.bl]] w fun e w' => e = .returned (.int .i64 n) /\ Below w.heap.size w w' := by
 have HR := Zh h
 have HB := Zh (zaq w x)
 have HK := Zh (zau w x)
 clear h
 cases hf : E.fit x
 ·have HN : Hid (n = 0) := Zh (by rw [<- HR.out]; unfold E.each; rw [hf]; rfl)
  have hm := za6 x false (ebox w x) hf hb hc
  clear hf
  go_enter Tryz.func294, Tryz.ntmps294
  go_wp2_with fail
  refine hm.mono ?_
  rintro e w1 ⟨rfl, hb1⟩
  go_wp2
  go_ret
  exact ⟨by rw [HN.out]; rfl, HB.out.trans (hb1.mono HB.out.size)⟩
 ·have hF := E.fits_iff.1 hf
  have hr := hF.ratio
  have he := hF.each
  obtain ⟨s, hs⟩ : ∃ s, E.sh x = s := ⟨_, rfl⟩
  obtain ⟨r, hrr⟩ : ∃ r, E.ratio x = r := ⟨_, rfl⟩
  rw [HR.out, hs, hrr] at he
  rw [hrr] at hr
  have a1 : ¬ r = 0 := by omega
  have a2 : Int.tdiv s r = n := by rw [Int.tdiv_eq_ediv_of_nonneg (by omega)]; exact he.2.2.2.2.2.symm
  have a3 : IntKind.i64.wrap n = n := IntWalk.i64_in _ (by omega)
  have hp := fun W => zgb hF s W hs
  have hq := fun W => zdj x r W hrr
  have hm := za6 x true (ebox w x) hf hb hc
  clear hf hF hr he hs hrr
  go_enter Tryz.func294, Tryz.ntmps294
  go_wp2_with fail
  refine hm.mono ?_
  rintro e w1 ⟨rfl, hb1⟩
  have k0 := e0 (HK.out.below hb1 HK.out.lt)
  have k1 := e1 (HK.out.below hb1 HK.out.lt)
  have k2 := e2 (HK.out.below hb1 HK.out.lt)
  have k3 := e3 (HK.out.below hb1 HK.out.lt)
  have k4 := e4 (HK.out.below hb1 HK.out.lt)
  have k5 := e5 (HK.out.below hb1 HK.out.lt)
  have k6 := e6 (HK.out.below hb1 HK.out.lt)
  have k7 := e7 (HK.out.below hb1 HK.out.lt)
  have c0 := ce0 (w := w1) (HK.out.below hb1 HK.out.lt)
  have c1 := ce1 (w := w1) (HK.out.below hb1 HK.out.lt)
  have c2 := ce2 (w := w1) (HK.out.below hb1 HK.out.lt)
  have c3 := ce3 (w := w1) (HK.out.below hb1 HK.out.lt)
  have c4 := ce4 (w := w1) (HK.out.below hb1 HK.out.lt)
  have c5 := ce5 (w := w1) (HK.out.below hb1 HK.out.lt)
  have c6 := ce6 (w := w1) (HK.out.below hb1 HK.out.lt)
  have c7 := ce7 (w := w1) (HK.out.below hb1 HK.out.lt)
  have HB1 := Zt HB hb1
  clear hb1 hm
  go_wp2_with fail
  refine wp_region_quiet_below (by kernel_rfl) (by kernel_rfl) ?_
  repeat (go_big_quiet_step (first | exact Calls.regrown_of (hp _) | exact Calls.regrown_of (hq _)))
  refine wpQuiet_nil ?_
  intro _ hw'
  obtain ⟨⟨dq, osq⟩, hw''⟩ := hw'
  subst hw''
  go_wp2
  go_ret
  exact ⟨rfl, HB1.out.trans ((below_regrown _ dq osq).mono HB1.out.size)⟩
theorem zem (x : E.D) (n : Int) (w : World) (h : E.nb x = n) (hb : x.b <= 9223372036854775807) (hc : x.c <= 9223372036854775807) :
  Calls Tryz.prog 297 #[.agg #[.int .i64 x.b, .int .i64 x.k, .int .i64 x.c, .int .i64 x.j, .int .i64 x.lo, .int .i64 x.hi, .int .i64 x.dy, .int .i64 x.bl]] w fun e w' => e = .returned (.int .i64 n) /\ Below w.heap.size w w' := by
 have HR := Zh h
 have HB := Zh (zaq w x)
 have HK := Zh (zau w x)
 clear h
 cases hf : E.fit x
 ·have HN : Hid (n = 0) := Zh (by rw [<- HR.out]; unfold E.nb; rw [hf]; rfl)
  have hm := za6 x false (ebox w x) hf hb hc
  clear hf
  go_enter Tryz.func297, Tryz.ntmps297
  go_wp2_with fail
  refine hm.mono ?_
  rintro e w1 ⟨rfl, hb1⟩
  go_wp2
  go_ret
  exact ⟨by rw [HN.out]; rfl, HB.out.trans (hb1.mono HB.out.size)⟩
 ·have hF := E.fits_iff.1 hf
  have he := hF.nb'
  have hd := hF.dy
  have hbl := hF.bl
  rw [HR.out] at he
  have a1 : ¬ x.bl = 0 := by omega
  have a2 : Int.tdiv x.dy x.bl = n := by rw [Int.tdiv_eq_ediv_of_nonneg hd.1]; exact he.2.2.2.2.symm
  have a3 : IntKind.i64.wrap n = n := IntWalk.i64_in _ (by omega)
  have hm := za6 x true (ebox w x) hf hb hc
  clear hf hF hd he hbl
  go_enter Tryz.func297, Tryz.ntmps297
  go_wp2_with fail
  refine hm.mono ?_
  rintro e w1 ⟨rfl, hb1⟩
  have k0 := e0 (HK.out.below hb1 HK.out.lt)
  have k1 := e1 (HK.out.below hb1 HK.out.lt)
  have k2 := e2 (HK.out.below hb1 HK.out.lt)
  have k3 := e3 (HK.out.below hb1 HK.out.lt)
  have k4 := e4 (HK.out.below hb1 HK.out.lt)
  have k5 := e5 (HK.out.below hb1 HK.out.lt)
  have k6 := e6 (HK.out.below hb1 HK.out.lt)
  have k7 := e7 (HK.out.below hb1 HK.out.lt)
  have HB1 := Zt HB hb1
  clear hb1 hm
  go_wp2
  go_ret
  exact ⟨rfl, HB1.out⟩
def zcy (w : World) (x : E.D) : World := sbox (ebox w x) 0 0 0
theorem zdk (w : World) (x : E.D) : Below w.heap.size w (zcy w x) := (zaq w x).trans ((zej _ 0 0 0).mono (zaq w x).size)
theorem zh4 (w : World) (x : E.D) : Blok (zcy w x) w.heap.size 30 #[.int .i64 x.b, .int .i64 x.k, .int .i64 x.c, .int .i64 x.j, .int .i64 x.lo, .int .i64 x.hi, .int .i64 x.dy, .int .i64 x.bl] := (zau w x).alloc _
theorem zh5 (w : World) (x : E.D) : Blok (zcy w x) (w.heap.size + 1) 246 #[.int .i64 0, .int .i64 0, .int .i64 0] := by
 have := ze7 (ebox w x) 0 0 0
 rwa [zcm] at this
theorem zbt {w W : World} (g : Nat) (hg : w.heap.size <= g) {u v z : Value} (hk : Blok W g 246 #[u, v, z]) (hB : Below w.heap.size w W) (a f t : Int) :
  Blok (((W.setCell ⟨g, 0, none⟩ (.int .i64 a)).setCell ⟨g, 1, none⟩ (.int .i64 f)).setCell ⟨g, 2, none⟩ (.int .i64 t)) g 246 #[.int .i64 a, .int .i64 f, .int .i64 t] /\
  Below w.heap.size w (((W.setCell ⟨g, 0, none⟩ (.int .i64 a)).setCell ⟨g, 1, none⟩ (.int .i64 f)).setCell ⟨g, 2, none⟩ (.int .i64 t)) := by
 refine ⟨?_, ((hB.setCell (p := ⟨g, 0, none⟩) hg _).setCell (p := ⟨g, 1, none⟩) hg _).setCell (p := ⟨g, 2, none⟩) hg _⟩
 have := ((hk.set 0 (.int .i64 a)).set 1 (.int .i64 f)).set 2 (.int .i64 t)
 simpa using this
theorem zcb (x : E.D) (s a f t : Int) (v : Bool) (w : World) (hv : E.baseB x s = v) (ha : E.baseA x s = a) (hf : E.baseF x s = f) (ht : E.baseT x s = t) (hb : x.b <= 9223372036854775807) (hc : x.c <= 9223372036854775807) :
  Calls Tryz.prog 256 #[.agg #[.int .i64 x.b, .int .i64 x.k, .int .i64 x.c, .int .i64 x.j, .int .i64 x.lo, .int .i64 x.hi, .int .i64 x.dy, .int .i64 x.bl], .int .i64 s] w fun e w' => e = .returned (.tuple #[.agg #[.int .i64 a, .int .i64 f, .int .i64 t], .bool v]) /\ Below w.heap.size w w' := by
 have HB := Zh (zdk w x)
 have HK := Zh (zh4 w x)
 have HS := Zh (zh5 w x)
 cases hd : E.baseB x s
 ·have HN : Hid (v = false /\ a = 0 /\ f = 0 /\ t = 0) := Zh ⟨by rw [<- hv, hd], by rw [<- ha]; unfold E.baseA; rw [hd]; rfl, by rw [<- hf]; unfold E.baseF; rw [hd]; rfl, by rw [<- ht]; unfold E.baseT; rw [hd]; rfl⟩
  clear hv ha hf ht
  cases hfit : E.fit x
  ·have hm := za6 x false (zcy w x) hfit hb hc
   clear hfit hd
   go_enter Tryz.func256, Tryz.ntmps256
   go_wp2_with fail
   refine hm.mono ?_
   rintro e w1 ⟨rfl, hb1⟩
   have hs := HS.out.below hb1 HS.out.lt
   have f0 := hs.frozen 0
   have f1 := hs.frozen 1
   have f2 := hs.frozen 2
   have c0 := s0 hs
   have c1 := s1 hs
   have c2 := s2 hs
   have HFP := Zh (zbt (w := w) (w.heap.size + 1) (by omega) hs (HB.out.trans (hb1.mono HB.out.size)) 0 0 0)
   clear hb1
   go_wp2
   refine bodyPost_ret (zbc rfl (w.heap.size + 1) 0 0 0 (by kernel_rfl) rfl HFP.out.1) rfl ?_
   exact ⟨by rw [HN.out.1, HN.out.2.1, HN.out.2.2.1, HN.out.2.2.2]; rfl, HFP.out.2⟩
  ·have hm := za6 x true (zcy w x) hfit hb hc
   have hF := E.fits_iff.1 hfit
   obtain ⟨p, hp⟩ : ∃ p, E.ni x = p := ⟨_, rfl⟩
   have hsub := fun W => zbd x p W hp
   by_cases s0' : s < 0
   ·have d0 : decide (s < 0) = true := decide_eq_true s0'
    clear hfit hd hF hp
    go_enter Tryz.func256, Tryz.ntmps256
    go_wp2_with fail
    refine hm.mono ?_
    rintro e w1 ⟨rfl, hb1⟩
    have hs := HS.out.below hb1 HS.out.lt
    have f0 := hs.frozen 0
    have f1 := hs.frozen 1
    have f2 := hs.frozen 2
    have c0 := s0 hs
    have c1 := s1 hs
    have c2 := s2 hs
    have HFP := Zh (zbt (w := w) (w.heap.size + 1) (by omega) hs (HB.out.trans (hb1.mono HB.out.size)) 0 0 0)
    clear hb1
    go_wp2
    refine bodyPost_ret (zbc rfl (w.heap.size + 1) 0 0 0 (by kernel_rfl) rfl HFP.out.1) rfl ?_
    exact ⟨by rw [HN.out.1, HN.out.2.1, HN.out.2.2.1, HN.out.2.2.2]; rfl, HFP.out.2⟩
   ·have d0 : decide (s < 0) = false := decide_eq_false s0'
    have hps : p <= s := by
     rw [<- hp]
     refine Int.not_lt.1 fun h => ?_
     rw [E.baseB_iff.2 ⟨hF, by omega, h⟩] at hd
     cases hd
    have d1 : decide (p <= s) = true := decide_eq_true hps
    clear hfit hd hF hp hps
    go_enter Tryz.func256, Tryz.ntmps256
    go_wp2_with fail
    refine hm.mono ?_
    rintro e w1 ⟨rfl, hb1⟩
    have k0 := e0 (HK.out.below hb1 HK.out.lt)
    have k1 := e1 (HK.out.below hb1 HK.out.lt)
    have k2 := e2 (HK.out.below hb1 HK.out.lt)
    have k3 := e3 (HK.out.below hb1 HK.out.lt)
    have k4 := e4 (HK.out.below hb1 HK.out.lt)
    have k5 := e5 (HK.out.below hb1 HK.out.lt)
    have k6 := e6 (HK.out.below hb1 HK.out.lt)
    have k7 := e7 (HK.out.below hb1 HK.out.lt)
    have HB1 := Zt HB hb1
    have HS1 := Zh (HS.out.below hb1 HS.out.lt)
    clear hb1 hm
    go_wp2_with fail
    refine (hsub w1).mono ?_
    clear k0 k1 k2 k3 k4 k5 k6 k7
    rintro e w2 ⟨rfl, hb2⟩
    have hs := HS1.out.below hb2 HS1.out.lt
    have f0 := hs.frozen 0
    have f1 := hs.frozen 1
    have f2 := hs.frozen 2
    have c0 := s0 hs
    have c1 := s1 hs
    have c2 := s2 hs
    have HFP := Zh (zbt (w := w) (w.heap.size + 1) (by omega) hs (HB1.out.trans (hb2.mono HB1.out.size)) 0 0 0)
    clear hb2
    go_wp2
    refine bodyPost_ret (zbc rfl (w.heap.size + 1) 0 0 0 (by kernel_rfl) rfl HFP.out.1) rfl ?_
    exact ⟨by rw [HN.out.1, HN.out.2.1, HN.out.2.2.1, HN.out.2.2.2]; rfl, HFP.out.2⟩
 ·obtain ⟨hF, hs0, e1, e2, e3, hbA, hb4, hb5, hb6, -, -, a2, a3, a4⟩ := E.base_in hd
  have hfit := E.fits_iff.2 hF
  have hl := hF.lo
  have hdy := hF.dy
  have hn := hF.ni
  have hno := hF.no
  have hrr := hF.ratio
  have hee := hF.each
  obtain ⟨p, hp⟩ : ∃ p, E.ni x = p := ⟨_, rfl⟩
  obtain ⟨r, hr⟩ : ∃ r, E.ratio x = r := ⟨_, rfl⟩
  obtain ⟨n, hen⟩ : ∃ n, E.each x = n := ⟨_, rfl⟩
  obtain ⟨m, hmm⟩ : ∃ m, s % r = m := ⟨_, rfl⟩
  obtain ⟨y, hy⟩ : ∃ y, m * n = y := ⟨_, rfl⟩
  rw [hr, hen, hmm, hy] at a4
  rw [ha] at e1 hbA
  rw [hf] at e2 e3 hb4 hb5
  rw [ht] at e3 hb5 hb6
  rw [hr] at e1 hrr a2 a3
  rw [hr, hmm, hen, hy] at e2
  rw [hmm] at a2 a3
  rw [hen] at e3 hee
  rw [hp] at hs0 hn
  have w0 : ¬ r = 0 := by omega
  have w1' : Int.tdiv s r = a := by rw [Int.tdiv_eq_ediv_of_nonneg hs0.1]; exact e1.symm
  have w2' : IntKind.i64.wrap a = a := IntWalk.i64_in _ (by omega)
  have w3' : Int.tmod s r = m := by rw [Int.tmod_eq_emod_of_nonneg hs0.1]; exact hmm
  have w4' : IntKind.i64.wrap m = m := IntWalk.i64_in _ (by omega)
  have w5' : IntKind.i64.wrap (m * n) = y := by rw [hy]; exact IntWalk.i64_in _ (by omega)
  have w6' : IntKind.i64.wrap (x.lo + y) = f := by rw [<- e2]; exact IntWalk.i64_in _ (by omega)
  have hspan := fun W => zgr a f n (f + n) t W (IntWalk.i64_in _ (by omega)) (by rw [e3]; exact IntWalk.i64_in _ (by omega))
  have HN : Hid (v = true) := Zh (by rw [<- hv, hd])
  have d0 : decide (s < 0) = false := decide_eq_false (by omega)
  have d1 : decide (p <= s) = false := decide_eq_false (by omega)
  have hm := za6 x true (zcy w x) hfit hb hc
  have hsub := fun W => zbd x p W hp
  have hrat := fun W => zdj x r W hr
  have heach := fun W => zj1 x n W hen hb hc
  clear hv ha hf ht hd hF hs0 e1 e2 e3 hbA hb4 hb5 hb6 a2 a3 a4 hfit hl hdy hn hno hrr hee hp hr hen hmm hy
  go_enter Tryz.func256, Tryz.ntmps256
  go_wp2_with fail
  refine hm.mono ?_
  rintro e w1 ⟨rfl, hb1⟩
  have k0 := e0 (HK.out.below hb1 HK.out.lt)
  have k1 := e1 (HK.out.below hb1 HK.out.lt)
  have k2 := e2 (HK.out.below hb1 HK.out.lt)
  have k3 := e3 (HK.out.below hb1 HK.out.lt)
  have k4 := e4 (HK.out.below hb1 HK.out.lt)
  have k5 := e5 (HK.out.below hb1 HK.out.lt)
  have k6 := e6 (HK.out.below hb1 HK.out.lt)
  have k7 := e7 (HK.out.below hb1 HK.out.lt)
  have HB1 := Zt HB hb1
  have HS1 := Zh (HS.out.below hb1 HS.out.lt)
  have HK1 := Zh (HK.out.below hb1 HK.out.lt)
  clear hb1 hm
  go_wp2_with fail
  refine (hsub w1).mono ?_
  clear k0 k1 k2 k3 k4 k5 k6 k7
  rintro e w2 ⟨rfl, hb2⟩
  have k0 := e0 (HK1.out.below hb2 HK1.out.lt)
  have k1 := e1 (HK1.out.below hb2 HK1.out.lt)
  have k2 := e2 (HK1.out.below hb2 HK1.out.lt)
  have k3 := e3 (HK1.out.below hb2 HK1.out.lt)
  have k4 := e4 (HK1.out.below hb2 HK1.out.lt)
  have k5 := e5 (HK1.out.below hb2 HK1.out.lt)
  have k6 := e6 (HK1.out.below hb2 HK1.out.lt)
  have k7 := e7 (HK1.out.below hb2 HK1.out.lt)
  have c0 := ce0 (w := w2) (HK1.out.below hb2 HK1.out.lt)
  have c1 := ce1 (w := w2) (HK1.out.below hb2 HK1.out.lt)
  have c2 := ce2 (w := w2) (HK1.out.below hb2 HK1.out.lt)
  have c3 := ce3 (w := w2) (HK1.out.below hb2 HK1.out.lt)
  have c4 := ce4 (w := w2) (HK1.out.below hb2 HK1.out.lt)
  have c5 := ce5 (w := w2) (HK1.out.below hb2 HK1.out.lt)
  have c6 := ce6 (w := w2) (HK1.out.below hb2 HK1.out.lt)
  have c7 := ce7 (w := w2) (HK1.out.below hb2 HK1.out.lt)
  have HB2 := Zt HB1 hb2
  have HS2 := Zh (HS1.out.below hb2 HS1.out.lt)
  have HK2 := Zh (HK1.out.below hb2 HK1.out.lt)
  clear hb2 hsub
  go_wp2_with fail
  refine wp_region_quiet_below (by kernel_rfl) (by kernel_rfl) ?_
  repeat (go_big_quiet_step (first | exact Calls.regrown_of (hrat _) | exact Calls.regrown_of (heach _)))
  refine wpQuiet_nil ?_
  intro _ hw'
  obtain ⟨⟨dq, osq⟩, hw''⟩ := hw'
  subst hw''
  clear k0 k1 k2 k3 k4 k5 k6 k7
  clear c0 c1 c2 c3 c4 c5 c6 c7
  obtain ⟨w3, hw3⟩ : ∃ w3, Go.Sort.grow (redrawn w2 dq) osq = w3 := ⟨_, rfl⟩
  have hb3 : Below w2.heap.size w2 w3 := by rw [<- hw3]; exact below_regrown _ _ _
  rw [hw3]
  clear hw3
  have HS3 := Zh (HS2.out.below hb3 HS2.out.lt)
  have k0 := e0 (HK2.out.below hb3 HK2.out.lt)
  have k1 := e1 (HK2.out.below hb3 HK2.out.lt)
  have k2 := e2 (HK2.out.below hb3 HK2.out.lt)
  have k3 := e3 (HK2.out.below hb3 HK2.out.lt)
  have k4 := e4 (HK2.out.below hb3 HK2.out.lt)
  have k5 := e5 (HK2.out.below hb3 HK2.out.lt)
  have k6 := e6 (HK2.out.below hb3 HK2.out.lt)
  have k7 := e7 (HK2.out.below hb3 HK2.out.lt)
  have HB3 := Zt HB2 hb3
  have HS3 := Zh (HS2.out.below hb3 HS2.out.lt)
  clear hb3
  go_wp2_with fail
  go_region_with (go_at_call 295; refine (hspan _).mono ?_; rintro e w5 ⟨rfl, hb5⟩; have hs := HS3.out.drew.below hb5 HS3.out.lt; have f0 := hs.frozen 0; have f1 := hs.frozen 1; have f2 := hs.frozen 2; have c0 := s0 hs; have c1 := s1 hs; have c2 := s2 hs; have HFP := Zh (zbt (w := w) (w.heap.size + 1) (by omega) hs (HB3.out.trans ((zaa w3).trans (hb5.mono (Nat.le_refl _)) |>.mono HB3.out.size)) a f t); clear hb5 hs)
  go_wp2
  refine bodyPost_ret (zbc rfl (w.heap.size + 1) a f t (by kernel_rfl) rfl HFP.out.1) rfl ?_
  exact ⟨by rw [HN.out]; rfl, HFP.out.2⟩
open Go.RowKit
theorem zh6 (x : E.D) (at' i a f t : Int) (v : Bool) (w : World) (hv : E.blkB x at' i = v) (ha : E.blkA x at' i = a) (hf : E.blkF x at' i = f) (ht : E.blkT x at' i = t) (hb : x.b <= 9223372036854775807) (hc : x.c <= 9223372036854775807) :
  Calls Tryz.prog 259 #[.agg #[.int .i64 x.b, .int .i64 x.k, .int .i64 x.c, .int .i64 x.j, .int .i64 x.lo, .int .i64 x.hi, .int .i64 x.dy, .int .i64 x.bl], .int .i64 at', .int .i64 i] w fun e w' => e = .returned (.tuple #[.agg #[.int .i64 a, .int .i64 f, .int .i64 t], .bool v]) /\ Below w.heap.size w w' := by
 have HB := Zh (zdk w x)
 have HK := Zh (zh4 w x)
 have HS := Zh (zh5 w x)
 obtain ⟨q, hq⟩ : ∃ q, E.no x = q := ⟨_, rfl⟩
 obtain ⟨n, hn⟩ : ∃ n, E.nb x = n := ⟨_, rfl⟩
 have hpub := fun W => zcf x q W hq
 have hblk := fun W => zem x n W hn hb hc
 cases hd : E.blkB x at' i
 ·have HN : Hid (v = false /\ a = 0 /\ f = 0 /\ t = 0) := Zh ⟨by rw [<- hv, hd], by rw [<- ha]; unfold E.blkA; rw [hd]; rfl, by rw [<- hf]; unfold E.blkF; rw [hd]; rfl, by rw [<- ht]; unfold E.blkT; rw [hd]; rfl⟩
  clear hv ha hf ht
  have hall : ¬ ((0 <= at' /\ at' < q) /\ (0 <= i /\ i < n)) := fun h => by
   unfold E.blkB at hd
   rw [hq, hn, decide_eq_true h.1, decide_eq_true h.2] at hd
   cases hd
  clear hd hq hn
  by_cases s0' : at' < 0
  ·have d0 : decide (at' < 0) = true := decide_eq_true s0'
   clear hall hpub hblk
   have hb1 := Below.refl (zcy w x).heap.size (zcy w x)
   have hs := HS.out
   have f0 : (zcy w x).frozen? ⟨w.heap.size + 1, 0, none⟩ = false := hs.frozen 0
   go_enter Tryz.func259, Tryz.ntmps259
   go_wp2
   refine bodyPost_ret (zbc rfl (w.heap.size + 1) 0 0 0 (by kernel_rfl) rfl HS.out) rfl ?_
   exact ⟨by rw [HN.out.1, HN.out.2.1, HN.out.2.2.1, HN.out.2.2.2]; rfl, HB.out⟩
  ·have d0 : decide (at' < 0) = false := decide_eq_false s0'
   by_cases s1' : q <= at'
   ·have d1 : decide (q <= at') = true := decide_eq_true s1'
    clear hall hblk
    go_enter Tryz.func259, Tryz.ntmps259
    go_wp2_with fail
    refine (hpub (zcy w x)).mono ?_
    rintro e w1 ⟨rfl, hb1⟩
    have hs := HS.out.below hb1 HS.out.lt
    have f0 := hs.frozen 0
    have f1 := hs.frozen 1
    have f2 := hs.frozen 2
    have c0 := s0 hs
    have c1 := s1 hs
    have c2 := s2 hs
    have HFP := Zh (zbt (w := w) (w.heap.size + 1) (by omega) hs (HB.out.trans (hb1.mono HB.out.size)) 0 0 0)
    clear hb1
    go_wp2
    refine bodyPost_ret (zbc rfl (w.heap.size + 1) 0 0 0 (by kernel_rfl) rfl HFP.out.1) rfl ?_
    exact ⟨by rw [HN.out.1, HN.out.2.1, HN.out.2.2.1, HN.out.2.2.2]; rfl, HFP.out.2⟩
   ·have d1 : decide (q <= at') = false := decide_eq_false s1'
    by_cases s2' : i < 0
    ·have d2 : decide (i < 0) = true := decide_eq_true s2'
     clear hall hblk
     go_enter Tryz.func259, Tryz.ntmps259
     go_wp2_with fail
     refine (hpub (zcy w x)).mono ?_
     rintro e w1 ⟨rfl, hb1⟩
     have hs := HS.out.below hb1 HS.out.lt
     have f0 := hs.frozen 0
     have f1 := hs.frozen 1
     have f2 := hs.frozen 2
     have c0 := s0 hs
     have c1 := s1 hs
     have c2 := s2 hs
     have HFP := Zh (zbt (w := w) (w.heap.size + 1) (by omega) hs (HB.out.trans (hb1.mono HB.out.size)) 0 0 0)
     clear hb1
     go_wp2
     refine bodyPost_ret (zbc rfl (w.heap.size + 1) 0 0 0 (by kernel_rfl) rfl HFP.out.1) rfl ?_
     exact ⟨by rw [HN.out.1, HN.out.2.1, HN.out.2.2.1, HN.out.2.2.2]; rfl, HFP.out.2⟩
    ·have d2 : decide (i < 0) = false := decide_eq_false s2'
     have d3 : decide (n <= i) = true := decide_eq_true (by omega)
     clear hall
     go_enter Tryz.func259, Tryz.ntmps259
     go_wp2_with fail
     refine (hpub (zcy w x)).mono ?_
     rintro e w1 ⟨rfl, hb1⟩
     have k0 := e0 (HK.out.below hb1 HK.out.lt)
     have k1 := e1 (HK.out.below hb1 HK.out.lt)
     have k2 := e2 (HK.out.below hb1 HK.out.lt)
     have k3 := e3 (HK.out.below hb1 HK.out.lt)
     have k4 := e4 (HK.out.below hb1 HK.out.lt)
     have k5 := e5 (HK.out.below hb1 HK.out.lt)
     have k6 := e6 (HK.out.below hb1 HK.out.lt)
     have k7 := e7 (HK.out.below hb1 HK.out.lt)
     have HB1 := Zt HB hb1
     have HS1 := Zh (HS.out.below hb1 HS.out.lt)
     clear hb1 hpub
     go_wp2_with fail
     refine (hblk w1).mono ?_
     clear k0 k1 k2 k3 k4 k5 k6 k7
     rintro e w2 ⟨rfl, hb2⟩
     have hs := HS1.out.below hb2 HS1.out.lt
     have f0 := hs.frozen 0
     have f1 := hs.frozen 1
     have f2 := hs.frozen 2
     have c0 := s0 hs
     have c1 := s1 hs
     have c2 := s2 hs
     have HFP := Zh (zbt (w := w) (w.heap.size + 1) (by omega) hs (HB1.out.trans (hb2.mono HB1.out.size)) 0 0 0)
     clear hb2
     go_wp2
     refine bodyPost_ret (zbc rfl (w.heap.size + 1) 0 0 0 (by kernel_rfl) rfl HFP.out.1) rfl ?_
     exact ⟨by rw [HN.out.1, HN.out.2.1, HN.out.2.2.1, HN.out.2.2.2]; rfl, HFP.out.2⟩
 ·obtain ⟨hF, h1, h2, e1, e2, e3, hb4, hb5, hb6, a4⟩ := E.blk_in hd
  have hl := hF.lo
  have hdy := hF.dy
  have hbl := hF.bl
  obtain ⟨y, hy⟩ : ∃ y, i * x.bl = y := ⟨_, rfl⟩
  obtain ⟨fb, hfb⟩ : ∃ fb, x.hi - x.dy + 1 = fb := ⟨_, rfl⟩
  rw [hy] at a4
  rw [ha] at e1
  rw [hf] at e2 e3 hb4 hb5
  rw [ht] at e3 hb5 hb6
  rw [hy, hfb] at e2
  rw [hq] at h1
  rw [hn] at h2
  obtain rfl : a = at' := e1
  have w5' : IntKind.i64.wrap (i * x.bl) = y := by rw [hy]; exact IntWalk.i64_in _ (by omega)
  have w6' : IntKind.i64.wrap (fb + y) = f := by rw [<- e2]; exact IntWalk.i64_in _ (by omega)
  have hfirst := fun W => zeb x (x.hi - x.dy) fb W (IntWalk.i64_in _ (by omega)) (by rw [hfb]; exact IntWalk.i64_in _ (by omega))
  have hspan := fun W => zgr a f x.bl (f + x.bl) t W (IntWalk.i64_in _ (by omega)) (by rw [e3]; exact IntWalk.i64_in _ (by omega))
  have HN : Hid (v = true) := Zh (by rw [<- hv, hd])
  have d0 : decide (a < 0) = false := decide_eq_false (by omega)
  have d1 : decide (q <= a) = false := decide_eq_false (by omega)
  have d2 : decide (i < 0) = false := decide_eq_false (by omega)
  have d3 : decide (n <= i) = false := decide_eq_false (by omega)
  clear hv ha hf ht hd hF h1 h2 e2 e3 hb4 hb5 hb6 a4 hl hdy hbl hq hn hy hfb
  go_enter Tryz.func259, Tryz.ntmps259
  go_wp2_with fail
  refine (hpub (zcy w x)).mono ?_
  rintro e w1 ⟨rfl, hb1⟩
  have k0 := e0 (HK.out.below hb1 HK.out.lt)
  have k1 := e1 (HK.out.below hb1 HK.out.lt)
  have k2 := e2 (HK.out.below hb1 HK.out.lt)
  have k3 := e3 (HK.out.below hb1 HK.out.lt)
  have k4 := e4 (HK.out.below hb1 HK.out.lt)
  have k5 := e5 (HK.out.below hb1 HK.out.lt)
  have k6 := e6 (HK.out.below hb1 HK.out.lt)
  have k7 := e7 (HK.out.below hb1 HK.out.lt)
  have HB1 := Zt HB hb1
  have HS1 := Zh (HS.out.below hb1 HS.out.lt)
  have HK1 := Zh (HK.out.below hb1 HK.out.lt)
  clear hb1 hpub
  go_wp2_with fail
  refine (hblk w1).mono ?_
  clear k0 k1 k2 k3 k4 k5 k6 k7
  rintro e w2 ⟨rfl, hb2⟩
  have k0 := e0 (HK1.out.below hb2 HK1.out.lt)
  have k1 := e1 (HK1.out.below hb2 HK1.out.lt)
  have k2 := e2 (HK1.out.below hb2 HK1.out.lt)
  have k3 := e3 (HK1.out.below hb2 HK1.out.lt)
  have k4 := e4 (HK1.out.below hb2 HK1.out.lt)
  have k5 := e5 (HK1.out.below hb2 HK1.out.lt)
  have k6 := e6 (HK1.out.below hb2 HK1.out.lt)
  have k7 := e7 (HK1.out.below hb2 HK1.out.lt)
  have HB2 := Zt HB1 hb2
  have HS2 := Zh (HS1.out.below hb2 HS1.out.lt)
  have HK2 := Zh (HK1.out.below hb2 HK1.out.lt)
  clear hb2 hblk
  go_wp2_with fail
  clear k0 k1 k2 k3 k4 k5 k6 k7
  refine Zd (fun w' => Blok w' w.heap.size 30 #[.int .i64 x.b, .int .i64 x.k, .int .i64 x.c, .int .i64 x.j, .int .i64 x.lo, .int .i64 x.hi, .int .i64 x.dy, .int .i64 x.bl]) (HK2.out.drew) fun HS0 => ?_
  refine tk 0 ((.int .i64 a)) HS0 ?_
  refine wpAnyH_take (i := 1) (v := (.agg #[.int .i64 x.b, .int .i64 x.k, .int .i64 x.c, .int .i64 x.j, .int .i64 x.lo, .int .i64 x.hi, .int .i64 x.dy, .int .i64 x.bl])) rfl (by kernel_rfl) (by kernel_rfl) (by kernel_rfl) (fun _ _ _ h => h) (.inl ⟨by kernel_rfl, fun w9 hS => by have k0 := e0 hS; have k1 := e1 hS; have k2 := e2 hS; have k3 := e3 hS; have k4 := e4 hS; have k5 := e5 hS; have k6 := e6 hS; have k7 := e7 hS; go_simp⟩) HS0 ?_
  refine tk 3 ((.int .i64 i)) HS0 ?_
  refine tk 4 ((.pointer (some ⟨w.heap.size, 7, none⟩))) HS0 ?_
  refine wpAnyH_take (i := 5) (v := (.int .i64 x.bl)) rfl (by kernel_rfl) (by kernel_rfl) (by kernel_rfl) (fun _ _ _ h => h) (.inl ⟨by kernel_rfl, fun w9 hS => by have k := e7 hS; go_simp⟩) HS0 ?_
  refine wpAnyH_take (i := 6) (v := (.int .i64 y)) rfl (by kernel_rfl) (by kernel_rfl) (by kernel_rfl) (fun _ _ _ h => h) (.inl ⟨by kernel_rfl, fun w9 hS => by go_simp⟩) HS0 ?_
  refine tk 8 ((.pointer (some ⟨w.heap.size, 7, none⟩))) HS0 ?_
  refine wpAnyH_take (i := 9) (v := (.int .i64 x.bl)) rfl (by kernel_rfl) (by kernel_rfl) (by kernel_rfl) (fun _ _ _ h => h) (.inl ⟨by kernel_rfl, fun w9 hS => by have k := e7 hS; go_simp⟩) HS0 ?_
  refine Zc 2 298 #[.agg #[.int .i64 x.b, .int .i64 x.k, .int .i64 x.c, .int .i64 x.j, .int .i64 x.lo, .int .i64 x.hi, .int .i64 x.dy, .int .i64 x.bl]] (hfirst (World.drew w2)) ?_
  rintro e w3 ⟨rfl, hb3⟩
  have HB3 := Zh (HB2.out.trans (((zaa w2).trans (hb3.mono (Nat.le_refl _))).mono HB2.out.size))
  have HS3 := Zh (HS2.out.drew.below hb3 HS2.out.lt)
  refine Zu (HK2.out.drew.below hb3 HK2.out.lt) fun HT3 => ?_
  refine wpAnyH_take (i := 7) (v := (.int .i64 f)) rfl (by kernel_rfl) (by kernel_rfl) (by kernel_rfl) (fun _ _ _ h => h) (.inl ⟨by kernel_rfl, fun w9 hS => by go_simp⟩) HT3 ?_
  refine Zc 10 295 #[.int .i64 a, .int .i64 f, .int .i64 x.bl] (hspan w3) ?_
  rintro e w5 ⟨rfl, hb5⟩
  refine Zu (Blok.below HT3 hb5 (Blok.lt HT3)) fun HT5 => ?_
  have hs := HS3.out.below hb5 HS3.out.lt
  have f0 := hs.frozen 0
  have f1 := hs.frozen 1
  have f2 := hs.frozen 2
  have c0 := s0 hs
  have c1 := s1 hs
  have c2 := s2 hs
  have HFP := Zh (zbt (w := w) (w.heap.size + 1) (by omega) hs (HB3.out.trans (hb5.mono HB3.out.size)) a f t)
  have HT6 : (fun w' => Blok w' w.heap.size 30 #[.int .i64 x.b, .int .i64 x.k, .int .i64 x.c, .int .i64 x.j, .int .i64 x.lo, .int .i64 x.hi, .int .i64 x.dy, .int .i64 x.bl]) (((w5.setCell ⟨w.heap.size + 1, 0, none⟩ (.int .i64 a)).setCell ⟨w.heap.size + 1, 1, none⟩ (.int .i64 f)).setCell ⟨w.heap.size + 1, 2, none⟩ (.int .i64 t)) := ((Blok.far (Blok.far (Blok.far HT5 (p := ⟨w.heap.size + 1, 0, none⟩) (by simp) _) (p := ⟨w.heap.size + 1, 1, none⟩) (by simp) _) (p := ⟨w.heap.size + 1, 2, none⟩) (by simp) _))
  refine zaf (i := 11) (by kernel_rfl) (zah (w' := ((w5.setCell ⟨w.heap.size + 1, 0, none⟩ (.int .i64 a)).setCell ⟨w.heap.size + 1, 1, none⟩ (.int .i64 f)).setCell ⟨w.heap.size + 1, 2, none⟩ (.int .i64 t)) rfl (by kernel_rfl) (by go_simp) ⟨HT6, ?_⟩)
  refine tk 12 ((.bool true)) HT6 ?_
  refine wpAnyH_done (by kernel_rfl) ?_ _
  clear hb3 hb5 hs f0 f1 f2 c0 c1 c2 HT3 HT5 HT6 HS0
  simp only [List.getElem_toArray, List.getElem_cons_succ, List.getElem_cons_zero, zc7, List.setIfInBounds_toArray, List.set_cons_succ, List.set_cons_zero]
  go_wp2
  refine bodyPost_ret (zbc rfl (w.heap.size + 1) a f t (by kernel_rfl) rfl HFP.out.1) rfl ?_
  exact ⟨by rw [HN.out]; rfl, HFP.out.2⟩
end Go.Proofs.YtnbkkjcmblfhpaaGreat
