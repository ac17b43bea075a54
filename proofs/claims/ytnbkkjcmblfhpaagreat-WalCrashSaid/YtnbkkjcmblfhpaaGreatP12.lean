import Derived.Deep.WholeRow
import Derived.Laws.Rows
import Derived.Laws.Tables
import Derived.Test.YtnbkkjcmblfhpaaGreatP11
import Derived.Test.YtnbkkjcmblfhpaaGreatP8
import Derived.Test.YtnbkkjcmblfhpaaGreatP10
import Derived.Test.YtnbkkjcmblfhpaaGreatP9
import Derived.Test.YtnbkkjcmblfhpaaGreatP0
namespace Go.Proofs.YtnbkkjcmblfhpaaGreat
set_option maxHeartbeats 2000000
set_option maxRecDepth 100000
open Go.RowKit
theorem zb3 (s : Y.St) (A : Y.A9) (v : Bool) (hv : decide (s.l.length <= 32 /\ L.Srt s.l /\ ∀ x ∈ s.l, Y.okL s x) = v) (w : World) (h : Y.SIn w A s) (hf : Y.Fits A s) (hp : Y.MayP s.p) (hn : 0 <= s.now /\ s.now <= 1073741824) :
  Calls Tryz.prog 135 #[Y.val s A] w fun e w' => e = .returned (.bool v) /\ Below w.heap.size w w' := by
 have HV := Zh hv
 have HP := Zh hp
 have HN := Zh hn
 obtain ⟨ap, np, cp, al, nl, cl, ah, nh, ch⟩ := A
 have hnp : np <= 600 := hf.p
 have hnl : nl <= 600 := hf.l
 have hnh : nh <= 600 := hf.h
 have HF := Zh hf
 have HB0 := Zh (Below.refl w.heap.size w)
 have HQ0 := Zh ((h.p : QIn w ap np cp s.ps))
 have HL0 := Zh ((h.l : RIn w al nl cl s.l))
 have HH0 := Zh ((h.h : RIn w ah nh ch s.h))
 have hll : s.l.length = nl := HL0.out.1
 clear h hv hf hp hn
 unfold Y.val
 obtain ⟨w1, hw1, hb, hk⟩ := Zn w 37 #[.int .i64 s.d.b, .int .i64 s.d.k, .int .i64 s.d.c, .int .i64 s.d.j, .int .i64 s.d.lo, .int .i64 s.d.hi, .int .i64 s.d.dy, .int .i64 s.d.bl, .int .i64 s.p.q, .int .i64 s.p.i, .int .i64 s.p.h, .bool s.p.pair, .int .i64 s.now, .slice ap np cp, .slice al nl cl, .slice ah nh ch]
 have HQ1 := Zh (HQ0.out.below hb)
 have HL1 := Zh (HL0.out.below hb)
 have HH1 := Zh (HH0.out.below hb)
 have HB1 := Zt HB0 hb
 have KS1 := Zh hk
 clear hb hk HQ0 HL0 HH0 HB0
 have c0 := Y.cs16 KS1.out
 by_cases k0 : 32 < nl
 ·have d0 : decide ((32 : Int) < (nl : Int)) = true := decide_eq_true (by omega)
  have d0' : decide (32 < nl) = true := decide_eq_true k0
  have HE : Hid (v = false) := Zh (by rw [<- HV.out]; exact decide_eq_false fun hok => by have := hok.1; omega)
  go_enter Tryz.func135, Tryz.ntmps135
  go_wp2
  go_ret
  exact ⟨by rw [HE.out]; rfl, HB1.out⟩
 have d0 : decide ((32 : Int) < (nl : Int)) = false := decide_eq_false (by omega)
 have d0' : decide (32 < nl) = false := decide_eq_false k0
 go_enter Tryz.func135, Tryz.ntmps135
 go_wp2_with fail
 try rw [hw1]
 clear c0
 clear hw1
 go_loopw [12] (fun i wr => ∃ j : Nat, i = .int .i64 j /\ j <= nl /\ Hid (L.Srt (s.l.take j)) /\ Hid (∀ x ∈ s.l.take j, Y.okL s x) /\ Hid (Below w1.heap.size w1 wr)) (fun i _ => nl - (intOf i).toNat)
 case atStart => exact ⟨0, rfl, by omega, Zh (by unfold L.Srt; simp), Zh (by simp), Zh (Below.refl _ _)⟩
 case round =>
  obtain ⟨j, rfl, hj, HSR, HOK, HLr⟩ := hrel
  have hb := HLr.out
  have HQr := Zh (HQ1.out.below hb)
  have HLr := Zh (HL1.out.below hb)
  have HHr := Zh (HH1.out.below hb)
  have KSr := Zk KS1 hb
  have HBr := Zt HB1 hb
  clear hb HB1 HQ1 HL1 HH1 KS1
  by_cases hlt : j < nl
  rotate_left
  ·have dj : decide ((j : Int) < nl) = false := by simp; omega
   have HE : Hid (v = true) := Zh (by
    have h1 := HSR.out
    have h2 := HOK.out
    rw [List.take_of_length_le (by omega)] at h1 h2
    rw [<- HV.out]; exact decide_eq_true ⟨by omega, h1, h2⟩)
   go_wp2
   go_ret
   exact ⟨by rw [HE.out]; rfl, HBr.out⟩
  have dj : decide ((j : Int) < nl) = true := by simp; omega
  obtain ⟨b, off, x, hal, hbl, hx, ⟨p0, p1, p2, p3, p4⟩, -⟩ := Y.at5q HLr.out hlt
  subst hal
  have HX := Zh hx
  have j0 : (0 : Int) <= j := by omega
  have j1 : (j : Int) < nl := by omega
  obtain ⟨w3, hw3, hb, hk⟩ := Zn wr 104 #[.int .i64 x.s, .int .i64 x.a, .int .i64 x.b, .int .i64 x.f, .int .i64 x.t]
  have HQ3 := Zh (HQr.out.below hb)
  have HL3 := Zh (HLr.out.below hb)
  have HH3 := Zh (HHr.out.below hb)
  have KS3 := Zk KSr hb
  have HB3 := Zt HBr hb
  have KX3 := Zh hk
  clear hb hk HQr HLr HHr KSr HBr
  have HL3r : Hid (Below w1.heap.size w1 w3) := Zh (by rw [<- hw3]; exact HLr.out.alloc HLr.out.size _)
  obtain ⟨lm, hlm⟩ : ∃ u, decide (Y.okL s x) = u := ⟨_, rfl⟩
  have HLM := Zh hlm
  have cm := fun d os => zfl s ⟨ap, np, cp, some ⟨b, off, none⟩, nl, cl, ah, nh, ch⟩ x lm hlm (Go.Sort.grow (redrawn w3 d) os) ⟨(HQ3.out.below (below_regrown w3 d os) : QIn _ ap np cp s.ps), HL3.out.below (below_regrown w3 d os), HH3.out.below (below_regrown w3 d os)⟩ HF.out HP.out HN.out
  have cx := fun W => zc3 x W
  unfold Y.val L.val at cm
  unfold L.val at cx
  clear hlm hx
  by_cases hj0 : j = 0
  ·subst hj0
   have z0 : decide ((0 : Int) < ((0 : Nat) : Int)) = false := by decide
   have z0' : decide ((0 : Int) < 0) = false := by decide
   simp only [Nat.zero_mul, Nat.add_zero] at p0 p1 p2 p3 p4
   have HW3 := Zh (Below.refl w3.heap.size w3)
   cases lm with
   | false =>
    have c0 := Y.cs16 KS3.out
    have x0 := Y.cs5 KX3.out
    obtain ⟨qc0, qc1, qc2, qc3, qc4, qc5, qc6, qc7, qc8, qc9, qc10, qc11, qc12, qc13, qc14, qc15⟩ := Y.cs16q KS3.out
    obtain ⟨qx0, qx1, qx2, qx3, qx4⟩ := Y.cs5q KX3.out
    go_wp2_with fail
    try rw [hw3]
    refine wp_region_quiet_below (by kernel_rfl) (by kernel_rfl) ?_
    repeat (go_big_quiet_step (first | with_reducible exact Calls.regrown_of (cm _ _) | with_reducible exact Calls.regrown_of (cx _)))
    refine wpQuiet_nil ?_
    intro _ hw'
    obtain ⟨⟨dq, osq⟩, hw''⟩ := hw'
    subst hw''
    clear qc0 qc1 qc2 qc3 qc4 qc5 qc6 qc7 qc8 qc9 qc10 qc11 qc12 qc13 qc14 qc15 qx0 qx1 qx2 qx3 qx4
    clear c0
    clear x0
    clear cm cx hw3
    obtain ⟨w4, hq⟩ : ∃ W, Go.Sort.grow (redrawn w3 dq) osq = W := ⟨_, rfl⟩
    have hb : Below w3.heap.size w3 w4 := by rw [<- hq]; exact below_regrown _ _ _
    rw [hq]
    clear hq
    have HQ4 := Zh (HQ3.out.below hb)
    have HL4 := Zh (HL3.out.below hb)
    have HH4 := Zh (HH3.out.below hb)
    replace KS3 := Zk KS3 hb
    replace KX3 := Zk KX3 hb
    replace HW3 := Zt HW3 hb
    have HB4 := Zt HB3 hb
    clear hb HQ3 HL3 HH3 HB3
    have c0 := Y.cs16 KS3.out
    have x0 := Y.cs5 KX3.out
    clear c0
    clear x0
    have HE : Hid (v = false) := Zh (by rw [<- HV.out]; exact decide_eq_false fun hok => of_decide_eq_false HLM.out (hok.2.2 x (List.mem_of_getElem? HX.out)))
    go_wp2
    go_ret
    exact ⟨by rw [HE.out]; rfl, HB4.out⟩
   | true =>
    have c0 := Y.cs16 KS3.out
    have x0 := Y.cs5 KX3.out
    obtain ⟨qc0, qc1, qc2, qc3, qc4, qc5, qc6, qc7, qc8, qc9, qc10, qc11, qc12, qc13, qc14, qc15⟩ := Y.cs16q KS3.out
    obtain ⟨qx0, qx1, qx2, qx3, qx4⟩ := Y.cs5q KX3.out
    go_wp2_with fail
    try rw [hw3]
    refine wp_region_quiet_below (by kernel_rfl) (by kernel_rfl) ?_
    repeat (go_big_quiet_step (first | with_reducible exact Calls.regrown_of (cm _ _) | with_reducible exact Calls.regrown_of (cx _)))
    refine wpQuiet_nil ?_
    intro _ hw'
    obtain ⟨⟨dq, osq⟩, hw''⟩ := hw'
    subst hw''
    clear qc0 qc1 qc2 qc3 qc4 qc5 qc6 qc7 qc8 qc9 qc10 qc11 qc12 qc13 qc14 qc15 qx0 qx1 qx2 qx3 qx4
    clear c0
    clear x0
    clear cm cx hw3
    obtain ⟨w4, hq⟩ : ∃ W, Go.Sort.grow (redrawn w3 dq) osq = W := ⟨_, rfl⟩
    have hb : Below w3.heap.size w3 w4 := by rw [<- hq]; exact below_regrown _ _ _
    rw [hq]
    clear hq
    have HQ4 := Zh (HQ3.out.below hb)
    have HL4 := Zh (HL3.out.below hb)
    have HH4 := Zh (HH3.out.below hb)
    replace KS3 := Zk KS3 hb
    replace KX3 := Zk KX3 hb
    replace HW3 := Zt HW3 hb
    have HB4 := Zt HB3 hb
    clear hb HQ3 HL3 HH3 HB3
    have c0 := Y.cs16 KS3.out
    have x0 := Y.cs5 KX3.out
    clear c0
    clear x0
    have HSR2 := Zh (by have := L.Srt.one s.l; exact this)
    have HOK2 : Hid (∀ z ∈ s.l.take (0 + 1), Y.okL s z) := Zh (by
     rw [List.take_succ_eq_append_getElem (by omega : 0 < s.l.length)]
     intro z hz
     rcases List.mem_append.1 hz with hz | hz
     ·exact HOK.out z hz
     ·have he := (List.getElem?_eq_some_iff.1 HX.out).2
      rw [List.mem_singleton, he] at hz
      subst hz
      exact of_decide_eq_true HLM.out)
    go_wp2
    go_roundw
    case rel => exact ⟨0 + 1, by go_num, by omega, HSR2, HOK2, Zh (HL3r.out.trans (HW3.out.mono HL3r.out.size))⟩
    case measure => simp [intOf] <;> omega
  ·obtain ⟨m, rfl⟩ : ∃ m, j = m + 1 := ⟨j - 1, by omega⟩
   have z0 : decide ((0 : Int) < ((m + 1 : Nat) : Int)) = true := decide_eq_true (by omega)
   have z0'' : decide ((0 : Int) < (m : Int) + 1) = true := decide_eq_true (by omega)
   have z0' : decide (0 < m + 1) = true := decide_eq_true (by omega)
   have hw1 : IntKind.i64.wrap ((m : Int) + 1 - 1) = (m : Int) := by rw [IntKind.wrap_i64]; omega
   have m0 : (0 : Int) <= m := by omega
   have m1 : (m : Int) < nl := by omega
   obtain ⟨b2, off2, y, he2, -, hy, ⟨q0, q1, q2, q3, q4⟩, qq0, qq1, qq2, qq3, qq4⟩ := Y.at5q HL3.out (i := m) (by omega)
   cases he2
   have HY := Zh hy
   obtain ⟨u, hu⟩ : ∃ u, decide (y.a < x.a \/ x.a = y.a /\ y.b < x.b) = u := ⟨_, rfl⟩
   have HU := Zh hu
   have cy := fun W => zc3 y W
   have cb := fun W => zd3 x.a x.b y.a y.b u hu W
   unfold L.val at cy
   clear hy hu
   have HW3 := Zh (Below.refl w3.heap.size w3)
   cases u with
   | false =>
    have c0 := Y.cs16 KS3.out
    have x0 := Y.cs5 KX3.out
    obtain ⟨qc0, qc1, qc2, qc3, qc4, qc5, qc6, qc7, qc8, qc9, qc10, qc11, qc12, qc13, qc14, qc15⟩ := Y.cs16q KS3.out
    obtain ⟨qx0, qx1, qx2, qx3, qx4⟩ := Y.cs5q KX3.out
    go_wp2_with fail
    try rw [hw3]
    refine wp_region_quiet_below (by kernel_rfl) (by kernel_rfl) ?_
    repeat (go_big_quiet_step (first | with_reducible exact Calls.regrown_of (cm _ _) | with_reducible exact Calls.regrown_of (cx _) | with_reducible exact Calls.regrown_of (cy _) | with_reducible exact Calls.regrown_of (cb _)))
    refine wpQuiet_nil ?_
    intro _ hw'
    obtain ⟨⟨dq, osq⟩, hw''⟩ := hw'
    subst hw''
    clear qc0 qc1 qc2 qc3 qc4 qc5 qc6 qc7 qc8 qc9 qc10 qc11 qc12 qc13 qc14 qc15 qx0 qx1 qx2 qx3 qx4
    clear c0
    clear x0
    clear cm cx hw3 cy cb q0 q1 q2 q3 q4 qq0 qq1 qq2 qq3 qq4
    obtain ⟨w4, hq⟩ : ∃ W, Go.Sort.grow (redrawn w3 dq) osq = W := ⟨_, rfl⟩
    have hb : Below w3.heap.size w3 w4 := by rw [<- hq]; exact below_regrown _ _ _
    rw [hq]
    clear hq
    have HQ4 := Zh (HQ3.out.below hb)
    have HL4 := Zh (HL3.out.below hb)
    have HH4 := Zh (HH3.out.below hb)
    replace KS3 := Zk KS3 hb
    replace KX3 := Zk KX3 hb
    replace HW3 := Zt HW3 hb
    have HB4 := Zt HB3 hb
    clear hb HQ3 HL3 HH3 HB3
    have c0 := Y.cs16 KS3.out
    have x0 := Y.cs5 KX3.out
    clear c0
    clear x0
    have HE : Hid (v = false) := Zh (by rw [<- HV.out]; exact decide_eq_false fun hok => L.Srt.no HY.out HX.out (fun hl => by have h := of_decide_eq_false HU.out; unfold L.Lt at hl; exact h (by omega)) hok.2.1)
    go_wp2
    go_ret
    exact ⟨by rw [HE.out]; rfl, HB4.out⟩
   | true =>
    cases lm with
    | false =>
     have c0 := Y.cs16 KS3.out
     have x0 := Y.cs5 KX3.out
     obtain ⟨qc0, qc1, qc2, qc3, qc4, qc5, qc6, qc7, qc8, qc9, qc10, qc11, qc12, qc13, qc14, qc15⟩ := Y.cs16q KS3.out
     obtain ⟨qx0, qx1, qx2, qx3, qx4⟩ := Y.cs5q KX3.out
     go_wp2_with fail
     try rw [hw3]
     refine wp_region_quiet_below (by kernel_rfl) (by kernel_rfl) ?_
     repeat (go_big_quiet_step (first | with_reducible exact Calls.regrown_of (cm _ _) | with_reducible exact Calls.regrown_of (cx _) | with_reducible exact Calls.regrown_of (cy _) | with_reducible exact Calls.regrown_of (cb _)))
     refine wpQuiet_nil ?_
     intro _ hw'
     obtain ⟨⟨dq, osq⟩, hw''⟩ := hw'
     subst hw''
     clear qc0 qc1 qc2 qc3 qc4 qc5 qc6 qc7 qc8 qc9 qc10 qc11 qc12 qc13 qc14 qc15 qx0 qx1 qx2 qx3 qx4
     clear c0
     clear x0
     clear cm cx hw3 cy cb q0 q1 q2 q3 q4 qq0 qq1 qq2 qq3 qq4
     obtain ⟨w4, hq⟩ : ∃ W, Go.Sort.grow (redrawn w3 dq) osq = W := ⟨_, rfl⟩
     have hb : Below w3.heap.size w3 w4 := by rw [<- hq]; exact below_regrown _ _ _
     rw [hq]
     clear hq
     have HQ4 := Zh (HQ3.out.below hb)
     have HL4 := Zh (HL3.out.below hb)
     have HH4 := Zh (HH3.out.below hb)
     replace KS3 := Zk KS3 hb
     replace KX3 := Zk KX3 hb
     replace HW3 := Zt HW3 hb
     have HB4 := Zt HB3 hb
     clear hb HQ3 HL3 HH3 HB3
     have c0 := Y.cs16 KS3.out
     have x0 := Y.cs5 KX3.out
     clear c0
     clear x0
     have HE : Hid (v = false) := Zh (by rw [<- HV.out]; exact decide_eq_false fun hok => of_decide_eq_false HLM.out (hok.2.2 x (List.mem_of_getElem? HX.out)))
     go_wp2
     go_ret
     exact ⟨by rw [HE.out]; rfl, HB4.out⟩
    | true =>
     have c0 := Y.cs16 KS3.out
     have x0 := Y.cs5 KX3.out
     obtain ⟨qc0, qc1, qc2, qc3, qc4, qc5, qc6, qc7, qc8, qc9, qc10, qc11, qc12, qc13, qc14, qc15⟩ := Y.cs16q KS3.out
     obtain ⟨qx0, qx1, qx2, qx3, qx4⟩ := Y.cs5q KX3.out
     go_wp2_with fail
     try rw [hw3]
     refine wp_region_quiet_below (by kernel_rfl) (by kernel_rfl) ?_
     repeat (go_big_quiet_step (first | with_reducible exact Calls.regrown_of (cm _ _) | with_reducible exact Calls.regrown_of (cx _) | with_reducible exact Calls.regrown_of (cy _) | with_reducible exact Calls.regrown_of (cb _)))
     refine wpQuiet_nil ?_
     intro _ hw'
     obtain ⟨⟨dq, osq⟩, hw''⟩ := hw'
     subst hw''
     clear qc0 qc1 qc2 qc3 qc4 qc5 qc6 qc7 qc8 qc9 qc10 qc11 qc12 qc13 qc14 qc15 qx0 qx1 qx2 qx3 qx4
     clear c0
     clear x0
     clear cm cx hw3 cy cb q0 q1 q2 q3 q4 qq0 qq1 qq2 qq3 qq4
     obtain ⟨w4, hq⟩ : ∃ W, Go.Sort.grow (redrawn w3 dq) osq = W := ⟨_, rfl⟩
     have hb : Below w3.heap.size w3 w4 := by rw [<- hq]; exact below_regrown _ _ _
     rw [hq]
     clear hq
     have HQ4 := Zh (HQ3.out.below hb)
     have HL4 := Zh (HL3.out.below hb)
     have HH4 := Zh (HH3.out.below hb)
     replace KS3 := Zk KS3 hb
     replace KX3 := Zk KX3 hb
     replace HW3 := Zt HW3 hb
     have HB4 := Zt HB3 hb
     clear hb HQ3 HL3 HH3 HB3
     have c0 := Y.cs16 KS3.out
     have x0 := Y.cs5 KX3.out
     clear c0
     clear x0
     have HSR2 := Zh (L.Srt.snoc HSR.out HY.out HX.out (by have h := of_decide_eq_true HU.out; unfold L.Lt; omega))
     have HOK2 : Hid (∀ z ∈ s.l.take (m + 1 + 1), Y.okL s z) := Zh (by
      rw [List.take_succ_eq_append_getElem (by omega : m + 1 < s.l.length)]
      intro z hz
      rcases List.mem_append.1 hz with hz | hz
      ·exact HOK.out z hz
      ·have he := (List.getElem?_eq_some_iff.1 HX.out).2
       rw [List.mem_singleton, he] at hz
       subst hz
       exact of_decide_eq_true HLM.out)
     go_wp2
     go_roundw
     case rel => exact ⟨m + 1 + 1, by go_num, by omega, HSR2, HOK2, Zh (HL3r.out.trans (HW3.out.mono HL3r.out.size))⟩
     case measure => simp [intOf] <;> omega
end Go.Proofs.YtnbkkjcmblfhpaaGreat
namespace Go.Proofs.YtnbkkjcmblfhpaaGreat
set_option maxHeartbeats 2000000
set_option maxRecDepth 100000
open Go.RowKit
theorem zd5 (s : Y.St) (A : Y.A9) (v : Bool) (hv : decide (Y.SrtH s.h /\ ∀ y ∈ s.h, Y.okH s y) = v) (w : World) (h : Y.SIn w A s) (hf : Y.Fits A s) (hp : Y.MayP s.p) (hn : 0 <= s.now /\ s.now <= 1073741824) :
  Calls Tryz.prog 136 #[Y.val s A] w fun e w' => e = .returned (.bool v) /\ Below w.heap.size w w' := by
 have HV := Zh hv
 have HP := Zh hp
 have HN := Zh hn
 obtain ⟨ap, np, cp, al, nl, cl, ah, nh, ch⟩ := A
 have hnp : np <= 600 := hf.p
 have hnl : nl <= 600 := hf.l
 have hnh : nh <= 600 := hf.h
 have HF := Zh hf
 have HB0 := Zh (Below.refl w.heap.size w)
 have HQ0 := Zh ((h.p : QIn w ap np cp s.ps))
 have HL0 := Zh ((h.l : RIn w al nl cl s.l))
 have HH0 := Zh ((h.h : RIn w ah nh ch s.h))
 have hhl : s.h.length = nh := HH0.out.1
 clear h hv hf hp hn
 unfold Y.val
 obtain ⟨w1, hw1, hb, hk⟩ := Zn w 37 #[.int .i64 s.d.b, .int .i64 s.d.k, .int .i64 s.d.c, .int .i64 s.d.j, .int .i64 s.d.lo, .int .i64 s.d.hi, .int .i64 s.d.dy, .int .i64 s.d.bl, .int .i64 s.p.q, .int .i64 s.p.i, .int .i64 s.p.h, .bool s.p.pair, .int .i64 s.now, .slice ap np cp, .slice al nl cl, .slice ah nh ch]
 have HQ1 := Zh (HQ0.out.below hb)
 have HL1 := Zh (HL0.out.below hb)
 have HH1 := Zh (HH0.out.below hb)
 have HB1 := Zt HB0 hb
 have KS1 := Zh hk
 clear hb hk HQ0 HL0 HH0 HB0
 have c0 := Y.cs16 KS1.out
 go_enter Tryz.func136, Tryz.ntmps136
 go_wp2_with fail
 try rw [hw1]
 clear c0
 clear hw1
 have HBW := Zh (Below.refl w1.heap.size w1)
 go_loopw [9] (fun i wr => ∃ j : Nat, i = .int .i64 j /\ j <= nh /\ Hid (Y.SrtH (s.h.take j)) /\ Hid (∀ x ∈ s.h.take j, Y.okH s x) /\ Hid (Below w1.heap.size w1 wr)) (fun i _ => nh - (intOf i).toNat)
 case atStart => exact ⟨0, rfl, by omega, Zh (by unfold Y.SrtH; simp), Zh (by simp), Zh (Below.refl _ _)⟩
 case round =>
  obtain ⟨j, rfl, hj, HSR, HOK, HLr⟩ := hrel
  have hb := HLr.out
  have HQr := Zh (HQ1.out.below hb)
  have HLr := Zh (HL1.out.below hb)
  have HHr := Zh (HH1.out.below hb)
  have KSr := Zk KS1 hb
  have HBr := Zt HB1 hb
  clear hb HB1 HQ1 HL1 HH1 KS1
  by_cases hlt : j < nh
  rotate_left
  ·have dj : decide ((j : Int) < nh) = false := by simp; omega
   have HE : Hid (v = true) := Zh (by
    have h1 := HSR.out
    have h2 := HOK.out
    rw [List.take_of_length_le (by omega)] at h1 h2
    rw [<- HV.out]; exact decide_eq_true ⟨h1, h2⟩)
   go_wp2
   go_ret
   exact ⟨by rw [HE.out]; rfl, HBr.out⟩
  have dj : decide ((j : Int) < nh) = true := by simp; omega
  obtain ⟨b, off, x, hal, hbl, hx, ⟨p0, p1, p2⟩, -⟩ := Y.at3q HHr.out hlt
  subst hal
  have HX := Zh hx
  have j0 : (0 : Int) <= j := by omega
  have j1 : (j : Int) < nh := by omega
  obtain ⟨w3, hw3, hb, hk⟩ := Zn wr 135 #[.int .i64 x.a, .int .i64 x.b, .int .i64 x.x]
  have HQ3 := Zh (HQr.out.below hb)
  have HL3 := Zh (HLr.out.below hb)
  have HH3 := Zh (HHr.out.below hb)
  have KS3 := Zk KSr hb
  have HB3 := Zt HBr hb
  have KX3 := Zh hk
  clear hb hk HQr HLr HHr KSr HBr
  have x0 := (Y.cs3 KX3.out).1
  have x1 := (Y.cs3 KX3.out).2.1
  obtain ⟨w4, hw4, hb, hk⟩ := Zn w3 231 #[.int .i64 x.a, .int .i64 x.b]
  have HQ4 := Zh (HQ3.out.below hb)
  have HL4 := Zh (HL3.out.below hb)
  have HH4 := Zh (HH3.out.below hb)
  replace KS3 := Zk KS3 hb
  replace KX3 := Zk KX3 hb
  have HB4 := Zt HB3 hb
  have KB4 := Zh hk
  clear hb hk HQ3 HL3 HH3 HB3
  have HL4r : Hid (Below w1.heap.size w1 w4) := Zh (by rw [<- hw4, <- hw3]; exact (HLr.out.alloc HLr.out.size _).alloc (Nat.le_trans HLr.out.size (by simp)) _)
  obtain ⟨bk, hbk⟩ : ∃ u, E.blkB s.d x.a x.b = u := ⟨_, rfl⟩
  have HK := Zh hbk
  have ck := fun W => zd4 s.d x.a x.b bk hbk W HF.out.b HF.out.c
  clear hbk hx
  by_cases hj0 : j = 0
  ·subst hj0
   have z0 : decide ((0 : Int) < ((0 : Nat) : Int)) = false := by decide
   have z0' : decide ((0 : Int) < 0) = false := by decide
   simp only [Nat.zero_mul, Nat.add_zero] at p0 p1 p2
   have HW4 := Zh (Below.refl w4.heap.size w4)
   cases bk with
   | false =>
    have c0 := Y.cs16 KS3.out
    obtain ⟨x0, x1, x2⟩ := Y.cs3 KX3.out
    obtain ⟨z0, z1⟩ := Y.cb2 KB4.out
    obtain ⟨qc0, qc1, qc2, qc3, qc4, qc5, qc6, qc7, qc8, qc9, qc10, qc11, qc12, qc13, qc14, qc15⟩ := Y.cs16q KS3.out
    obtain ⟨qx0, qx1, qx2⟩ := Y.cs3q KX3.out
    obtain ⟨qz0, qz1⟩ := Y.cb2q KB4.out
    clear x0 x1
    go_wp2_with fail
    try rw [hw3]
    try rw [hw4]
    refine wp_region_quiet_below (by kernel_rfl) (by kernel_rfl) ?_
    repeat (go_big_quiet_step (first | with_reducible exact Calls.regrown_of (ck _)))
    refine wpQuiet_nil ?_
    intro _ hw'
    obtain ⟨⟨dq, osq⟩, hw''⟩ := hw'
    subst hw''
    clear qc0 qc1 qc2 qc3 qc4 qc5 qc6 qc7 qc8 qc9 qc10 qc11 qc12 qc13 qc14 qc15 qx0 qx1 qx2 qz0 qz1
    clear c0
    clear x0 x1 x2
    clear z0 z1
    clear ck hw3 hw4
    obtain ⟨w5, hq⟩ : ∃ W, Go.Sort.grow (redrawn w4 dq) osq = W := ⟨_, rfl⟩
    have hb : Below w4.heap.size w4 w5 := by rw [<- hq]; exact below_regrown _ _ _
    rw [hq]
    clear hq
    have HQ5 := Zh (HQ4.out.below hb)
    have HL5 := Zh (HL4.out.below hb)
    have HH5 := Zh (HH4.out.below hb)
    replace KS3 := Zk KS3 hb
    replace KX3 := Zk KX3 hb
    replace KB4 := Zk KB4 hb
    replace HW4 := Zt HW4 hb
    have HB5 := Zt HB4 hb
    clear hb HQ4 HL4 HH4 HB4
    have c0 := Y.cs16 KS3.out
    obtain ⟨x0, x1, x2⟩ := Y.cs3 KX3.out
    obtain ⟨z0, z1⟩ := Y.cb2 KB4.out
    clear z0 z1
    have HE : Hid (v = false) := Zh (by rw [<- HV.out]; exact decide_eq_false fun hok => by have := (hok.2 x (List.mem_of_getElem? HX.out)).1; rw [HK.out] at this; cases this)
    go_wp2
    go_ret
    exact ⟨by rw [HE.out]; rfl, HB5.out⟩
   | true =>
    have c0 := Y.cs16 KS3.out
    obtain ⟨x0, x1, x2⟩ := Y.cs3 KX3.out
    obtain ⟨z0, z1⟩ := Y.cb2 KB4.out
    obtain ⟨qc0, qc1, qc2, qc3, qc4, qc5, qc6, qc7, qc8, qc9, qc10, qc11, qc12, qc13, qc14, qc15⟩ := Y.cs16q KS3.out
    obtain ⟨qx0, qx1, qx2⟩ := Y.cs3q KX3.out
    obtain ⟨qz0, qz1⟩ := Y.cb2q KB4.out
    clear x0 x1
    go_wp2_with fail
    try rw [hw3]
    try rw [hw4]
    refine wp_region_quiet_below (by kernel_rfl) (by kernel_rfl) ?_
    repeat (go_big_quiet_step (first | with_reducible exact Calls.regrown_of (ck _)))
    refine wpQuiet_nil ?_
    intro _ hw'
    obtain ⟨⟨dq, osq⟩, hw''⟩ := hw'
    subst hw''
    clear qc0 qc1 qc2 qc3 qc4 qc5 qc6 qc7 qc8 qc9 qc10 qc11 qc12 qc13 qc14 qc15 qx0 qx1 qx2 qz0 qz1
    clear c0
    clear x0 x1 x2
    clear z0 z1
    clear ck hw3 hw4
    obtain ⟨w5, hq⟩ : ∃ W, Go.Sort.grow (redrawn w4 dq) osq = W := ⟨_, rfl⟩
    have hb : Below w4.heap.size w4 w5 := by rw [<- hq]; exact below_regrown _ _ _
    rw [hq]
    clear hq
    have HQ5 := Zh (HQ4.out.below hb)
    have HL5 := Zh (HL4.out.below hb)
    have HH5 := Zh (HH4.out.below hb)
    replace KS3 := Zk KS3 hb
    replace KX3 := Zk KX3 hb
    replace KB4 := Zk KB4 hb
    replace HW4 := Zt HW4 hb
    have HB5 := Zt HB4 hb
    clear hb HQ4 HL4 HH4 HB4
    have c0 := Y.cs16 KS3.out
    obtain ⟨x0, x1, x2⟩ := Y.cs3 KX3.out
    obtain ⟨z0, z1⟩ := Y.cb2 KB4.out
    clear z0 z1
    obtain ⟨r, hr⟩ : ∃ v, L.find s.l x.a x.b = v := ⟨_, rfl⟩
    have HR := Zh hr
    have hr1 := L.find_lt s.l x.a x.b
    rw [hr] at hr1
    go_wp2_with fail
    refine (zni al nl cl s.l x.a x.b r hr w5 HL5.out (by omega)).mono ?_
    clear c0
    clear x0 x1 x2
    rintro e w6 ⟨rfl, hb⟩
    have HQ6 := Zh (HQ5.out.below hb)
    have HL6 := Zh (HL5.out.below hb)
    have HH6 := Zh (HH5.out.below hb)
    replace KS3 := Zk KS3 hb
    replace KX3 := Zk KX3 hb
    replace KB4 := Zk KB4 hb
    replace HW4 := Zt HW4 hb
    have HB6 := Zt HB5 hb
    clear hb HQ5 HL5 HH5 HB5
    have c0 := Y.cs16 KS3.out
    obtain ⟨x0, x1, x2⟩ := Y.cs3 KX3.out
    clear hr
    have hw2 : IntKind.i64.wrap (s.now + 1048576) = s.now + 1048576 := by have := HN.out; rw [IntKind.wrap_i64]; omega
    by_cases k2 : r = -1
    rotate_left
    ·have e2 : (r != -1) = true := by simpa using k2
     have HE : Hid (v = false) := Zh (by rw [<- HV.out]; exact decide_eq_false fun hok => k2 (by rw [<- HR.out]; exact L.find_none.2 (hok.2 x (List.mem_of_getElem? HX.out)).2.2.2))
     go_wp2
     go_ret
     exact ⟨by rw [HE.out]; rfl, HB6.out⟩
    subst k2
    have e2 : ((-1 : Int) != -1) = false := rfl
    by_cases k3 : x.x <= s.now
    ·have d3 : decide (x.x <= s.now) = true := decide_eq_true k3
     have HE : Hid (v = false) := Zh (by rw [<- HV.out]; exact decide_eq_false fun hok => by have := (hok.2 x (List.mem_of_getElem? HX.out)).2.1; omega)
     go_wp2
     go_ret
     exact ⟨by rw [HE.out]; rfl, HB6.out⟩
    have d3 : decide (x.x <= s.now) = false := decide_eq_false k3
    by_cases k4 : s.now + 1048576 < x.x
    ·have d4 : decide (s.now + 1048576 < x.x) = true := decide_eq_true k4
     have HE : Hid (v = false) := Zh (by rw [<- HV.out]; exact decide_eq_false fun hok => by have := (hok.2 x (List.mem_of_getElem? HX.out)).2.2.1; omega)
     go_wp2
     go_ret
     exact ⟨by rw [HE.out]; rfl, HB6.out⟩
    have d4 : decide (s.now + 1048576 < x.x) = false := decide_eq_false k4
    have HSR2 := Zh (by have := Y.SrtH.one s.h; exact this)
    have HOK2 : Hid (∀ z ∈ s.h.take (0 + 1), Y.okH s z) := Zh (by
     rw [List.take_succ_eq_append_getElem (by omega : 0 < s.h.length)]
     intro z hz
     rcases List.mem_append.1 hz with hz | hz
     ·exact HOK.out z hz
     ·have he := (List.getElem?_eq_some_iff.1 HX.out).2
      rw [List.mem_singleton, he] at hz
      subst hz
      exact ⟨HK.out, by omega, by omega, L.find_none.1 HR.out⟩)
    go_wp2
    go_roundw
    case rel => exact ⟨0 + 1, by go_num, by omega, HSR2, HOK2, Zh (HL4r.out.trans (HW4.out.mono HL4r.out.size))⟩
    case measure => simp [intOf] <;> omega
  ·obtain ⟨m, rfl⟩ : ∃ m, j = m + 1 := ⟨j - 1, by omega⟩
   have z0 : decide ((0 : Int) < ((m + 1 : Nat) : Int)) = true := decide_eq_true (by omega)
   have z0'' : decide ((0 : Int) < (m : Int) + 1) = true := decide_eq_true (by omega)
   have z0' : decide (0 < m + 1) = true := decide_eq_true (by omega)
   have hw1 : IntKind.i64.wrap ((m : Int) + 1 - 1) = (m : Int) := by rw [IntKind.wrap_i64]; omega
   have m0 : (0 : Int) <= m := by omega
   have m1 : (m : Int) < nh := by omega
   obtain ⟨b2, off2, y, he2, -, hy, ⟨q0, q1, q2⟩, qq0, qq1, qq2⟩ := Y.at3q HH4.out (i := m) (by omega)
   cases he2
   have HY := Zh hy
   obtain ⟨u, hu⟩ : ∃ u, decide (y.a < x.a \/ x.a = y.a /\ y.b < x.b) = u := ⟨_, rfl⟩
   have HU := Zh hu
   have cb := fun W => zd3 x.a x.b y.a y.b u hu W
   clear hy hu
   have HW4 := Zh (Below.refl w4.heap.size w4)
   cases u with
   | false =>
    have c0 := Y.cs16 KS3.out
    obtain ⟨x0, x1, x2⟩ := Y.cs3 KX3.out
    obtain ⟨z0, z1⟩ := Y.cb2 KB4.out
    obtain ⟨qc0, qc1, qc2, qc3, qc4, qc5, qc6, qc7, qc8, qc9, qc10, qc11, qc12, qc13, qc14, qc15⟩ := Y.cs16q KS3.out
    obtain ⟨qx0, qx1, qx2⟩ := Y.cs3q KX3.out
    obtain ⟨qz0, qz1⟩ := Y.cb2q KB4.out
    clear x0 x1
    go_wp2_with fail
    try rw [hw3]
    try rw [hw4]
    refine wp_region_quiet_below (by kernel_rfl) (by kernel_rfl) ?_
    repeat (go_big_quiet_step (first | with_reducible exact Calls.regrown_of (ck _) | with_reducible exact Calls.regrown_of (cb _)))
    refine wpQuiet_nil ?_
    intro _ hw'
    obtain ⟨⟨dq, osq⟩, hw''⟩ := hw'
    subst hw''
    clear qc0 qc1 qc2 qc3 qc4 qc5 qc6 qc7 qc8 qc9 qc10 qc11 qc12 qc13 qc14 qc15 qx0 qx1 qx2 qz0 qz1
    clear c0
    clear x0 x1 x2
    clear z0 z1
    clear ck hw3 hw4 cb q0 q1 q2 qq0 qq1 qq2
    obtain ⟨w5, hq⟩ : ∃ W, Go.Sort.grow (redrawn w4 dq) osq = W := ⟨_, rfl⟩
    have hb : Below w4.heap.size w4 w5 := by rw [<- hq]; exact below_regrown _ _ _
    rw [hq]
    clear hq
    have HQ5 := Zh (HQ4.out.below hb)
    have HL5 := Zh (HL4.out.below hb)
    have HH5 := Zh (HH4.out.below hb)
    replace KS3 := Zk KS3 hb
    replace KX3 := Zk KX3 hb
    replace KB4 := Zk KB4 hb
    replace HW4 := Zt HW4 hb
    have HB5 := Zt HB4 hb
    clear hb HQ4 HL4 HH4 HB4
    have c0 := Y.cs16 KS3.out
    obtain ⟨x0, x1, x2⟩ := Y.cs3 KX3.out
    obtain ⟨z0, z1⟩ := Y.cb2 KB4.out
    clear z0 z1
    have HE : Hid (v = false) := Zh (by rw [<- HV.out]; exact decide_eq_false fun hok => Y.SrtH.no HY.out HX.out (fun hl => by have h := of_decide_eq_false HU.out; unfold Y.LtH at hl; exact h (by omega)) hok.1)
    go_wp2
    go_ret
    exact ⟨by rw [HE.out]; rfl, HB5.out⟩
   | true =>
    cases bk with
    | false =>
     have c0 := Y.cs16 KS3.out
     obtain ⟨x0, x1, x2⟩ := Y.cs3 KX3.out
     obtain ⟨z0, z1⟩ := Y.cb2 KB4.out
     obtain ⟨qc0, qc1, qc2, qc3, qc4, qc5, qc6, qc7, qc8, qc9, qc10, qc11, qc12, qc13, qc14, qc15⟩ := Y.cs16q KS3.out
     obtain ⟨qx0, qx1, qx2⟩ := Y.cs3q KX3.out
     obtain ⟨qz0, qz1⟩ := Y.cb2q KB4.out
     clear x0 x1
     go_wp2_with fail
     try rw [hw3]
     try rw [hw4]
     refine wp_region_quiet_below (by kernel_rfl) (by kernel_rfl) ?_
     repeat (go_big_quiet_step (first | with_reducible exact Calls.regrown_of (ck _) | with_reducible exact Calls.regrown_of (cb _)))
     refine wpQuiet_nil ?_
     intro _ hw'
     obtain ⟨⟨dq, osq⟩, hw''⟩ := hw'
     subst hw''
     clear qc0 qc1 qc2 qc3 qc4 qc5 qc6 qc7 qc8 qc9 qc10 qc11 qc12 qc13 qc14 qc15 qx0 qx1 qx2 qz0 qz1
     clear c0
     clear x0 x1 x2
     clear z0 z1
     clear ck hw3 hw4 cb q0 q1 q2 qq0 qq1 qq2
     obtain ⟨w5, hq⟩ : ∃ W, Go.Sort.grow (redrawn w4 dq) osq = W := ⟨_, rfl⟩
     have hb : Below w4.heap.size w4 w5 := by rw [<- hq]; exact below_regrown _ _ _
     rw [hq]
     clear hq
     have HQ5 := Zh (HQ4.out.below hb)
     have HL5 := Zh (HL4.out.below hb)
     have HH5 := Zh (HH4.out.below hb)
     replace KS3 := Zk KS3 hb
     replace KX3 := Zk KX3 hb
     replace KB4 := Zk KB4 hb
     replace HW4 := Zt HW4 hb
     have HB5 := Zt HB4 hb
     clear hb HQ4 HL4 HH4 HB4
     have c0 := Y.cs16 KS3.out
     obtain ⟨x0, x1, x2⟩ := Y.cs3 KX3.out
     obtain ⟨z0, z1⟩ := Y.cb2 KB4.out
     clear z0 z1
     have HE : Hid (v = false) := Zh (by rw [<- HV.out]; exact decide_eq_false fun hok => by have := (hok.2 x (List.mem_of_getElem? HX.out)).1; rw [HK.out] at this; cases this)
     go_wp2
     go_ret
     exact ⟨by rw [HE.out]; rfl, HB5.out⟩
    | true =>
     have c0 := Y.cs16 KS3.out
     obtain ⟨x0, x1, x2⟩ := Y.cs3 KX3.out
     obtain ⟨z0, z1⟩ := Y.cb2 KB4.out
     obtain ⟨qc0, qc1, qc2, qc3, qc4, qc5, qc6, qc7, qc8, qc9, qc10, qc11, qc12, qc13, qc14, qc15⟩ := Y.cs16q KS3.out
     obtain ⟨qx0, qx1, qx2⟩ := Y.cs3q KX3.out
     obtain ⟨qz0, qz1⟩ := Y.cb2q KB4.out
     clear x0 x1
     go_wp2_with fail
     try rw [hw3]
     try rw [hw4]
     refine wp_region_quiet_below (by kernel_rfl) (by kernel_rfl) ?_
     repeat (go_big_quiet_step (first | with_reducible exact Calls.regrown_of (ck _) | with_reducible exact Calls.regrown_of (cb _)))
     refine wpQuiet_nil ?_
     intro _ hw'
     obtain ⟨⟨dq, osq⟩, hw''⟩ := hw'
     subst hw''
     clear qc0 qc1 qc2 qc3 qc4 qc5 qc6 qc7 qc8 qc9 qc10 qc11 qc12 qc13 qc14 qc15 qx0 qx1 qx2 qz0 qz1
     clear c0
     clear x0 x1 x2
     clear z0 z1
     clear ck hw3 hw4 cb q0 q1 q2 qq0 qq1 qq2
     obtain ⟨w5, hq⟩ : ∃ W, Go.Sort.grow (redrawn w4 dq) osq = W := ⟨_, rfl⟩
     have hb : Below w4.heap.size w4 w5 := by rw [<- hq]; exact below_regrown _ _ _
     rw [hq]
     clear hq
     have HQ5 := Zh (HQ4.out.below hb)
     have HL5 := Zh (HL4.out.below hb)
     have HH5 := Zh (HH4.out.below hb)
     replace KS3 := Zk KS3 hb
     replace KX3 := Zk KX3 hb
     replace KB4 := Zk KB4 hb
     replace HW4 := Zt HW4 hb
     have HB5 := Zt HB4 hb
     clear hb HQ4 HL4 HH4 HB4
     have c0 := Y.cs16 KS3.out
     obtain ⟨x0, x1, x2⟩ := Y.cs3 KX3.out
     obtain ⟨z0, z1⟩ := Y.cb2 KB4.out
     clear z0 z1
     obtain ⟨r, hr⟩ : ∃ v, L.find s.l x.a x.b = v := ⟨_, rfl⟩
     have HR := Zh hr
     have hr1 := L.find_lt s.l x.a x.b
     rw [hr] at hr1
     go_wp2_with fail
     refine (zni al nl cl s.l x.a x.b r hr w5 HL5.out (by omega)).mono ?_
     clear c0
     clear x0 x1 x2
     rintro e w6 ⟨rfl, hb⟩
     have HQ6 := Zh (HQ5.out.below hb)
     have HL6 := Zh (HL5.out.below hb)
     have HH6 := Zh (HH5.out.below hb)
     replace KS3 := Zk KS3 hb
     replace KX3 := Zk KX3 hb
     replace KB4 := Zk KB4 hb
     replace HW4 := Zt HW4 hb
     have HB6 := Zt HB5 hb
     clear hb HQ5 HL5 HH5 HB5
     have c0 := Y.cs16 KS3.out
     obtain ⟨x0, x1, x2⟩ := Y.cs3 KX3.out
     clear hr
     have hw2 : IntKind.i64.wrap (s.now + 1048576) = s.now + 1048576 := by have := HN.out; rw [IntKind.wrap_i64]; omega
     by_cases k2 : r = -1
     rotate_left
     ·have e2 : (r != -1) = true := by simpa using k2
      have HE : Hid (v = false) := Zh (by rw [<- HV.out]; exact decide_eq_false fun hok => k2 (by rw [<- HR.out]; exact L.find_none.2 (hok.2 x (List.mem_of_getElem? HX.out)).2.2.2))
      go_wp2
      go_ret
      exact ⟨by rw [HE.out]; rfl, HB6.out⟩
     subst k2
     have e2 : ((-1 : Int) != -1) = false := rfl
     by_cases k3 : x.x <= s.now
     ·have d3 : decide (x.x <= s.now) = true := decide_eq_true k3
      have HE : Hid (v = false) := Zh (by rw [<- HV.out]; exact decide_eq_false fun hok => by have := (hok.2 x (List.mem_of_getElem? HX.out)).2.1; omega)
      go_wp2
      go_ret
      exact ⟨by rw [HE.out]; rfl, HB6.out⟩
     have d3 : decide (x.x <= s.now) = false := decide_eq_false k3
     by_cases k4 : s.now + 1048576 < x.x
     ·have d4 : decide (s.now + 1048576 < x.x) = true := decide_eq_true k4
      have HE : Hid (v = false) := Zh (by rw [<- HV.out]; exact decide_eq_false fun hok => by have := (hok.2 x (List.mem_of_getElem? HX.out)).2.2.1; omega)
      go_wp2
      go_ret
      exact ⟨by rw [HE.out]; rfl, HB6.out⟩
     have d4 : decide (s.now + 1048576 < x.x) = false := decide_eq_false k4
     have HSR2 := Zh (Y.SrtH.snoc HSR.out HY.out HX.out (by have h := of_decide_eq_true HU.out; unfold Y.LtH; omega))
     have HOK2 : Hid (∀ z ∈ s.h.take (m + 1 + 1), Y.okH s z) := Zh (by
      rw [List.take_succ_eq_append_getElem (by omega : m + 1 < s.h.length)]
      intro z hz
      rcases List.mem_append.1 hz with hz | hz
      ·exact HOK.out z hz
      ·have he := (List.getElem?_eq_some_iff.1 HX.out).2
       rw [List.mem_singleton, he] at hz
       subst hz
       exact ⟨HK.out, by omega, by omega, L.find_none.1 HR.out⟩)
     go_wp2
     go_roundw
     case rel => exact ⟨m + 1 + 1, by go_num, by omega, HSR2, HOK2, Zh (HL4r.out.trans (HW4.out.mono HL4r.out.size))⟩
     case measure => simp [intOf] <;> omega
end Go.Proofs.YtnbkkjcmblfhpaaGreat
namespace Go.Proofs.YtnbkkjcmblfhpaaGreat
set_option maxHeartbeats 2000000
set_option maxRecDepth 100000
open Go.RowKit
theorem zlp (s : Y.St) (A : Y.A9) (w : World) (h : Y.SIn w A s) (hf : Y.Fits A s) (h1 : E.fit s.d = false) :
  Calls Tryz.prog 66 #[Y.val s A] w fun e w' => e = .returned (.bool false) /\ Below w.heap.size w w' := by
 obtain ⟨ap, np, cp, al, nl, cl, ah, nh, ch⟩ := A
 have hnp : np <= 600 := hf.p
 have hnl : nl <= 600 := hf.l
 have hnh : nh <= 600 := hf.h
 have HF := Zh hf
 have HB0 := Zh (Below.refl w.heap.size w)
 have HQ0 := Zh ((h.p : QIn w ap np cp s.ps))
 have HL0 := Zh ((h.l : RIn w al nl cl s.l))
 have HH0 := Zh ((h.h : RIn w ah nh ch s.h))
 clear h hf
 unfold Y.val
 obtain ⟨w1, hw1, hb, hk⟩ := Zn w 37 #[.int .i64 s.d.b, .int .i64 s.d.k, .int .i64 s.d.c, .int .i64 s.d.j, .int .i64 s.d.lo, .int .i64 s.d.hi, .int .i64 s.d.dy, .int .i64 s.d.bl, .int .i64 s.p.q, .int .i64 s.p.i, .int .i64 s.p.h, .bool s.p.pair, .int .i64 s.now, .slice ap np cp, .slice al nl cl, .slice ah nh ch]
 replace HQ0 := Zh (HQ0.out.below hb)
 replace HL0 := Zh (HL0.out.below hb)
 replace HH0 := Zh (HH0.out.below hb)
 replace HB0 := Zt HB0 hb
 have KS1 := Zh hk
 clear hb hk
 have cc1 := fun W => za6 s.d _ W h1 HF.out.b HF.out.c
 clear h1
 have c0 := Y.cs16 KS1.out
 go_enter Tryz.func66, Tryz.ntmps66
 obtain ⟨qc0, qc1, qc2, qc3, qc4, qc5, qc6, qc7, qc8, qc9, qc10, qc11, qc12, qc13, qc14, qc15⟩ := Y.cs16q KS1.out
 go_wp2_with fail
 try rw [hw1]
 refine wp_region_quiet_below (by kernel_rfl) (by kernel_rfl) ?_
 repeat (go_big_quiet_step (first | with_reducible exact Calls.regrown_of (cc1 _)))
 refine wpQuiet_nil ?_
 intro _ hw'
 obtain ⟨⟨dq, osq⟩, hw''⟩ := hw'
 subst hw''
 clear qc0 qc1 qc2 qc3 qc4 qc5 qc6 qc7 qc8 qc9 qc10 qc11 qc12 qc13 qc14 qc15
 clear c0
 clear cc1
 obtain ⟨w2, hq⟩ : ∃ W, Go.Sort.grow (redrawn w1 dq) osq = W := ⟨_, rfl⟩
 have hb : Below w1.heap.size w1 w2 := by rw [<- hq]; exact below_regrown _ _ _
 rw [hq]
 clear hq
 replace HQ0 := Zh (HQ0.out.below hb)
 replace HL0 := Zh (HL0.out.below hb)
 replace HH0 := Zh (HH0.out.below hb)
 replace KS1 := Zk KS1 hb
 replace HB0 := Zt HB0 hb
 clear hb
 have c0 := Y.cs16 KS1.out
 clear c0
 go_wp2
 go_ret
 exact ⟨rfl, HB0.out⟩
theorem zlq (s : Y.St) (A : Y.A9) (w : World) (h : Y.SIn w A s) (hf : Y.Fits A s) (h1 : E.fit s.d = true) (h2 : decide (Y.MayP s.p) = false) :
  Calls Tryz.prog 66 #[Y.val s A] w fun e w' => e = .returned (.bool false) /\ Below w.heap.size w w' := by
 obtain ⟨ap, np, cp, al, nl, cl, ah, nh, ch⟩ := A
 have hnp : np <= 600 := hf.p
 have hnl : nl <= 600 := hf.l
 have hnh : nh <= 600 := hf.h
 have HF := Zh hf
 have HB0 := Zh (Below.refl w.heap.size w)
 have HQ0 := Zh ((h.p : QIn w ap np cp s.ps))
 have HL0 := Zh ((h.l : RIn w al nl cl s.l))
 have HH0 := Zh ((h.h : RIn w ah nh ch s.h))
 clear h hf
 unfold Y.val
 obtain ⟨w1, hw1, hb, hk⟩ := Zn w 37 #[.int .i64 s.d.b, .int .i64 s.d.k, .int .i64 s.d.c, .int .i64 s.d.j, .int .i64 s.d.lo, .int .i64 s.d.hi, .int .i64 s.d.dy, .int .i64 s.d.bl, .int .i64 s.p.q, .int .i64 s.p.i, .int .i64 s.p.h, .bool s.p.pair, .int .i64 s.now, .slice ap np cp, .slice al nl cl, .slice ah nh ch]
 replace HQ0 := Zh (HQ0.out.below hb)
 replace HL0 := Zh (HL0.out.below hb)
 replace HH0 := Zh (HH0.out.below hb)
 replace HB0 := Zt HB0 hb
 have KS1 := Zh hk
 clear hb hk
 have cc1 := fun W => za6 s.d _ W h1 HF.out.b HF.out.c
 have cc2 := fun W => zbe s.p _ h2 W
 unfold Y.pval at cc2
 clear h1 h2
 have c0 := Y.cs16 KS1.out
 go_enter Tryz.func66, Tryz.ntmps66
 obtain ⟨qc0, qc1, qc2, qc3, qc4, qc5, qc6, qc7, qc8, qc9, qc10, qc11, qc12, qc13, qc14, qc15⟩ := Y.cs16q KS1.out
 go_wp2_with fail
 try rw [hw1]
 refine wp_region_quiet_below (by kernel_rfl) (by kernel_rfl) ?_
 repeat (go_big_quiet_step (first | with_reducible exact Calls.regrown_of (cc1 _) | with_reducible exact Calls.regrown_of (cc2 _)))
 refine wpQuiet_nil ?_
 intro _ hw'
 obtain ⟨⟨dq, osq⟩, hw''⟩ := hw'
 subst hw''
 clear qc0 qc1 qc2 qc3 qc4 qc5 qc6 qc7 qc8 qc9 qc10 qc11 qc12 qc13 qc14 qc15
 clear c0
 clear cc1 cc2
 obtain ⟨w2, hq⟩ : ∃ W, Go.Sort.grow (redrawn w1 dq) osq = W := ⟨_, rfl⟩
 have hb : Below w1.heap.size w1 w2 := by rw [<- hq]; exact below_regrown _ _ _
 rw [hq]
 clear hq
 replace HQ0 := Zh (HQ0.out.below hb)
 replace HL0 := Zh (HL0.out.below hb)
 replace HH0 := Zh (HH0.out.below hb)
 replace KS1 := Zk KS1 hb
 replace HB0 := Zt HB0 hb
 clear hb
 have c0 := Y.cs16 KS1.out
 clear c0
 go_wp2
 go_ret
 exact ⟨rfl, HB0.out⟩
theorem zlr (s : Y.St) (A : Y.A9) (w : World) (h : Y.SIn w A s) (hf : Y.Fits A s) (h1 : E.fit s.d = true) (h2 : decide (Y.MayP s.p) = true) (h3 : decide (0 <= s.now) = false) :
  Calls Tryz.prog 66 #[Y.val s A] w fun e w' => e = .returned (.bool false) /\ Below w.heap.size w w' := by
 obtain ⟨ap, np, cp, al, nl, cl, ah, nh, ch⟩ := A
 have hnp : np <= 600 := hf.p
 have hnl : nl <= 600 := hf.l
 have hnh : nh <= 600 := hf.h
 have HF := Zh hf
 have HB0 := Zh (Below.refl w.heap.size w)
 have HQ0 := Zh ((h.p : QIn w ap np cp s.ps))
 have HL0 := Zh ((h.l : RIn w al nl cl s.l))
 have HH0 := Zh ((h.h : RIn w ah nh ch s.h))
 clear h hf
 unfold Y.val
 obtain ⟨w1, hw1, hb, hk⟩ := Zn w 37 #[.int .i64 s.d.b, .int .i64 s.d.k, .int .i64 s.d.c, .int .i64 s.d.j, .int .i64 s.d.lo, .int .i64 s.d.hi, .int .i64 s.d.dy, .int .i64 s.d.bl, .int .i64 s.p.q, .int .i64 s.p.i, .int .i64 s.p.h, .bool s.p.pair, .int .i64 s.now, .slice ap np cp, .slice al nl cl, .slice ah nh ch]
 replace HQ0 := Zh (HQ0.out.below hb)
 replace HL0 := Zh (HL0.out.below hb)
 replace HH0 := Zh (HH0.out.below hb)
 replace HB0 := Zt HB0 hb
 have KS1 := Zh hk
 clear hb hk
 have cc1 := fun W => za6 s.d _ W h1 HF.out.b HF.out.c
 have cc2 := fun W => zbe s.p _ h2 W
 unfold Y.pval at cc2
 clear h1 h2
 have c0 := Y.cs16 KS1.out
 go_enter Tryz.func66, Tryz.ntmps66
 obtain ⟨qc0, qc1, qc2, qc3, qc4, qc5, qc6, qc7, qc8, qc9, qc10, qc11, qc12, qc13, qc14, qc15⟩ := Y.cs16q KS1.out
 go_wp2_with fail
 try rw [hw1]
 refine wp_region_quiet_below (by kernel_rfl) (by kernel_rfl) ?_
 repeat (go_big_quiet_step (first | with_reducible exact Calls.regrown_of (cc1 _) | with_reducible exact Calls.regrown_of (cc2 _)))
 refine wpQuiet_nil ?_
 intro _ hw'
 obtain ⟨⟨dq, osq⟩, hw''⟩ := hw'
 subst hw''
 clear qc0 qc1 qc2 qc3 qc4 qc5 qc6 qc7 qc8 qc9 qc10 qc11 qc12 qc13 qc14 qc15
 clear c0
 clear cc1 cc2
 obtain ⟨w2, hq⟩ : ∃ W, Go.Sort.grow (redrawn w1 dq) osq = W := ⟨_, rfl⟩
 have hb : Below w1.heap.size w1 w2 := by rw [<- hq]; exact below_regrown _ _ _
 rw [hq]
 clear hq
 replace HQ0 := Zh (HQ0.out.below hb)
 replace HL0 := Zh (HL0.out.below hb)
 replace HH0 := Zh (HH0.out.below hb)
 replace KS1 := Zk KS1 hb
 replace HB0 := Zt HB0 hb
 clear hb
 have c0 := Y.cs16 KS1.out
 clear c0
 go_wp2
 go_ret
 exact ⟨rfl, HB0.out⟩
theorem zls (s : Y.St) (A : Y.A9) (w : World) (h : Y.SIn w A s) (hf : Y.Fits A s) (h1 : E.fit s.d = true) (h2 : decide (Y.MayP s.p) = true) (h3 : decide (0 <= s.now) = true) (h4 : decide (s.now <= 1073741824) = false) :
  Calls Tryz.prog 66 #[Y.val s A] w fun e w' => e = .returned (.bool false) /\ Below w.heap.size w w' := by
 obtain ⟨ap, np, cp, al, nl, cl, ah, nh, ch⟩ := A
 have hnp : np <= 600 := hf.p
 have hnl : nl <= 600 := hf.l
 have hnh : nh <= 600 := hf.h
 have HF := Zh hf
 have HB0 := Zh (Below.refl w.heap.size w)
 have HQ0 := Zh ((h.p : QIn w ap np cp s.ps))
 have HL0 := Zh ((h.l : RIn w al nl cl s.l))
 have HH0 := Zh ((h.h : RIn w ah nh ch s.h))
 clear h hf
 unfold Y.val
 obtain ⟨w1, hw1, hb, hk⟩ := Zn w 37 #[.int .i64 s.d.b, .int .i64 s.d.k, .int .i64 s.d.c, .int .i64 s.d.j, .int .i64 s.d.lo, .int .i64 s.d.hi, .int .i64 s.d.dy, .int .i64 s.d.bl, .int .i64 s.p.q, .int .i64 s.p.i, .int .i64 s.p.h, .bool s.p.pair, .int .i64 s.now, .slice ap np cp, .slice al nl cl, .slice ah nh ch]
 replace HQ0 := Zh (HQ0.out.below hb)
 replace HL0 := Zh (HL0.out.below hb)
 replace HH0 := Zh (HH0.out.below hb)
 replace HB0 := Zt HB0 hb
 have KS1 := Zh hk
 clear hb hk
 have cc1 := fun W => za6 s.d _ W h1 HF.out.b HF.out.c
 have cc2 := fun W => zbe s.p _ h2 W
 unfold Y.pval at cc2
 clear h1 h2
 have c0 := Y.cs16 KS1.out
 go_enter Tryz.func66, Tryz.ntmps66
 obtain ⟨qc0, qc1, qc2, qc3, qc4, qc5, qc6, qc7, qc8, qc9, qc10, qc11, qc12, qc13, qc14, qc15⟩ := Y.cs16q KS1.out
 go_wp2_with fail
 try rw [hw1]
 refine wp_region_quiet_below (by kernel_rfl) (by kernel_rfl) ?_
 repeat (go_big_quiet_step (first | with_reducible exact Calls.regrown_of (cc1 _) | with_reducible exact Calls.regrown_of (cc2 _)))
 refine wpQuiet_nil ?_
 intro _ hw'
 obtain ⟨⟨dq, osq⟩, hw''⟩ := hw'
 subst hw''
 clear qc0 qc1 qc2 qc3 qc4 qc5 qc6 qc7 qc8 qc9 qc10 qc11 qc12 qc13 qc14 qc15
 clear c0
 clear cc1 cc2
 obtain ⟨w2, hq⟩ : ∃ W, Go.Sort.grow (redrawn w1 dq) osq = W := ⟨_, rfl⟩
 have hb : Below w1.heap.size w1 w2 := by rw [<- hq]; exact below_regrown _ _ _
 rw [hq]
 clear hq
 replace HQ0 := Zh (HQ0.out.below hb)
 replace HL0 := Zh (HL0.out.below hb)
 replace HH0 := Zh (HH0.out.below hb)
 replace KS1 := Zk KS1 hb
 replace HB0 := Zt HB0 hb
 clear hb
 have c0 := Y.cs16 KS1.out
 clear c0
 go_wp2
 go_ret
 exact ⟨rfl, HB0.out⟩
theorem zlt (s : Y.St) (A : Y.A9) (w : World) (h : Y.SIn w A s) (hf : Y.Fits A s) (h1 : E.fit s.d = true) (h2 : decide (Y.MayP s.p) = true) (h3 : decide (0 <= s.now) = true) (h4 : decide (s.now <= 1073741824) = true) (h5 : O.may s.ps (E.no s.d) = false) :
  Calls Tryz.prog 66 #[Y.val s A] w fun e w' => e = .returned (.bool false) /\ Below w.heap.size w w' := by
 obtain ⟨ap, np, cp, al, nl, cl, ah, nh, ch⟩ := A
 have hnp : np <= 600 := hf.p
 have hnl : nl <= 600 := hf.l
 have hnh : nh <= 600 := hf.h
 have HF := Zh hf
 have HB0 := Zh (Below.refl w.heap.size w)
 have HQ0 := Zh ((h.p : QIn w ap np cp s.ps))
 have HL0 := Zh ((h.l : RIn w al nl cl s.l))
 have HH0 := Zh ((h.h : RIn w ah nh ch s.h))
 clear h hf
 unfold Y.val
 obtain ⟨w1, hw1, hb, hk⟩ := Zn w 37 #[.int .i64 s.d.b, .int .i64 s.d.k, .int .i64 s.d.c, .int .i64 s.d.j, .int .i64 s.d.lo, .int .i64 s.d.hi, .int .i64 s.d.dy, .int .i64 s.d.bl, .int .i64 s.p.q, .int .i64 s.p.i, .int .i64 s.p.h, .bool s.p.pair, .int .i64 s.now, .slice ap np cp, .slice al nl cl, .slice ah nh ch]
 replace HQ0 := Zh (HQ0.out.below hb)
 replace HL0 := Zh (HL0.out.below hb)
 replace HH0 := Zh (HH0.out.below hb)
 replace HB0 := Zt HB0 hb
 have KS1 := Zh hk
 clear hb hk
 have cc1 := fun W => za6 s.d _ W h1 HF.out.b HF.out.c
 have cc2 := fun W => zbe s.p _ h2 W
 unfold Y.pval at cc2
 obtain ⟨no, hno⟩ : ∃ u, E.no s.d = u := ⟨_, rfl⟩
 rw [hno] at h5
 have cc3 := fun W => za3 s.d no hno W
 have cc4 := fun d os => zbi ap np cp s.ps no _ h5 (Go.Sort.grow (redrawn w1 d) os) (HQ0.out.below (below_regrown w1 d os)) (by omega) HF.out.sm
 clear h1 h2 h5
 have c0 := Y.cs16 KS1.out
 go_enter Tryz.func66, Tryz.ntmps66
 obtain ⟨qc0, qc1, qc2, qc3, qc4, qc5, qc6, qc7, qc8, qc9, qc10, qc11, qc12, qc13, qc14, qc15⟩ := Y.cs16q KS1.out
 go_wp2_with fail
 try rw [hw1]
 refine wp_region_quiet_below (by kernel_rfl) (by kernel_rfl) ?_
 repeat (go_big_quiet_step (first | with_reducible exact Calls.regrown_of (cc1 _) | with_reducible exact Calls.regrown_of (cc2 _) | with_reducible exact Calls.regrown_of (cc3 _) | with_reducible exact Calls.regrown_of (cc4 _ _)))
 refine wpQuiet_nil ?_
 intro _ hw'
 obtain ⟨⟨dq, osq⟩, hw''⟩ := hw'
 subst hw''
 clear qc0 qc1 qc2 qc3 qc4 qc5 qc6 qc7 qc8 qc9 qc10 qc11 qc12 qc13 qc14 qc15
 clear c0
 clear cc1 cc2 cc3 cc4
 obtain ⟨w2, hq⟩ : ∃ W, Go.Sort.grow (redrawn w1 dq) osq = W := ⟨_, rfl⟩
 have hb : Below w1.heap.size w1 w2 := by rw [<- hq]; exact below_regrown _ _ _
 rw [hq]
 clear hq
 replace HQ0 := Zh (HQ0.out.below hb)
 replace HL0 := Zh (HL0.out.below hb)
 replace HH0 := Zh (HH0.out.below hb)
 replace KS1 := Zk KS1 hb
 replace HB0 := Zt HB0 hb
 clear hb
 have c0 := Y.cs16 KS1.out
 clear c0
 go_wp2
 go_ret
 exact ⟨rfl, HB0.out⟩
theorem zlu (s : Y.St) (A : Y.A9) (w : World) (h : Y.SIn w A s) (hf : Y.Fits A s) (h1 : E.fit s.d = true) (h2 : decide (Y.MayP s.p) = true) (h3 : decide (0 <= s.now) = true) (h4 : decide (s.now <= 1073741824) = true) (h5 : O.may s.ps (E.no s.d) = true) (h6 : decide (s.l.length <= 32 /\ L.Srt s.l /\ ∀ x ∈ s.l, Y.okL s x) = false) :
  Calls Tryz.prog 66 #[Y.val s A] w fun e w' => e = .returned (.bool false) /\ Below w.heap.size w w' := by
 obtain ⟨ap, np, cp, al, nl, cl, ah, nh, ch⟩ := A
 have hnp : np <= 600 := hf.p
 have hnl : nl <= 600 := hf.l
 have hnh : nh <= 600 := hf.h
 have HF := Zh hf
 have HB0 := Zh (Below.refl w.heap.size w)
 have HQ0 := Zh ((h.p : QIn w ap np cp s.ps))
 have HL0 := Zh ((h.l : RIn w al nl cl s.l))
 have HH0 := Zh ((h.h : RIn w ah nh ch s.h))
 clear h hf
 unfold Y.val
 obtain ⟨w1, hw1, hb, hk⟩ := Zn w 37 #[.int .i64 s.d.b, .int .i64 s.d.k, .int .i64 s.d.c, .int .i64 s.d.j, .int .i64 s.d.lo, .int .i64 s.d.hi, .int .i64 s.d.dy, .int .i64 s.d.bl, .int .i64 s.p.q, .int .i64 s.p.i, .int .i64 s.p.h, .bool s.p.pair, .int .i64 s.now, .slice ap np cp, .slice al nl cl, .slice ah nh ch]
 replace HQ0 := Zh (HQ0.out.below hb)
 replace HL0 := Zh (HL0.out.below hb)
 replace HH0 := Zh (HH0.out.below hb)
 replace HB0 := Zt HB0 hb
 have KS1 := Zh hk
 clear hb hk
 have cc1 := fun W => za6 s.d _ W h1 HF.out.b HF.out.c
 have cc2 := fun W => zbe s.p _ h2 W
 unfold Y.pval at cc2
 obtain ⟨no, hno⟩ : ∃ u, E.no s.d = u := ⟨_, rfl⟩
 rw [hno] at h5
 have cc3 := fun W => za3 s.d no hno W
 have cc4 := fun d os => zbi ap np cp s.ps no _ h5 (Go.Sort.grow (redrawn w1 d) os) (HQ0.out.below (below_regrown w1 d os)) (by omega) HF.out.sm
 have cc5 := fun d os => zb3 s ⟨ap, np, cp, al, nl, cl, ah, nh, ch⟩ _ h6 (Go.Sort.grow (redrawn w1 d) os) ⟨(HQ0.out.below (below_regrown w1 d os) : QIn _ ap np cp s.ps), HL0.out.below (below_regrown w1 d os), HH0.out.below (below_regrown w1 d os)⟩ HF.out (of_decide_eq_true h2) ⟨of_decide_eq_true h3, of_decide_eq_true h4⟩
 unfold Y.val at cc5
 clear h1 h2 h5 h6
 have c0 := Y.cs16 KS1.out
 go_enter Tryz.func66, Tryz.ntmps66
 obtain ⟨qc0, qc1, qc2, qc3, qc4, qc5, qc6, qc7, qc8, qc9, qc10, qc11, qc12, qc13, qc14, qc15⟩ := Y.cs16q KS1.out
 go_wp2_with fail
 try rw [hw1]
 refine wp_region_quiet_below (by kernel_rfl) (by kernel_rfl) ?_
 repeat (go_big_quiet_step (first | with_reducible exact Calls.regrown_of (cc1 _) | with_reducible exact Calls.regrown_of (cc2 _) | with_reducible exact Calls.regrown_of (cc3 _) | with_reducible exact Calls.regrown_of (cc4 _ _) | with_reducible exact Calls.regrown_of (cc5 _ _)))
 refine wpQuiet_nil ?_
 intro _ hw'
 obtain ⟨⟨dq, osq⟩, hw''⟩ := hw'
 subst hw''
 clear qc0 qc1 qc2 qc3 qc4 qc5 qc6 qc7 qc8 qc9 qc10 qc11 qc12 qc13 qc14 qc15
 clear c0
 clear cc1 cc2 cc3 cc4 cc5
 obtain ⟨w2, hq⟩ : ∃ W, Go.Sort.grow (redrawn w1 dq) osq = W := ⟨_, rfl⟩
 have hb : Below w1.heap.size w1 w2 := by rw [<- hq]; exact below_regrown _ _ _
 rw [hq]
 clear hq
 replace HQ0 := Zh (HQ0.out.below hb)
 replace HL0 := Zh (HL0.out.below hb)
 replace HH0 := Zh (HH0.out.below hb)
 replace KS1 := Zk KS1 hb
 replace HB0 := Zt HB0 hb
 clear hb
 have c0 := Y.cs16 KS1.out
 clear c0
 go_wp2
 go_ret
 exact ⟨rfl, HB0.out⟩
theorem zlv (s : Y.St) (A : Y.A9) (w : World) (h : Y.SIn w A s) (hf : Y.Fits A s) (h1 : E.fit s.d = true) (h2 : decide (Y.MayP s.p) = true) (h3 : decide (0 <= s.now) = true) (h4 : decide (s.now <= 1073741824) = true) (h5 : O.may s.ps (E.no s.d) = true) (h6 : decide (s.l.length <= 32 /\ L.Srt s.l /\ ∀ x ∈ s.l, Y.okL s x) = true) (h7 : decide (Y.SrtH s.h /\ ∀ y ∈ s.h, Y.okH s y) = false) :
  Calls Tryz.prog 66 #[Y.val s A] w fun e w' => e = .returned (.bool false) /\ Below w.heap.size w w' := by
 obtain ⟨ap, np, cp, al, nl, cl, ah, nh, ch⟩ := A
 have hnp : np <= 600 := hf.p
 have hnl : nl <= 600 := hf.l
 have hnh : nh <= 600 := hf.h
 have HF := Zh hf
 have HB0 := Zh (Below.refl w.heap.size w)
 have HQ0 := Zh ((h.p : QIn w ap np cp s.ps))
 have HL0 := Zh ((h.l : RIn w al nl cl s.l))
 have HH0 := Zh ((h.h : RIn w ah nh ch s.h))
 clear h hf
 unfold Y.val
 obtain ⟨w1, hw1, hb, hk⟩ := Zn w 37 #[.int .i64 s.d.b, .int .i64 s.d.k, .int .i64 s.d.c, .int .i64 s.d.j, .int .i64 s.d.lo, .int .i64 s.d.hi, .int .i64 s.d.dy, .int .i64 s.d.bl, .int .i64 s.p.q, .int .i64 s.p.i, .int .i64 s.p.h, .bool s.p.pair, .int .i64 s.now, .slice ap np cp, .slice al nl cl, .slice ah nh ch]
 replace HQ0 := Zh (HQ0.out.below hb)
 replace HL0 := Zh (HL0.out.below hb)
 replace HH0 := Zh (HH0.out.below hb)
 replace HB0 := Zt HB0 hb
 have KS1 := Zh hk
 clear hb hk
 have cc1 := fun W => za6 s.d _ W h1 HF.out.b HF.out.c
 have cc2 := fun W => zbe s.p _ h2 W
 unfold Y.pval at cc2
 obtain ⟨no, hno⟩ : ∃ u, E.no s.d = u := ⟨_, rfl⟩
 rw [hno] at h5
 have cc3 := fun W => za3 s.d no hno W
 have cc4 := fun d os => zbi ap np cp s.ps no _ h5 (Go.Sort.grow (redrawn w1 d) os) (HQ0.out.below (below_regrown w1 d os)) (by omega) HF.out.sm
 have cc5 := fun d os => zb3 s ⟨ap, np, cp, al, nl, cl, ah, nh, ch⟩ _ h6 (Go.Sort.grow (redrawn w1 d) os) ⟨(HQ0.out.below (below_regrown w1 d os) : QIn _ ap np cp s.ps), HL0.out.below (below_regrown w1 d os), HH0.out.below (below_regrown w1 d os)⟩ HF.out (of_decide_eq_true h2) ⟨of_decide_eq_true h3, of_decide_eq_true h4⟩
 unfold Y.val at cc5
 have cc6 := fun d os => zd5 s ⟨ap, np, cp, al, nl, cl, ah, nh, ch⟩ _ h7 (Go.Sort.grow (redrawn w1 d) os) ⟨(HQ0.out.below (below_regrown w1 d os) : QIn _ ap np cp s.ps), HL0.out.below (below_regrown w1 d os), HH0.out.below (below_regrown w1 d os)⟩ HF.out (of_decide_eq_true h2) ⟨of_decide_eq_true h3, of_decide_eq_true h4⟩
 unfold Y.val at cc6
 clear h1 h2 h5 h6 h7
 have c0 := Y.cs16 KS1.out
 go_enter Tryz.func66, Tryz.ntmps66
 obtain ⟨qc0, qc1, qc2, qc3, qc4, qc5, qc6, qc7, qc8, qc9, qc10, qc11, qc12, qc13, qc14, qc15⟩ := Y.cs16q KS1.out
 go_wp2_with fail
 try rw [hw1]
 refine wp_region_quiet_below (by kernel_rfl) (by kernel_rfl) ?_
 repeat (go_big_quiet_step (first | with_reducible exact Calls.regrown_of (cc1 _) | with_reducible exact Calls.regrown_of (cc2 _) | with_reducible exact Calls.regrown_of (cc3 _) | with_reducible exact Calls.regrown_of (cc4 _ _) | with_reducible exact Calls.regrown_of (cc5 _ _) | with_reducible exact Calls.regrown_of (cc6 _ _)))
 refine wpQuiet_nil ?_
 intro _ hw'
 obtain ⟨⟨dq, osq⟩, hw''⟩ := hw'
 subst hw''
 clear qc0 qc1 qc2 qc3 qc4 qc5 qc6 qc7 qc8 qc9 qc10 qc11 qc12 qc13 qc14 qc15
 clear c0
 clear cc1 cc2 cc3 cc4 cc5 cc6
 obtain ⟨w2, hq⟩ : ∃ W, Go.Sort.grow (redrawn w1 dq) osq = W := ⟨_, rfl⟩
 have hb : Below w1.heap.size w1 w2 := by rw [<- hq]; exact below_regrown _ _ _
 rw [hq]
 clear hq
 replace HQ0 := Zh (HQ0.out.below hb)
 replace HL0 := Zh (HL0.out.below hb)
 replace HH0 := Zh (HH0.out.below hb)
 replace KS1 := Zk KS1 hb
 replace HB0 := Zt HB0 hb
 clear hb
 have c0 := Y.cs16 KS1.out
 clear c0
 go_wp2
 go_ret
 exact ⟨rfl, HB0.out⟩
theorem zmm (s : Y.St) (A : Y.A9) (w : World) (h : Y.SIn w A s) (hf : Y.Fits A s) (h1 : E.fit s.d = true) (h2 : decide (Y.MayP s.p) = true) (h3 : decide (0 <= s.now) = true) (h4 : decide (s.now <= 1073741824) = true) (h5 : O.may s.ps (E.no s.d) = true) (h6 : decide (s.l.length <= 32 /\ L.Srt s.l /\ ∀ x ∈ s.l, Y.okL s x) = true) (h7 : decide (Y.SrtH s.h /\ ∀ y ∈ s.h, Y.okH s y) = true) :
  Calls Tryz.prog 66 #[Y.val s A] w fun e w' => e = .returned (.bool true) /\ Below w.heap.size w w' := by
 obtain ⟨ap, np, cp, al, nl, cl, ah, nh, ch⟩ := A
 have hnp : np <= 600 := hf.p
 have hnl : nl <= 600 := hf.l
 have hnh : nh <= 600 := hf.h
 have HF := Zh hf
 have HB0 := Zh (Below.refl w.heap.size w)
 have HQ0 := Zh ((h.p : QIn w ap np cp s.ps))
 have HL0 := Zh ((h.l : RIn w al nl cl s.l))
 have HH0 := Zh ((h.h : RIn w ah nh ch s.h))
 clear h hf
 unfold Y.val
 obtain ⟨w1, hw1, hb, hk⟩ := Zn w 37 #[.int .i64 s.d.b, .int .i64 s.d.k, .int .i64 s.d.c, .int .i64 s.d.j, .int .i64 s.d.lo, .int .i64 s.d.hi, .int .i64 s.d.dy, .int .i64 s.d.bl, .int .i64 s.p.q, .int .i64 s.p.i, .int .i64 s.p.h, .bool s.p.pair, .int .i64 s.now, .slice ap np cp, .slice al nl cl, .slice ah nh ch]
 replace HQ0 := Zh (HQ0.out.below hb)
 replace HL0 := Zh (HL0.out.below hb)
 replace HH0 := Zh (HH0.out.below hb)
 replace HB0 := Zt HB0 hb
 have KS1 := Zh hk
 clear hb hk
 have cc1 := fun W => za6 s.d _ W h1 HF.out.b HF.out.c
 have cc2 := fun W => zbe s.p _ h2 W
 unfold Y.pval at cc2
 obtain ⟨no, hno⟩ : ∃ u, E.no s.d = u := ⟨_, rfl⟩
 rw [hno] at h5
 have cc3 := fun W => za3 s.d no hno W
 have cc4 := fun d os => zbi ap np cp s.ps no _ h5 (Go.Sort.grow (redrawn w1 d) os) (HQ0.out.below (below_regrown w1 d os)) (by omega) HF.out.sm
 have cc5 := fun d os => zb3 s ⟨ap, np, cp, al, nl, cl, ah, nh, ch⟩ _ h6 (Go.Sort.grow (redrawn w1 d) os) ⟨(HQ0.out.below (below_regrown w1 d os) : QIn _ ap np cp s.ps), HL0.out.below (below_regrown w1 d os), HH0.out.below (below_regrown w1 d os)⟩ HF.out (of_decide_eq_true h2) ⟨of_decide_eq_true h3, of_decide_eq_true h4⟩
 unfold Y.val at cc5
 have cc6 := fun d os => zd5 s ⟨ap, np, cp, al, nl, cl, ah, nh, ch⟩ _ h7 (Go.Sort.grow (redrawn w1 d) os) ⟨(HQ0.out.below (below_regrown w1 d os) : QIn _ ap np cp s.ps), HL0.out.below (below_regrown w1 d os), HH0.out.below (below_regrown w1 d os)⟩ HF.out (of_decide_eq_true h2) ⟨of_decide_eq_true h3, of_decide_eq_true h4⟩
 unfold Y.val at cc6
 clear h1 h2 h5 h6 h7
 have c0 := Y.cs16 KS1.out
 go_enter Tryz.func66, Tryz.ntmps66
 obtain ⟨qc0, qc1, qc2, qc3, qc4, qc5, qc6, qc7, qc8, qc9, qc10, qc11, qc12, qc13, qc14, qc15⟩ := Y.cs16q KS1.out
 go_wp2_with fail
 try rw [hw1]
 refine wp_region_quiet_below (by kernel_rfl) (by kernel_rfl) ?_
 repeat (go_big_quiet_step (first | with_reducible exact Calls.regrown_of (cc1 _) | with_reducible exact Calls.regrown_of (cc2 _) | with_reducible exact Calls.regrown_of (cc3 _) | with_reducible exact Calls.regrown_of (cc4 _ _) | with_reducible exact Calls.regrown_of (cc5 _ _) | with_reducible exact Calls.regrown_of (cc6 _ _)))
 refine wpQuiet_nil ?_
 intro _ hw'
 obtain ⟨⟨dq, osq⟩, hw''⟩ := hw'
 subst hw''
 clear qc0 qc1 qc2 qc3 qc4 qc5 qc6 qc7 qc8 qc9 qc10 qc11 qc12 qc13 qc14 qc15
 clear c0
 clear cc1 cc2 cc3 cc4 cc5 cc6
 obtain ⟨w2, hq⟩ : ∃ W, Go.Sort.grow (redrawn w1 dq) osq = W := ⟨_, rfl⟩
 have hb : Below w1.heap.size w1 w2 := by rw [<- hq]; exact below_regrown _ _ _
 rw [hq]
 clear hq
 replace HQ0 := Zh (HQ0.out.below hb)
 replace HL0 := Zh (HL0.out.below hb)
 replace HH0 := Zh (HH0.out.below hb)
 replace KS1 := Zk KS1 hb
 replace HB0 := Zt HB0 hb
 clear hb
 have c0 := Y.cs16 KS1.out
 clear c0
 go_wp2
 go_ret
 exact ⟨rfl, HB0.out⟩
theorem zbj (s : Y.St) (A : Y.A9) (v : Bool) (hv : decide (Y.May s) = v) (w : World) (h : Y.SIn w A s) (hf : Y.Fits A s) :
  Calls Tryz.prog 66 #[Y.val s A] w fun e w' => e = .returned (.bool v) /\ Below w.heap.size w w' := by
 cases h1 : E.fit s.d with
 | false =>
  obtain rfl : v = false := by rw [<- hv]; exact decide_eq_false fun hok => by have := hok.1; rw [h1] at this; cases this
  exact zlp s A w h hf h1
 | true =>
 cases h2 : decide (Y.MayP s.p) with
 | false =>
  obtain rfl : v = false := by rw [<- hv]; exact decide_eq_false fun hok => of_decide_eq_false h2 hok.2.1
  exact zlq s A w h hf h1 h2
 | true =>
 cases h3 : decide (0 <= s.now) with
 | false =>
  obtain rfl : v = false := by rw [<- hv]; exact decide_eq_false fun hok => of_decide_eq_false h3 hok.2.2.2.1.1
  exact zlr s A w h hf h1 h2 h3
 | true =>
 cases h4 : decide (s.now <= 1073741824) with
 | false =>
  obtain rfl : v = false := by rw [<- hv]; exact decide_eq_false fun hok => of_decide_eq_false h4 hok.2.2.2.1.2
  exact zls s A w h hf h1 h2 h3 h4
 | true =>
 cases h5 : O.may s.ps (E.no s.d) with
 | false =>
  obtain rfl : v = false := by rw [<- hv]; exact decide_eq_false fun hok => by have := O.may_iff.2 hok.2.2.1; rw [h5] at this; cases this
  exact zlt s A w h hf h1 h2 h3 h4 h5
 | true =>
 cases h6 : decide (s.l.length <= 32 /\ L.Srt s.l /\ ∀ x ∈ s.l, Y.okL s x) with
 | false =>
  obtain rfl : v = false := by rw [<- hv]; exact decide_eq_false fun hok => of_decide_eq_false h6 ⟨hok.2.2.2.2.1, hok.2.2.2.2.2.1, hok.2.2.2.2.2.2.1⟩
  exact zlu s A w h hf h1 h2 h3 h4 h5 h6
 | true =>
 cases h7 : decide (Y.SrtH s.h /\ ∀ y ∈ s.h, Y.okH s y) with
 | false =>
  obtain rfl : v = false := by rw [<- hv]; exact decide_eq_false fun hok => of_decide_eq_false h7 hok.2.2.2.2.2.2.2
  exact zlv s A w h hf h1 h2 h3 h4 h5 h6 h7
 | true =>
  have g6 := of_decide_eq_true h6
  obtain rfl : v = true := by rw [<- hv]; exact decide_eq_true ⟨h1, of_decide_eq_true h2, O.may_iff.1 h5, ⟨of_decide_eq_true h3, of_decide_eq_true h4⟩, g6.1, g6.2.1, g6.2.2, of_decide_eq_true h7⟩
  exact zmm s A w h hf h1 h2 h3 h4 h5 h6 h7
end Go.Proofs.YtnbkkjcmblfhpaaGreat
namespace Go.Proofs.YtnbkkjcmblfhpaaGreat
open Go.RowKit
theorem Blok.put {w : World} {g : Nat} {t : TypeId} {cs : Array Value} (h : Blok w g t cs) (cs' : Array Value) : Blok (w.setRow g cs') g t cs' := setRow_heap w g cs cs' t (0, 0) h
theorem zbr (w : World) (g : Nat) (cs' : Array Value) : w.grownBy (w.setRow g cs') (some g) := ⟨rfl, rfl, rfl, by simp, fun i hi hr => setRow_other w g i cs' (fun e => hr (by rw [e]))⟩
theorem zm3 {P : Program} {w : World} {g : Nat} {t : TypeId} {cs : Array Value} (h : Blok w g t cs) (cs' : Array Value) (hi : (P.info? t).map (·.size) = some cs'.size) (ho : cs.size = cs'.size) (h1 : cs'.all (·.oneCell') = true) :
  (Instr.storeAt t (.pointer (some ⟨g, 0, none⟩)) (.agg cs')).run P w = .ok () (w.setRow g cs') := by
 simp only [Instr.storeAt, Instr.sureAddr, Sem.run_bind, Sem.run_pure, Result.andThen]
 exact run_storeVar_row w g t t cs cs' h hi ho h1
theorem zhu {P : Program} {ops : Array Oper} {rest : List Oper} {o : Oper} {a : Act} {w w' : World} {Q : Exit -> Act -> World -> Prop} {g : Nat} {t ty : TypeId} {x y : Operand} {old cells : Array Value} (hk : Blok w g t old) (hw : w.setRow g cells = w')
  (hgd : o.guard = none) (ho : o.op = .store ty x y) (hx : a.eval x = .pointer (some ⟨g, 0, none⟩)) (hy : a.eval y = .agg cells) (hi : (P.info? ty).map (·.size) = some cells.size) (hold : old.size = cells.size) (h1 : cells.all (·.oneCell') = true)
  (h : wpList P ops Q rest (a.put o.dst undef) w') : wpList P ops Q (o :: rest) a w := by
 subst hw; exact wpList_store_row hgd ty x y ho g cells hx hy t old hk hi hold h1 h
theorem Zw {P : Program} {ops : Array Oper} {rest : List Oper} {o : Oper} {a : Act} {w w' : World} {Q : Exit -> Act -> World -> Prop} {g : Nat} {t ty : TypeId} {old cells : Array Value} {x y : Operand} (hk : Blok w g t old) (hw : w.setRow g cells = w')
  (h : wpList P ops Q rest (a.put o.dst undef) w') (hgd : o.guard = none := by exact rfl) (ho : o.op = .store ty x y := by exact rfl) (hx : a.eval x = .pointer (some ⟨g, 0, none⟩) := by kernel_rfl) (hy : a.eval y = .agg cells := by kernel_rfl) (hi : (P.info? ty).map (·.size) = some cells.size := by kernel_rfl) (hold : old.size = cells.size := by exact rfl) (h1 : cells.all (·.oneCell') = true := by kernel_rfl) : wpList P ops Q (o :: rest) a w := zhu hk hw hgd ho hx hy hi hold h1 h
theorem zak {P : Program} {ops : Array Oper} {rest : List Oper} {o : Oper} {a : Act} {w : World} {Q : Exit -> Act -> World -> Prop} {g : Nat} {t ty : TypeId} {x : Operand} {cs : Array Value} (hk : Blok w g t cs)
  (hgd : o.guard = none) (ho : o.op = .load ty x) (hx : a.eval x = .pointer (some ⟨g, 0, none⟩)) {d : TypeDesc} (hu : P.underlying ty = some d) (hd : (match d with | .struct _ | .array _ _ => true | _ => false) = true) (hi : (P.info? ty).map (·.size) = some cs.size)
  (h : wpList P ops Q rest (a.put o.dst (.agg cs)) w) : wpList P ops Q (o :: rest) a w :=
 wpList_load_row hgd ty x ho g hx t cs (0, 0) d hk hu hd hi h
theorem box2 {w w1 w2 w3 w4 : World} {t1 t2 : TypeId} {z1 z2 c1 c2 : Array Value} (h1 : w.alloc (.cells z1 t1) = w1) (h2 : w1.alloc (.cells z2 t2) = w2) (h3 : w2.setRow w.heap.size c1 = w3) (h4 : w3.setRow w1.heap.size c2 = w4) :
  Blok w2 w.heap.size t1 z1 /\ Blok w3 w1.heap.size t2 z2 /\ Blok w4 w.heap.size t1 c1 /\ Blok w4 w1.heap.size t2 c2 /\ Below w.heap.size w w4 /\ w1.heap.size = w.heap.size + 1 := by
 have e1 : w1.heap.size = w.heap.size + 1 := by rw [<- h1]; simp
 have k1 : Blok w2 w.heap.size t1 z1 := by rw [<- h2, <- h1]; exact (Blok.new w t1 z1).alloc _
 have k2 : Blok w2 w1.heap.size t2 z2 := by rw [<- h2]; exact Blok.new w1 t2 z2
 have g1 : w2.grownBy w3 (some w.heap.size) := by rw [<- h3]; exact zbr _ _ _
 have g2 : w3.grownBy w4 (some w1.heap.size) := by rw [<- h4]; exact zbr _ _ _
 have k3 : Blok w3 w.heap.size t1 c1 := by rw [<- h3]; exact k1.put _
 have k4 : Blok w3 w1.heap.size t2 z2 := k2.grown g1 (by simp; omega)
 have hb2 : Below w.heap.size w w2 := by rw [<- h2, <- h1]; exact ((Below.refl _ w).alloc (Nat.le_refl _) _).alloc (by simp) _
 refine ⟨k1, k4, k3.grown g2 (by simp; omega), by rw [<- h4]; exact k4.put _, ?_, e1⟩
 exact (hb2.grown g1 hb2.size (fun q hq => by cases hq; exact Nat.le_refl _)).grown g2 (Nat.le_trans hb2.size g1.size) (fun q hq => by cases hq; omega)
end Go.Proofs.YtnbkkjcmblfhpaaGreat
namespace Go.Proofs.YtnbkkjcmblfhpaaGreat
open Go.RowKit
namespace Y
theorem SIn.up {w w' : World} {A : A9} {s : St} {g H : Nat} (h : SIn w A s) (hu : Up H A) (hg : w.grownBy w' (some g)) (hl : g < H) : SIn w' A s :=
 ⟨off_pool h.p (fun q hq e => by have := hu.1 q hq; omega) hg, off_row h.l (fun q hq e => by have := hu.2.1 q hq; omega) hg, off_row h.h (fun q hq e => by have := hu.2.2 q hq; omega) hg⟩
end Y
end Go.Proofs.YtnbkkjcmblfhpaaGreat
