import Derived.Test.YtijkbflimbffmaaGreatP13
namespace Go.Proofs.YtijkbflimbffmaaGreat
set_option maxHeartbeats 2000000
set_option maxRecDepth 100000
open Go.RowKit
theorem zb3 (s : Y.St) (A : Y.A9) (v : Bool) (hv : decide (s.l.length <= 32 /\ L.Srt s.l /\ ∀ x ∈ s.l, Y.okL s x) = v) (w : World) (h : Y.SIn w A s) (hf : Y.Fits A s) (hp : Y.MayP s.p) (hn : 0 <= s.now /\ s.now <= 1073741824) :
  Calls Tryz.prog 68 #[Y.val s A] w fun e w' => e = .returned (.bool v) /\ Below w.heap.size w w' := by
 have HV := Zh hv
 have HP := Zh hp
 have HN := Zh hn
 obtain ⟨ap, np, cp, al, nl, cl, ah, nh, ch⟩ := A
 have hnp : np <= 600 := hf.p
 have hnl : nl <= 600 := hf.l
 have hnh : nh <= 600 := hf.h
 have HF := Zh hf
 have HB0 := Zh (Below.refl w.heap.size w)
 have HQ0 := Zh ((h.p : QIn w ap np cp s.ps))
 have HL0 := Zh ((h.l : RIn w al nl cl s.l))
 have HH0 := Zh ((h.h : RIn w ah nh ch s.h))
 have hll : s.l.length = nl := HL0.out.1
 clear h hv hf hp hn
 unfold Y.val
 obtain ⟨w1, hw1, hb, hk⟩ := Zn w 32 #[.int .i64 s.d.b, .int .i64 s.d.k, .int .i64 s.d.c, .int .i64 s.d.j, .int .i64 s.d.lo, .int .i64 s.d.hi, .int .i64 s.d.dy, .int .i64 s.d.bl, .int .i64 s.p.q, .int .i64 s.p.i, .int .i64 s.p.h, .bool s.p.pair, .int .i64 s.now, .slice ap np cp, .slice al nl cl, .slice ah nh ch]
 have HQ1 := Zh (HQ0.out.below hb)
 have HL1 := Zh (HL0.out.below hb)
 have HH1 := Zh (HH0.out.below hb)
 have HB1 := Zt HB0 hb
 have KS1 := Zh hk
 clear hb hk HQ0 HL0 HH0 HB0
 have c0 := Y.cs16 KS1.out
 by_cases k0 : 32 < nl
 ·have d0 : decide ((32 : Int) < (nl : Int)) = true := decide_eq_true (by omega)
  have d0' : decide (32 < nl) = true := decide_eq_true k0
  have HE : Hid (v = false) := Zh (by rw [<- HV.out]; exact decide_eq_false fun hok => by have := hok.1; omega)
  go_enter Tryz.func68, Tryz.ntmps68
  go_wp2
  go_ret
  exact ⟨by rw [HE.out]; rfl, HB1.out⟩
 have d0 : decide ((32 : Int) < (nl : Int)) = false := decide_eq_false (by omega)
 have d0' : decide (32 < nl) = false := decide_eq_false k0
 go_enter Tryz.func68, Tryz.ntmps68
 go_wp2_with fail
 try rw [hw1]
 clear c0
 clear hw1
 go_loopw [12] (fun i wr => ∃ j : Nat, i = .int .i64 j /\ j <= nl /\ Hid (L.Srt (s.l.take j)) /\ Hid (∀ x ∈ s.l.take j, Y.okL s x) /\ Hid (Below w1.heap.size w1 wr)) (fun i _ => nl - (intOf i).toNat)
 case atStart => exact ⟨0, rfl, by omega, Zh (by unfold L.Srt; simp), Zh (by simp), Zh (Below.refl _ _)⟩
 case round =>
  obtain ⟨j, rfl, hj, HSR, HOK, HLr⟩ := hrel
  have hb := HLr.out
  have HQr := Zh (HQ1.out.below hb)
  have HLr := Zh (HL1.out.below hb)
  have HHr := Zh (HH1.out.below hb)
  have KSr := Zk KS1 hb
  have HBr := Zt HB1 hb
  clear hb HB1 HQ1 HL1 HH1 KS1
  by_cases hlt : j < nl
  rotate_left
  ·have dj : decide ((j : Int) < nl) = false := by simp; omega
   have HE : Hid (v = true) := Zh (by
    have h1 := HSR.out
    have h2 := HOK.out
    rw [List.take_of_length_le (by omega)] at h1 h2
    rw [<- HV.out]; exact decide_eq_true ⟨by omega, h1, h2⟩)
   go_wp2
   go_ret
   exact ⟨by rw [HE.out]; rfl, HBr.out⟩
  have dj : decide ((j : Int) < nl) = true := by simp; omega
  obtain ⟨b, off, x, hal, hbl, hx, ⟨p0, p1, p2, p3, p4⟩, -⟩ := Y.at5q HLr.out hlt
  subst hal
  have HX := Zh hx
  have j0 : (0 : Int) <= j := by omega
  have j1 : (j : Int) < nl := by omega
  obtain ⟨w3, hw3, hb, hk⟩ := Zn wr 60 #[.int .i64 x.s, .int .i64 x.a, .int .i64 x.b, .int .i64 x.f, .int .i64 x.t]
  have HQ3 := Zh (HQr.out.below hb)
  have HL3 := Zh (HLr.out.below hb)
  have HH3 := Zh (HHr.out.below hb)
  have KS3 := Zk KSr hb
  have HB3 := Zt HBr hb
  have KX3 := Zh hk
  clear hb hk HQr HLr HHr KSr HBr
  have HL3r : Hid (Below w1.heap.size w1 w3) := Zh (by rw [<- hw3]; exact HLr.out.alloc HLr.out.size _)
  obtain ⟨lm, hlm⟩ : ∃ u, decide (Y.okL s x) = u := ⟨_, rfl⟩
  have HLM := Zh hlm
  have cm := fun d os => zfl s ⟨ap, np, cp, some ⟨b, off, none⟩, nl, cl, ah, nh, ch⟩ x lm hlm (Go.Sort.grow (redrawn w3 d) os) ⟨(HQ3.out.below (below_regrown w3 d os) : QIn _ ap np cp s.ps), HL3.out.below (below_regrown w3 d os), HH3.out.below (below_regrown w3 d os)⟩ HF.out HP.out HN.out
  have cx := fun W => zc3 x W
  unfold Y.val L.val at cm
  unfold L.val at cx
  clear hlm hx
  by_cases hj0 : j = 0
  ·subst hj0
   have z0 : decide ((0 : Int) < ((0 : Nat) : Int)) = false := by decide
   have z0' : decide ((0 : Int) < 0) = false := by decide
   simp only [Nat.zero_mul, Nat.add_zero] at p0 p1 p2 p3 p4
   have HW3 := Zh (Below.refl w3.heap.size w3)
   cases lm with
   | false =>
    have c0 := Y.cs16 KS3.out
    have x0 := Y.cs5 KX3.out
    obtain ⟨qc0, qc1, qc2, qc3, qc4, qc5, qc6, qc7, qc8, qc9, qc10, qc11, qc12, qc13, qc14, qc15⟩ := Y.cs16q KS3.out
    obtain ⟨qx0, qx1, qx2, qx3, qx4⟩ := Y.cs5q KX3.out
    go_wp2_with fail
    try rw [hw3]
    refine wp_region_quiet_below (by kernel_rfl) (by kernel_rfl) ?_
    repeat (go_big_quiet_step (first | with_reducible exact Calls.regrown_of (cm _ _) | with_reducible exact Calls.regrown_of (cx _)))
    refine wpQuiet_nil ?_
    intro _ hw'
    obtain ⟨⟨dq, osq⟩, hw''⟩ := hw'
    subst hw''
    clear qc0 qc1 qc2 qc3 qc4 qc5 qc6 qc7 qc8 qc9 qc10 qc11 qc12 qc13 qc14 qc15 qx0 qx1 qx2 qx3 qx4
    clear c0
    clear x0
    clear cm cx hw3
    obtain ⟨w4, hq⟩ : ∃ W, Go.Sort.grow (redrawn w3 dq) osq = W := ⟨_, rfl⟩
    have hb : Below w3.heap.size w3 w4 := by rw [<- hq]; exact below_regrown _ _ _
    rw [hq]
    clear hq
    have HQ4 := Zh (HQ3.out.below hb)
    have HL4 := Zh (HL3.out.below hb)
    have HH4 := Zh (HH3.out.below hb)
    replace KS3 := Zk KS3 hb
    replace KX3 := Zk KX3 hb
    replace HW3 := Zt HW3 hb
    have HB4 := Zt HB3 hb
    clear hb HQ3 HL3 HH3 HB3
    have c0 := Y.cs16 KS3.out
    have x0 := Y.cs5 KX3.out
    clear c0
    clear x0
    have HE : Hid (v = false) := Zh (by rw [<- HV.out]; exact decide_eq_false fun hok => of_decide_eq_false HLM.out (hok.2.2 x (List.mem_of_getElem? HX.out)))
    go_wp2
    go_ret
    exact ⟨by rw [HE.out]; rfl, HB4.out⟩
   | true =>
    have c0 := Y.cs16 KS3.out
    have x0 := Y.cs5 KX3.out
    obtain ⟨qc0, qc1, qc2, qc3, qc4, qc5, qc6, qc7, qc8, qc9, qc10, qc11, qc12, qc13, qc14, qc15⟩ := Y.cs16q KS3.out
    obtain ⟨qx0, qx1, qx2, qx3, qx4⟩ := Y.cs5q KX3.out
    go_wp2_with fail
    try rw [hw3]
    refine wp_region_quiet_below (by kernel_rfl) (by kernel_rfl) ?_
    repeat (go_big_quiet_step (first | with_reducible exact Calls.regrown_of (cm _ _) | with_reducible exact Calls.regrown_of (cx _)))
    refine wpQuiet_nil ?_
    intro _ hw'
    obtain ⟨⟨dq, osq⟩, hw''⟩ := hw'
    subst hw''
    clear qc0 qc1 qc2 qc3 qc4 qc5 qc6 qc7 qc8 qc9 qc10 qc11 qc12 qc13 qc14 qc15 qx0 qx1 qx2 qx3 qx4
    clear c0
    clear x0
    clear cm cx hw3
    obtain ⟨w4, hq⟩ : ∃ W, Go.Sort.grow (redrawn w3 dq) osq = W := ⟨_, rfl⟩
    have hb : Below w3.heap.size w3 w4 := by rw [<- hq]; exact below_regrown _ _ _
    rw [hq]
    clear hq
    have HQ4 := Zh (HQ3.out.below hb)
    have HL4 := Zh (HL3.out.below hb)
    have HH4 := Zh (HH3.out.below hb)
    replace KS3 := Zk KS3 hb
    replace KX3 := Zk KX3 hb
    replace HW3 := Zt HW3 hb
    have HB4 := Zt HB3 hb
    clear hb HQ3 HL3 HH3 HB3
    have c0 := Y.cs16 KS3.out
    have x0 := Y.cs5 KX3.out
    clear c0
    clear x0
    have HSR2 := Zh (by have := L.Srt.one s.l; exact this)
    have HOK2 : Hid (∀ z ∈ s.l.take (0 + 1), Y.okL s z) := Zh (by
     rw [List.take_succ_eq_append_getElem (by omega : 0 < s.l.length)]
     intro z hz
     rcases List.mem_append.1 hz with hz | hz
     ·exact HOK.out z hz
     ·have he := (List.getElem?_eq_some_iff.1 HX.out).2
      rw [List.mem_singleton, he] at hz
      subst hz
      exact of_decide_eq_true HLM.out)
    go_wp2
    go_roundw
    case rel => exact ⟨0 + 1, by go_num, by omega, HSR2, HOK2, Zh (HL3r.out.trans (HW3.out.mono HL3r.out.size))⟩
    case measure => simp [intOf] <;> omega
  ·obtain ⟨m, rfl⟩ : ∃ m, j = m + 1 := ⟨j - 1, by omega⟩
   have z0 : decide ((0 : Int) < ((m + 1 : Nat) : Int)) = true := decide_eq_true (by omega)
   have z0'' : decide ((0 : Int) < (m : Int) + 1) = true := decide_eq_true (by omega)
   have z0' : decide (0 < m + 1) = true := decide_eq_true (by omega)
   have hw1 : IntKind.i64.wrap ((m : Int) + 1 - 1) = (m : Int) := by rw [IntKind.wrap_i64]; omega
   have m0 : (0 : Int) <= m := by omega
   have m1 : (m : Int) < nl := by omega
   obtain ⟨b2, off2, y, he2, -, hy, ⟨q0, q1, q2, q3, q4⟩, qq0, qq1, qq2, qq3, qq4⟩ := Y.at5q HL3.out (i := m) (by omega)
   cases he2
   have HY := Zh hy
   obtain ⟨u, hu⟩ : ∃ u, decide (y.a < x.a \/ x.a = y.a /\ y.b < x.b) = u := ⟨_, rfl⟩
   have HU := Zh hu
   have cy := fun W => zc3 y W
   have cb := fun W => zd3 x.a x.b y.a y.b u hu W
   unfold L.val at cy
   clear hy hu
   have HW3 := Zh (Below.refl w3.heap.size w3)
   cases u with
   | false =>
    have c0 := Y.cs16 KS3.out
    have x0 := Y.cs5 KX3.out
    obtain ⟨qc0, qc1, qc2, qc3, qc4, qc5, qc6, qc7, qc8, qc9, qc10, qc11, qc12, qc13, qc14, qc15⟩ := Y.cs16q KS3.out
    obtain ⟨qx0, qx1, qx2, qx3, qx4⟩ := Y.cs5q KX3.out
    go_wp2_with fail
    try rw [hw3]
    refine wp_region_quiet_below (by kernel_rfl) (by kernel_rfl) ?_
    repeat (go_big_quiet_step (first | with_reducible exact Calls.regrown_of (cm _ _) | with_reducible exact Calls.regrown_of (cx _) | with_reducible exact Calls.regrown_of (cy _) | with_reducible exact Calls.regrown_of (cb _)))
    refine wpQuiet_nil ?_
    intro _ hw'
    obtain ⟨⟨dq, osq⟩, hw''⟩ := hw'
    subst hw''
    clear qc0 qc1 qc2 qc3 qc4 qc5 qc6 qc7 qc8 qc9 qc10 qc11 qc12 qc13 qc14 qc15 qx0 qx1 qx2 qx3 qx4
    clear c0
    clear x0
    clear cm cx hw3 cy cb q0 q1 q2 q3 q4 qq0 qq1 qq2 qq3 qq4
    obtain ⟨w4, hq⟩ : ∃ W, Go.Sort.grow (redrawn w3 dq) osq = W := ⟨_, rfl⟩
    have hb : Below w3.heap.size w3 w4 := by rw [<- hq]; exact below_regrown _ _ _
    rw [hq]
    clear hq
    have HQ4 := Zh (HQ3.out.below hb)
    have HL4 := Zh (HL3.out.below hb)
    have HH4 := Zh (HH3.out.below hb)
    replace KS3 := Zk KS3 hb
    replace KX3 := Zk KX3 hb
    replace HW3 := Zt HW3 hb
    have HB4 := Zt HB3 hb
    clear hb HQ3 HL3 HH3 HB3
    have c0 := Y.cs16 KS3.out
    have x0 := Y.cs5 KX3.out
    clear c0
    clear x0
    have HE : Hid (v = false) := Zh (by rw [<- HV.out]; exact decide_eq_false fun hok => L.Srt.no HY.out HX.out (fun hl => by have h := of_decide_eq_false HU.out; unfold L.Lt at hl; exact h (by omega)) hok.2.1)
    go_wp2
    go_ret
    exact ⟨by rw [HE.out]; rfl, HB4.out⟩
   | true =>
    cases lm with
    | false =>
     have c0 := Y.cs16 KS3.out
     have x0 := Y.cs5 KX3.out
     obtain ⟨qc0, qc1, qc2, qc3, qc4, qc5, qc6, qc7, qc8, qc9, qc10, qc11, qc12, qc13, qc14, qc15⟩ := Y.cs16q KS3.out
     obtain ⟨qx0, qx1, qx2, qx3, qx4⟩ := Y.cs5q KX3.out
     go_wp2_with fail
     try rw [hw3]
     refine wp_region_quiet_below (by kernel_rfl) (by kernel_rfl) ?_
     repeat (go_big_quiet_step (first | with_reducible exact Calls.regrown_of (cm _ _) | with_reducible exact Calls.regrown_of (cx _) | with_reducible exact Calls.regrown_of (cy _) | with_reducible exact Calls.regrown_of (cb _)))
     refine wpQuiet_nil ?_
     intro _ hw'
     obtain ⟨⟨dq, osq⟩, hw''⟩ := hw'
     subst hw''
     clear qc0 qc1 qc2 qc3 qc4 qc5 qc6 qc7 qc8 qc9 qc10 qc11 qc12 qc13 qc14 qc15 qx0 qx1 qx2 qx3 qx4
     clear c0
     clear x0
     clear cm cx hw3 cy cb q0 q1 q2 q3 q4 qq0 qq1 qq2 qq3 qq4
     obtain ⟨w4, hq⟩ : ∃ W, Go.Sort.grow (redrawn w3 dq) osq = W := ⟨_, rfl⟩
     have hb : Below w3.heap.size w3 w4 := by rw [<- hq]; exact below_regrown _ _ _
     rw [hq]
     clear hq
     have HQ4 := Zh (HQ3.out.below hb)
     have HL4 := Zh (HL3.out.below hb)
     have HH4 := Zh (HH3.out.below hb)
     replace KS3 := Zk KS3 hb
     replace KX3 := Zk KX3 hb
     replace HW3 := Zt HW3 hb
     have HB4 := Zt HB3 hb
     clear hb HQ3 HL3 HH3 HB3
     have c0 := Y.cs16 KS3.out
     have x0 := Y.cs5 KX3.out
     clear c0
     clear x0
     have HE : Hid (v = false) := Zh (by rw [<- HV.out]; exact decide_eq_false fun hok => of_decide_eq_false HLM.out (hok.2.2 x (List.mem_of_getElem? HX.out)))
     go_wp2
     go_ret
     exact ⟨by rw [HE.out]; rfl, HB4.out⟩
    | true =>
     have c0 := Y.cs16 KS3.out
     have x0 := Y.cs5 KX3.out
     obtain ⟨qc0, qc1, qc2, qc3, qc4, qc5, qc6, qc7, qc8, qc9, qc10, qc11, qc12, qc13, qc14, qc15⟩ := Y.cs16q KS3.out
     obtain ⟨qx0, qx1, qx2, qx3, qx4⟩ := Y.cs5q KX3.out
     go_wp2_with fail
     try rw [hw3]
     refine wp_region_quiet_below (by kernel_rfl) (by kernel_rfl) ?_
     repeat (go_big_quiet_step (first | with_reducible exact Calls.regrown_of (cm _ _) | with_reducible exact Calls.regrown_of (cx _) | with_reducible exact Calls.regrown_of (cy _) | with_reducible exact Calls.regrown_of (cb _)))
     refine wpQuiet_nil ?_
     intro _ hw'
     obtain ⟨⟨dq, osq⟩, hw''⟩ := hw'
     subst hw''
     clear qc0 qc1 qc2 qc3 qc4 qc5 qc6 qc7 qc8 qc9 qc10 qc11 qc12 qc13 qc14 qc15 qx0 qx1 qx2 qx3 qx4
     clear c0
     clear x0
     clear cm cx hw3 cy cb q0 q1 q2 q3 q4 qq0 qq1 qq2 qq3 qq4
     obtain ⟨w4, hq⟩ : ∃ W, Go.Sort.grow (redrawn w3 dq) osq = W := ⟨_, rfl⟩
     have hb : Below w3.heap.size w3 w4 := by rw [<- hq]; exact below_regrown _ _ _
     rw [hq]
     clear hq
     have HQ4 := Zh (HQ3.out.below hb)
     have HL4 := Zh (HL3.out.below hb)
     have HH4 := Zh (HH3.out.below hb)
     replace KS3 := Zk KS3 hb
     replace KX3 := Zk KX3 hb
     replace HW3 := Zt HW3 hb
     have HB4 := Zt HB3 hb
     clear hb HQ3 HL3 HH3 HB3
     have c0 := Y.cs16 KS3.out
     have x0 := Y.cs5 KX3.out
     clear c0
     clear x0
     have HSR2 := Zh (L.Srt.snoc HSR.out HY.out HX.out (by have h := of_decide_eq_true HU.out; unfold L.Lt; omega))
     have HOK2 : Hid (∀ z ∈ s.l.take (m + 1 + 1), Y.okL s z) := Zh (by
      rw [List.take_succ_eq_append_getElem (by omega : m + 1 < s.l.length)]
      intro z hz
      rcases List.mem_append.1 hz with hz | hz
      ·exact HOK.out z hz
      ·have he := (List.getElem?_eq_some_iff.1 HX.out).2
       rw [List.mem_singleton, he] at hz
       subst hz
       exact of_decide_eq_true HLM.out)
     go_wp2
     go_roundw
     case rel => exact ⟨m + 1 + 1, by go_num, by omega, HSR2, HOK2, Zh (HL3r.out.trans (HW3.out.mono HL3r.out.size))⟩
     case measure => simp [intOf] <;> omega
end Go.Proofs.YtijkbflimbffmaaGreat
