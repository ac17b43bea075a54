import Derived.Test.YtijkbflimbffmaaGreatP6
import Derived.Test.YtijkbflimbffmaaGreatP11
import Derived.Test.YtijkbflimbffmaaGreatP7
namespace Go.Proofs.YtijkbflimbffmaaGreat
set_option maxHeartbeats 2000000
set_option maxRecDepth 100000
open Go.RowKit
theorem zd5 (s : Y.St) (A : Y.A9) (v : Bool) (hv : decide (Y.SrtH s.h /\ ∀ y ∈ s.h, Y.okH s y) = v) (w : World) (h : Y.SIn w A s) (hf : Y.Fits A s) (hp : Y.MayP s.p) (hn : 0 <= s.now /\ s.now <= 1073741824) :
  Calls Tryz.prog 69 #[Y.val s A] w fun e w' => e = .returned (.bool v) /\ Below w.heap.size w w' := by
 have HV := Zh hv
 have HP := Zh hp
 have HN := Zh hn
 obtain ⟨ap, np, cp, al, nl, cl, ah, nh, ch⟩ := A
 have hnp : np <= 600 := hf.p
 have hnl : nl <= 600 := hf.l
 have hnh : nh <= 600 := hf.h
 have HF := Zh hf
 have HB0 := Zh (Below.refl w.heap.size w)
 have HQ0 := Zh ((h.p : QIn w ap np cp s.ps))
 have HL0 := Zh ((h.l : RIn w al nl cl s.l))
 have HH0 := Zh ((h.h : RIn w ah nh ch s.h))
 have hhl : s.h.length = nh := HH0.out.1
 clear h hv hf hp hn
 unfold Y.val
 obtain ⟨w1, hw1, hb, hk⟩ := Zn w 32 #[.int .i64 s.d.b, .int .i64 s.d.k, .int .i64 s.d.c, .int .i64 s.d.j, .int .i64 s.d.lo, .int .i64 s.d.hi, .int .i64 s.d.dy, .int .i64 s.d.bl, .int .i64 s.p.q, .int .i64 s.p.i, .int .i64 s.p.h, .bool s.p.pair, .int .i64 s.now, .slice ap np cp, .slice al nl cl, .slice ah nh ch]
 have HQ1 := Zh (HQ0.out.below hb)
 have HL1 := Zh (HL0.out.below hb)
 have HH1 := Zh (HH0.out.below hb)
 have HB1 := Zt HB0 hb
 have KS1 := Zh hk
 clear hb hk HQ0 HL0 HH0 HB0
 have c0 := Y.cs16 KS1.out
 go_enter Tryz.func69, Tryz.ntmps69
 go_wp2_with fail
 try rw [hw1]
 clear c0
 clear hw1
 have HBW := Zh (Below.refl w1.heap.size w1)
 go_loopw [9] (fun i wr => ∃ j : Nat, i = .int .i64 j /\ j <= nh /\ Hid (Y.SrtH (s.h.take j)) /\ Hid (∀ x ∈ s.h.take j, Y.okH s x) /\ Hid (Below w1.heap.size w1 wr)) (fun i _ => nh - (intOf i).toNat)
 case atStart => exact ⟨0, rfl, by omega, Zh (by unfold Y.SrtH; simp), Zh (by simp), Zh (Below.refl _ _)⟩
 case round =>
  obtain ⟨j, rfl, hj, HSR, HOK, HLr⟩ := hrel
  have hb := HLr.out
  have HQr := Zh (HQ1.out.below hb)
  have HLr := Zh (HL1.out.below hb)
  have HHr := Zh (HH1.out.below hb)
  have KSr := Zk KS1 hb
  have HBr := Zt HB1 hb
  clear hb HB1 HQ1 HL1 HH1 KS1
  by_cases hlt : j < nh
  rotate_left
  ·have dj : decide ((j : Int) < nh) = false := by simp; omega
   have HE : Hid (v = true) := Zh (by
    have h1 := HSR.out
    have h2 := HOK.out
    rw [List.take_of_length_le (by omega)] at h1 h2
    rw [<- HV.out]; exact decide_eq_true ⟨h1, h2⟩)
   go_wp2
   go_ret
   exact ⟨by rw [HE.out]; rfl, HBr.out⟩
  have dj : decide ((j : Int) < nh) = true := by simp; omega
  obtain ⟨b, off, x, hal, hbl, hx, ⟨p0, p1, p2⟩, -⟩ := Y.at3q HHr.out hlt
  subst hal
  have HX := Zh hx
  have j0 : (0 : Int) <= j := by omega
  have j1 : (j : Int) < nh := by omega
  obtain ⟨w3, hw3, hb, hk⟩ := Zn wr 77 #[.int .i64 x.a, .int .i64 x.b, .int .i64 x.x]
  have HQ3 := Zh (HQr.out.below hb)
  have HL3 := Zh (HLr.out.below hb)
  have HH3 := Zh (HHr.out.below hb)
  have KS3 := Zk KSr hb
  have HB3 := Zt HBr hb
  have KX3 := Zh hk
  clear hb hk HQr HLr HHr KSr HBr
  have x0 := (Y.cs3 KX3.out).1
  have x1 := (Y.cs3 KX3.out).2.1
  obtain ⟨w4, hw4, hb, hk⟩ := Zn w3 169 #[.int .i64 x.a, .int .i64 x.b]
  have HQ4 := Zh (HQ3.out.below hb)
  have HL4 := Zh (HL3.out.below hb)
  have HH4 := Zh (HH3.out.below hb)
  replace KS3 := Zk KS3 hb
  replace KX3 := Zk KX3 hb
  have HB4 := Zt HB3 hb
  have KB4 := Zh hk
  clear hb hk HQ3 HL3 HH3 HB3
  have HL4r : Hid (Below w1.heap.size w1 w4) := Zh (by rw [<- hw4, <- hw3]; exact (HLr.out.alloc HLr.out.size _).alloc (Nat.le_trans HLr.out.size (by simp)) _)
  obtain ⟨bk, hbk⟩ : ∃ u, E.blkB s.d x.a x.b = u := ⟨_, rfl⟩
  have HK := Zh hbk
  have ck := fun W => zd4 s.d x.a x.b bk hbk W HF.out.b HF.out.c
  clear hbk hx
  by_cases hj0 : j = 0
  ·subst hj0
   have z0 : decide ((0 : Int) < ((0 : Nat) : Int)) = false := by decide
   have z0' : decide ((0 : Int) < 0) = false := by decide
   simp only [Nat.zero_mul, Nat.add_zero] at p0 p1 p2
   have HW4 := Zh (Below.refl w4.heap.size w4)
   cases bk with
   | false =>
    have c0 := Y.cs16 KS3.out
    obtain ⟨x0, x1, x2⟩ := Y.cs3 KX3.out
    obtain ⟨z0, z1⟩ := Y.cb2 KB4.out
    obtain ⟨qc0, qc1, qc2, qc3, qc4, qc5, qc6, qc7, qc8, qc9, qc10, qc11, qc12, qc13, qc14, qc15⟩ := Y.cs16q KS3.out
    obtain ⟨qx0, qx1, qx2⟩ := Y.cs3q KX3.out
    obtain ⟨qz0, qz1⟩ := Y.cb2q KB4.out
    clear x0 x1
    go_wp2_with fail
    try rw [hw3]
    try rw [hw4]
    refine wp_region_quiet_below (by kernel_rfl) (by kernel_rfl) ?_
    repeat (go_big_quiet_step (first | with_reducible exact Calls.regrown_of (ck _)))
    refine wpQuiet_nil ?_
    intro _ hw'
    obtain ⟨⟨dq, osq⟩, hw''⟩ := hw'
    subst hw''
    clear qc0 qc1 qc2 qc3 qc4 qc5 qc6 qc7 qc8 qc9 qc10 qc11 qc12 qc13 qc14 qc15 qx0 qx1 qx2 qz0 qz1
    clear c0
    clear x0 x1 x2
    clear z0 z1
    clear ck hw3 hw4
    obtain ⟨w5, hq⟩ : ∃ W, Go.Sort.grow (redrawn w4 dq) osq = W := ⟨_, rfl⟩
    have hb : Below w4.heap.size w4 w5 := by rw [<- hq]; exact below_regrown _ _ _
    rw [hq]
    clear hq
    have HQ5 := Zh (HQ4.out.below hb)
    have HL5 := Zh (HL4.out.below hb)
    have HH5 := Zh (HH4.out.below hb)
    replace KS3 := Zk KS3 hb
    replace KX3 := Zk KX3 hb
    replace KB4 := Zk KB4 hb
    replace HW4 := Zt HW4 hb
    have HB5 := Zt HB4 hb
    clear hb HQ4 HL4 HH4 HB4
    have c0 := Y.cs16 KS3.out
    obtain ⟨x0, x1, x2⟩ := Y.cs3 KX3.out
    obtain ⟨z0, z1⟩ := Y.cb2 KB4.out
    clear z0 z1
    have HE : Hid (v = false) := Zh (by rw [<- HV.out]; exact decide_eq_false fun hok => by have := (hok.2 x (List.mem_of_getElem? HX.out)).1; rw [HK.out] at this; cases this)
    go_wp2
    go_ret
    exact ⟨by rw [HE.out]; rfl, HB5.out⟩
   | true =>
    have c0 := Y.cs16 KS3.out
    obtain ⟨x0, x1, x2⟩ := Y.cs3 KX3.out
    obtain ⟨z0, z1⟩ := Y.cb2 KB4.out
    obtain ⟨qc0, qc1, qc2, qc3, qc4, qc5, qc6, qc7, qc8, qc9, qc10, qc11, qc12, qc13, qc14, qc15⟩ := Y.cs16q KS3.out
    obtain ⟨qx0, qx1, qx2⟩ := Y.cs3q KX3.out
    obtain ⟨qz0, qz1⟩ := Y.cb2q KB4.out
    clear x0 x1
    go_wp2_with fail
    try rw [hw3]
    try rw [hw4]
    refine wp_region_quiet_below (by kernel_rfl) (by kernel_rfl) ?_
    repeat (go_big_quiet_step (first | with_reducible exact Calls.regrown_of (ck _)))
    refine wpQuiet_nil ?_
    intro _ hw'
    obtain ⟨⟨dq, osq⟩, hw''⟩ := hw'
    subst hw''
    clear qc0 qc1 qc2 qc3 qc4 qc5 qc6 qc7 qc8 qc9 qc10 qc11 qc12 qc13 qc14 qc15 qx0 qx1 qx2 qz0 qz1
    clear c0
    clear x0 x1 x2
    clear z0 z1
    clear ck hw3 hw4
    obtain ⟨w5, hq⟩ : ∃ W, Go.Sort.grow (redrawn w4 dq) osq = W := ⟨_, rfl⟩
    have hb : Below w4.heap.size w4 w5 := by rw [<- hq]; exact below_regrown _ _ _
    rw [hq]
    clear hq
    have HQ5 := Zh (HQ4.out.below hb)
    have HL5 := Zh (HL4.out.below hb)
    have HH5 := Zh (HH4.out.below hb)
    replace KS3 := Zk KS3 hb
    replace KX3 := Zk KX3 hb
    replace KB4 := Zk KB4 hb
    replace HW4 := Zt HW4 hb
    have HB5 := Zt HB4 hb
    clear hb HQ4 HL4 HH4 HB4
    have c0 := Y.cs16 KS3.out
    obtain ⟨x0, x1, x2⟩ := Y.cs3 KX3.out
    obtain ⟨z0, z1⟩ := Y.cb2 KB4.out
    clear z0 z1
    obtain ⟨r, hr⟩ : ∃ v, L.find s.l x.a x.b = v := ⟨_, rfl⟩
    have HR := Zh hr
    have hr1 := L.find_lt s.l x.a x.b
    rw [hr] at hr1
    go_wp2_with fail
    refine (zni al nl cl s.l x.a x.b r hr w5 HL5.out (by omega)).mono ?_
    clear c0
    clear x0 x1 x2
    rintro e w6 ⟨rfl, hb⟩
    have HQ6 := Zh (HQ5.out.below hb)
    have HL6 := Zh (HL5.out.below hb)
    have HH6 := Zh (HH5.out.below hb)
    replace KS3 := Zk KS3 hb
    replace KX3 := Zk KX3 hb
    replace KB4 := Zk KB4 hb
    replace HW4 := Zt HW4 hb
    have HB6 := Zt HB5 hb
    clear hb HQ5 HL5 HH5 HB5
    have c0 := Y.cs16 KS3.out
    obtain ⟨x0, x1, x2⟩ := Y.cs3 KX3.out
    clear hr
    have hw2 : IntKind.i64.wrap (s.now + 1048576) = s.now + 1048576 := by have := HN.out; rw [IntKind.wrap_i64]; omega
    by_cases k2 : r = -1
    rotate_left
    ·have e2 : (r != -1) = true := by simpa using k2
     have HE : Hid (v = false) := Zh (by rw [<- HV.out]; exact decide_eq_false fun hok => k2 (by rw [<- HR.out]; exact L.find_none.2 (hok.2 x (List.mem_of_getElem? HX.out)).2.2.2))
     go_wp2
     go_ret
     exact ⟨by rw [HE.out]; rfl, HB6.out⟩
    subst k2
    have e2 : ((-1 : Int) != -1) = false := rfl
    by_cases k3 : x.x <= s.now
    ·have d3 : decide (x.x <= s.now) = true := decide_eq_true k3
     have HE : Hid (v = false) := Zh (by rw [<- HV.out]; exact decide_eq_false fun hok => by have := (hok.2 x (List.mem_of_getElem? HX.out)).2.1; omega)
     go_wp2
     go_ret
     exact ⟨by rw [HE.out]; rfl, HB6.out⟩
    have d3 : decide (x.x <= s.now) = false := decide_eq_false k3
    by_cases k4 : s.now + 1048576 < x.x
    ·have d4 : decide (s.now + 1048576 < x.x) = true := decide_eq_true k4
     have HE : Hid (v = false) := Zh (by rw [<- HV.out]; exact decide_eq_false fun hok => by have := (hok.2 x (List.mem_of_getElem? HX.out)).2.2.1; omega)
     go_wp2
     go_ret
     exact ⟨by rw [HE.out]; rfl, HB6.out⟩
    have d4 : decide (s.now + 1048576 < x.x) = false := decide_eq_false k4
    have HSR2 := Zh (by have := Y.SrtH.one s.h; exact this)
    have HOK2 : Hid (∀ z ∈ s.h.take (0 + 1), Y.okH s z) := Zh (by
     rw [List.take_succ_eq_append_getElem (by omega : 0 < s.h.length)]
     intro z hz
     rcases List.mem_append.1 hz with hz | hz
     ·exact HOK.out z hz
     ·have he := (List.getElem?_eq_some_iff.1 HX.out).2
      rw [List.mem_singleton, he] at hz
      subst hz
      exact ⟨HK.out, by omega, by omega, L.find_none.1 HR.out⟩)
    go_wp2
    go_roundw
    case rel => exact ⟨0 + 1, by go_num, by omega, HSR2, HOK2, Zh (HL4r.out.trans (HW4.out.mono HL4r.out.size))⟩
    case measure => simp [intOf] <;> omega
  ·obtain ⟨m, rfl⟩ : ∃ m, j = m + 1 := ⟨j - 1, by omega⟩
   have z0 : decide ((0 : Int) < ((m + 1 : Nat) : Int)) = true := decide_eq_true (by omega)
   have z0'' : decide ((0 : Int) < (m : Int) + 1) = true := decide_eq_true (by omega)
   have z0' : decide (0 < m + 1) = true := decide_eq_true (by omega)
   have hw1 : IntKind.i64.wrap ((m : Int) + 1 - 1) = (m : Int) := by rw [IntKind.wrap_i64]; omega
   have m0 : (0 : Int) <= m := by omega
   have m1 : (m : Int) < nh := by omega
   obtain ⟨b2, off2, y, he2, -, hy, ⟨q0, q1, q2⟩, qq0, qq1, qq2⟩ := Y.at3q HH4.out (i := m) (by omega)
   cases he2
   have HY := Zh hy
   obtain ⟨u, hu⟩ : ∃ u, decide (y.a < x.a \/ x.a = y.a /\ y.b < x.b) = u := ⟨_, rfl⟩
   have HU := Zh hu
   have cb := fun W => zd3 x.a x.b y.a y.b u hu W
   clear hy hu
   have HW4 := Zh (Below.refl w4.heap.size w4)
   cases u with
   | false =>
    have c0 := Y.cs16 KS3.out
    obtain ⟨x0, x1, x2⟩ := Y.cs3 KX3.out
    obtain ⟨z0, z1⟩ := Y.cb2 KB4.out
    obtain ⟨qc0, qc1, qc2, qc3, qc4, qc5, qc6, qc7, qc8, qc9, qc10, qc11, qc12, qc13, qc14, qc15⟩ := Y.cs16q KS3.out
    obtain ⟨qx0, qx1, qx2⟩ := Y.cs3q KX3.out
    obtain ⟨qz0, qz1⟩ := Y.cb2q KB4.out
    clear x0 x1
    go_wp2_with fail
    try rw [hw3]
    try rw [hw4]
    refine wp_region_quiet_below (by kernel_rfl) (by kernel_rfl) ?_
    repeat (go_big_quiet_step (first | with_reducible exact Calls.regrown_of (ck _) | with_reducible exact Calls.regrown_of (cb _)))
    refine wpQuiet_nil ?_
    intro _ hw'
    obtain ⟨⟨dq, osq⟩, hw''⟩ := hw'
    subst hw''
    clear qc0 qc1 qc2 qc3 qc4 qc5 qc6 qc7 qc8 qc9 qc10 qc11 qc12 qc13 qc14 qc15 qx0 qx1 qx2 qz0 qz1
    clear c0
    clear x0 x1 x2
    clear z0 z1
    clear ck hw3 hw4 cb q0 q1 q2 qq0 qq1 qq2
    obtain ⟨w5, hq⟩ : ∃ W, Go.Sort.grow (redrawn w4 dq) osq = W := ⟨_, rfl⟩
    have hb : Below w4.heap.size w4 w5 := by rw [<- hq]; exact below_regrown _ _ _
    rw [hq]
    clear hq
    have HQ5 := Zh (HQ4.out.below hb)
    have HL5 := Zh (HL4.out.below hb)
    have HH5 := Zh (HH4.out.below hb)
    replace KS3 := Zk KS3 hb
    replace KX3 := Zk KX3 hb
    replace KB4 := Zk KB4 hb
    replace HW4 := Zt HW4 hb
    have HB5 := Zt HB4 hb
    clear hb HQ4 HL4 HH4 HB4
    have c0 := Y.cs16 KS3.out
    obtain ⟨x0, x1, x2⟩ := Y.cs3 KX3.out
    obtain ⟨z0, z1⟩ := Y.cb2 KB4.out
    clear z0 z1
    have HE : Hid (v = false) := Zh (by rw [<- HV.out]; exact decide_eq_false fun hok => Y.SrtH.no HY.out HX.out (fun hl => by have h := of_decide_eq_false HU.out; unfold Y.LtH at hl; exact h (by omega)) hok.1)
    go_wp2
    go_ret
    exact ⟨by rw [HE.out]; rfl, HB5.out⟩
   | true =>
    cases bk with
    | false =>
     have c0 := Y.cs16 KS3.out
     obtain ⟨x0, x1, x2⟩ := Y.cs3 KX3.out
     obtain ⟨z0, z1⟩ := Y.cb2 KB4.out
     obtain ⟨qc0, qc1, qc2, qc3, qc4, qc5, qc6, qc7, qc8, qc9, qc10, qc11, qc12, qc13, qc14, qc15⟩ := Y.cs16q KS3.out
     obtain ⟨qx0, qx1, qx2⟩ := Y.cs3q KX3.out
     obtain ⟨qz0, qz1⟩ := Y.cb2q KB4.out
     clear x0 x1
     go_wp2_with fail
     try rw [hw3]
     try rw [hw4]
     refine wp_region_quiet_below (by kernel_rfl) (by kernel_rfl) ?_
     repeat (go_big_quiet_step (first | with_reducible exact Calls.regrown_of (ck _) | with_reducible exact Calls.regrown_of (cb _)))
     refine wpQuiet_nil ?_
     intro _ hw'
     obtain ⟨⟨dq, osq⟩, hw''⟩ := hw'
     subst hw''
     clear qc0 qc1 qc2 qc3 qc4 qc5 qc6 qc7 qc8 qc9 qc10 qc11 qc12 qc13 qc14 qc15 qx0 qx1 qx2 qz0 qz1
     clear c0
     clear x0 x1 x2
     clear z0 z1
     clear ck hw3 hw4 cb q0 q1 q2 qq0 qq1 qq2
     obtain ⟨w5, hq⟩ : ∃ W, Go.Sort.grow (redrawn w4 dq) osq = W := ⟨_, rfl⟩
     have hb : Below w4.heap.size w4 w5 := by rw [<- hq]; exact below_regrown _ _ _
     rw [hq]
     clear hq
     have HQ5 := Zh (HQ4.out.below hb)
     have HL5 := Zh (HL4.out.below hb)
     have HH5 := Zh (HH4.out.below hb)
     replace KS3 := Zk KS3 hb
     replace KX3 := Zk KX3 hb
     replace KB4 := Zk KB4 hb
     replace HW4 := Zt HW4 hb
     have HB5 := Zt HB4 hb
     clear hb HQ4 HL4 HH4 HB4
     have c0 := Y.cs16 KS3.out
     obtain ⟨x0, x1, x2⟩ := Y.cs3 KX3.out
     obtain ⟨z0, z1⟩ := Y.cb2 KB4.out
     clear z0 z1
     have HE : Hid (v = false) := Zh (by rw [<- HV.out]; exact decide_eq_false fun hok => by have := (hok.2 x (List.mem_of_getElem? HX.out)).1; rw [HK.out] at this; cases this)
     go_wp2
     go_ret
     exact ⟨by rw [HE.out]; rfl, HB5.out⟩
    | true =>
     have c0 := Y.cs16 KS3.out
     obtain ⟨x0, x1, x2⟩ := Y.cs3 KX3.out
     obtain ⟨z0, z1⟩ := Y.cb2 KB4.out
     obtain ⟨qc0, qc1, qc2, qc3, qc4, qc5, qc6, qc7, qc8, qc9, qc10, qc11, qc12, qc13, qc14, qc15⟩ := Y.cs16q KS3.out
     obtain ⟨qx0, qx1, qx2⟩ := Y.cs3q KX3.out
     obtain ⟨qz0, qz1⟩ := Y.cb2q KB4.out
     clear x0 x1
     go_wp2_with fail
     try rw [hw3]
     try rw [hw4]
     refine wp_region_quiet_below (by kernel_rfl) (by kernel_rfl) ?_
     repeat (go_big_quiet_step (first | with_reducible exact Calls.regrown_of (ck _) | with_reducible exact Calls.regrown_of (cb _)))
     refine wpQuiet_nil ?_
     intro _ hw'
     obtain ⟨⟨dq, osq⟩, hw''⟩ := hw'
     subst hw''
     clear qc0 qc1 qc2 qc3 qc4 qc5 qc6 qc7 qc8 qc9 qc10 qc11 qc12 qc13 qc14 qc15 qx0 qx1 qx2 qz0 qz1
     clear c0
     clear x0 x1 x2
     clear z0 z1
     clear ck hw3 hw4 cb q0 q1 q2 qq0 qq1 qq2
     obtain ⟨w5, hq⟩ : ∃ W, Go.Sort.grow (redrawn w4 dq) osq = W := ⟨_, rfl⟩
     have hb : Below w4.heap.size w4 w5 := by rw [<- hq]; exact below_regrown _ _ _
     rw [hq]
     clear hq
     have HQ5 := Zh (HQ4.out.below hb)
     have HL5 := Zh (HL4.out.below hb)
     have HH5 := Zh (HH4.out.below hb)
     replace KS3 := Zk KS3 hb
     replace KX3 := Zk KX3 hb
     replace KB4 := Zk KB4 hb
     replace HW4 := Zt HW4 hb
     have HB5 := Zt HB4 hb
     clear hb HQ4 HL4 HH4 HB4
     have c0 := Y.cs16 KS3.out
     obtain ⟨x0, x1, x2⟩ := Y.cs3 KX3.out
     obtain ⟨z0, z1⟩ := Y.cb2 KB4.out
     clear z0 z1
     obtain ⟨r, hr⟩ : ∃ v, L.find s.l x.a x.b = v := ⟨_, rfl⟩
     have HR := Zh hr
     have hr1 := L.find_lt s.l x.a x.b
     rw [hr] at hr1
     go_wp2_with fail
     refine (zni al nl cl s.l x.a x.b r hr w5 HL5.out (by omega)).mono ?_
     clear c0
     clear x0 x1 x2
     rintro e w6 ⟨rfl, hb⟩
     have HQ6 := Zh (HQ5.out.below hb)
     have HL6 := Zh (HL5.out.below hb)
     have HH6 := Zh (HH5.out.below hb)
     replace KS3 := Zk KS3 hb
     replace KX3 := Zk KX3 hb
     replace KB4 := Zk KB4 hb
     replace HW4 := Zt HW4 hb
     have HB6 := Zt HB5 hb
     clear hb HQ5 HL5 HH5 HB5
     have c0 := Y.cs16 KS3.out
     obtain ⟨x0, x1, x2⟩ := Y.cs3 KX3.out
     clear hr
     have hw2 : IntKind.i64.wrap (s.now + 1048576) = s.now + 1048576 := by have := HN.out; rw [IntKind.wrap_i64]; omega
     by_cases k2 : r = -1
     rotate_left
     ·have e2 : (r != -1) = true := by simpa using k2
      have HE : Hid (v = false) := Zh (by rw [<- HV.out]; exact decide_eq_false fun hok => k2 (by rw [<- HR.out]; exact L.find_none.2 (hok.2 x (List.mem_of_getElem? HX.out)).2.2.2))
      go_wp2
      go_ret
      exact ⟨by rw [HE.out]; rfl, HB6.out⟩
     subst k2
     have e2 : ((-1 : Int) != -1) = false := rfl
     by_cases k3 : x.x <= s.now
     ·have d3 : decide (x.x <= s.now) = true := decide_eq_true k3
      have HE : Hid (v = false) := Zh (by rw [<- HV.out]; exact decide_eq_false fun hok => by have := (hok.2 x (List.mem_of_getElem? HX.out)).2.1; omega)
      go_wp2
      go_ret
      exact ⟨by rw [HE.out]; rfl, HB6.out⟩
     have d3 : decide (x.x <= s.now) = false := decide_eq_false k3
     by_cases k4 : s.now + 1048576 < x.x
     ·have d4 : decide (s.now + 1048576 < x.x) = true := decide_eq_true k4
      have HE : Hid (v = false) := Zh (by rw [<- HV.out]; exact decide_eq_false fun hok => by have := (hok.2 x (List.mem_of_getElem? HX.out)).2.2.1; omega)
      go_wp2
      go_ret
      exact ⟨by rw [HE.out]; rfl, HB6.out⟩
     have d4 : decide (s.now + 1048576 < x.x) = false := decide_eq_false k4
     have HSR2 := Zh (Y.SrtH.snoc HSR.out HY.out HX.out (by have h := of_decide_eq_true HU.out; unfold Y.LtH; omega))
     have HOK2 : Hid (∀ z ∈ s.h.take (m + 1 + 1), Y.okH s z) := Zh (by
      rw [List.take_succ_eq_append_getElem (by omega : m + 1 < s.h.length)]
      intro z hz
      rcases List.mem_append.1 hz with hz | hz
      ·exact HOK.out z hz
      ·have he := (List.getElem?_eq_some_iff.1 HX.out).2
       rw [List.mem_singleton, he] at hz
       subst hz
       exact ⟨HK.out, by omega, by omega, L.find_none.1 HR.out⟩)
     go_wp2
     go_roundw
     case rel => exact ⟨m + 1 + 1, by go_num, by omega, HSR2, HOK2, Zh (HL4r.out.trans (HW4.out.mono HL4r.out.size))⟩
     case measure => simp [intOf] <;> omega
end Go.Proofs.YtijkbflimbffmaaGreat
