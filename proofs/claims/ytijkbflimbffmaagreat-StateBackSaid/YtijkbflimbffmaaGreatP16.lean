import Derived.Test.YtijkbflimbffmaaGreatP14
import Derived.Test.YtijkbflimbffmaaGreatP15
namespace Go.Proofs.YtijkbflimbffmaaGreat
set_option maxHeartbeats 2000000
set_option maxRecDepth 100000
open Go.RowKit
theorem zlp (s : Y.St) (A : Y.A9) (w : World) (h : Y.SIn w A s) (hf : Y.Fits A s) (h1 : E.fit s.d = false) :
  Calls Tryz.prog 24 #[Y.val s A] w fun e w' => e = .returned (.bool false) /\ Below w.heap.size w w' := by
 obtain ⟨ap, np, cp, al, nl, cl, ah, nh, ch⟩ := A
 have hnp : np <= 600 := hf.p
 have hnl : nl <= 600 := hf.l
 have hnh : nh <= 600 := hf.h
 have HF := Zh hf
 have HB0 := Zh (Below.refl w.heap.size w)
 have HQ0 := Zh ((h.p : QIn w ap np cp s.ps))
 have HL0 := Zh ((h.l : RIn w al nl cl s.l))
 have HH0 := Zh ((h.h : RIn w ah nh ch s.h))
 clear h hf
 unfold Y.val
 obtain ⟨w1, hw1, hb, hk⟩ := Zn w 32 #[.int .i64 s.d.b, .int .i64 s.d.k, .int .i64 s.d.c, .int .i64 s.d.j, .int .i64 s.d.lo, .int .i64 s.d.hi, .int .i64 s.d.dy, .int .i64 s.d.bl, .int .i64 s.p.q, .int .i64 s.p.i, .int .i64 s.p.h, .bool s.p.pair, .int .i64 s.now, .slice ap np cp, .slice al nl cl, .slice ah nh ch]
 replace HQ0 := Zh (HQ0.out.below hb)
 replace HL0 := Zh (HL0.out.below hb)
 replace HH0 := Zh (HH0.out.below hb)
 replace HB0 := Zt HB0 hb
 have KS1 := Zh hk
 clear hb hk
 have cc1 := fun W => za6 s.d _ W h1 HF.out.b HF.out.c
 clear h1
 have c0 := Y.cs16 KS1.out
 go_enter Tryz.func24, Tryz.ntmps24
 obtain ⟨qc0, qc1, qc2, qc3, qc4, qc5, qc6, qc7, qc8, qc9, qc10, qc11, qc12, qc13, qc14, qc15⟩ := Y.cs16q KS1.out
 go_wp2_with fail
 try rw [hw1]
 refine wp_region_quiet_below (by kernel_rfl) (by kernel_rfl) ?_
 repeat (go_big_quiet_step (first | with_reducible exact Calls.regrown_of (cc1 _)))
 refine wpQuiet_nil ?_
 intro _ hw'
 obtain ⟨⟨dq, osq⟩, hw''⟩ := hw'
 subst hw''
 clear qc0 qc1 qc2 qc3 qc4 qc5 qc6 qc7 qc8 qc9 qc10 qc11 qc12 qc13 qc14 qc15
 clear c0
 clear cc1
 obtain ⟨w2, hq⟩ : ∃ W, Go.Sort.grow (redrawn w1 dq) osq = W := ⟨_, rfl⟩
 have hb : Below w1.heap.size w1 w2 := by rw [<- hq]; exact below_regrown _ _ _
 rw [hq]
 clear hq
 replace HQ0 := Zh (HQ0.out.below hb)
 replace HL0 := Zh (HL0.out.below hb)
 replace HH0 := Zh (HH0.out.below hb)
 replace KS1 := Zk KS1 hb
 replace HB0 := Zt HB0 hb
 clear hb
 have c0 := Y.cs16 KS1.out
 clear c0
 go_wp2
 go_ret
 exact ⟨rfl, HB0.out⟩
theorem zlq (s : Y.St) (A : Y.A9) (w : World) (h : Y.SIn w A s) (hf : Y.Fits A s) (h1 : E.fit s.d = true) (h2 : decide (Y.MayP s.p) = false) :
  Calls Tryz.prog 24 #[Y.val s A] w fun e w' => e = .returned (.bool false) /\ Below w.heap.size w w' := by
 obtain ⟨ap, np, cp, al, nl, cl, ah, nh, ch⟩ := A
 have hnp : np <= 600 := hf.p
 have hnl : nl <= 600 := hf.l
 have hnh : nh <= 600 := hf.h
 have HF := Zh hf
 have HB0 := Zh (Below.refl w.heap.size w)
 have HQ0 := Zh ((h.p : QIn w ap np cp s.ps))
 have HL0 := Zh ((h.l : RIn w al nl cl s.l))
 have HH0 := Zh ((h.h : RIn w ah nh ch s.h))
 clear h hf
 unfold Y.val
 obtain ⟨w1, hw1, hb, hk⟩ := Zn w 32 #[.int .i64 s.d.b, .int .i64 s.d.k, .int .i64 s.d.c, .int .i64 s.d.j, .int .i64 s.d.lo, .int .i64 s.d.hi, .int .i64 s.d.dy, .int .i64 s.d.bl, .int .i64 s.p.q, .int .i64 s.p.i, .int .i64 s.p.h, .bool s.p.pair, .int .i64 s.now, .slice ap np cp, .slice al nl cl, .slice ah nh ch]
 replace HQ0 := Zh (HQ0.out.below hb)
 replace HL0 := Zh (HL0.out.below hb)
 replace HH0 := Zh (HH0.out.below hb)
 replace HB0 := Zt HB0 hb
 have KS1 := Zh hk
 clear hb hk
 have cc1 := fun W => za6 s.d _ W h1 HF.out.b HF.out.c
 have cc2 := fun W => zbe s.p _ h2 W
 unfold Y.pval at cc2
 clear h1 h2
 have c0 := Y.cs16 KS1.out
 go_enter Tryz.func24, Tryz.ntmps24
 obtain ⟨qc0, qc1, qc2, qc3, qc4, qc5, qc6, qc7, qc8, qc9, qc10, qc11, qc12, qc13, qc14, qc15⟩ := Y.cs16q KS1.out
 go_wp2_with fail
 try rw [hw1]
 refine wp_region_quiet_below (by kernel_rfl) (by kernel_rfl) ?_
 repeat (go_big_quiet_step (first | with_reducible exact Calls.regrown_of (cc1 _) | with_reducible exact Calls.regrown_of (cc2 _)))
 refine wpQuiet_nil ?_
 intro _ hw'
 obtain ⟨⟨dq, osq⟩, hw''⟩ := hw'
 subst hw''
 clear qc0 qc1 qc2 qc3 qc4 qc5 qc6 qc7 qc8 qc9 qc10 qc11 qc12 qc13 qc14 qc15
 clear c0
 clear cc1 cc2
 obtain ⟨w2, hq⟩ : ∃ W, Go.Sort.grow (redrawn w1 dq) osq = W := ⟨_, rfl⟩
 have hb : Below w1.heap.size w1 w2 := by rw [<- hq]; exact below_regrown _ _ _
 rw [hq]
 clear hq
 replace HQ0 := Zh (HQ0.out.below hb)
 replace HL0 := Zh (HL0.out.below hb)
 replace HH0 := Zh (HH0.out.below hb)
 replace KS1 := Zk KS1 hb
 replace HB0 := Zt HB0 hb
 clear hb
 have c0 := Y.cs16 KS1.out
 clear c0
 go_wp2
 go_ret
 exact ⟨rfl, HB0.out⟩
theorem zlr (s : Y.St) (A : Y.A9) (w : World) (h : Y.SIn w A s) (hf : Y.Fits A s) (h1 : E.fit s.d = true) (h2 : decide (Y.MayP s.p) = true) (h3 : decide (0 <= s.now) = false) :
  Calls Tryz.prog 24 #[Y.val s A] w fun e w' => e = .returned (.bool false) /\ Below w.heap.size w w' := by
 obtain ⟨ap, np, cp, al, nl, cl, ah, nh, ch⟩ := A
 have hnp : np <= 600 := hf.p
 have hnl : nl <= 600 := hf.l
 have hnh : nh <= 600 := hf.h
 have HF := Zh hf
 have HB0 := Zh (Below.refl w.heap.size w)
 have HQ0 := Zh ((h.p : QIn w ap np cp s.ps))
 have HL0 := Zh ((h.l : RIn w al nl cl s.l))
 have HH0 := Zh ((h.h : RIn w ah nh ch s.h))
 clear h hf
 unfold Y.val
 obtain ⟨w1, hw1, hb, hk⟩ := Zn w 32 #[.int .i64 s.d.b, .int .i64 s.d.k, .int .i64 s.d.c, .int .i64 s.d.j, .int .i64 s.d.lo, .int .i64 s.d.hi, .int .i64 s.d.dy, .int .i64 s.d.bl, .int .i64 s.p.q, .int .i64 s.p.i, .int .i64 s.p.h, .bool s.p.pair, .int .i64 s.now, .slice ap np cp, .slice al nl cl, .slice ah nh ch]
 replace HQ0 := Zh (HQ0.out.below hb)
 replace HL0 := Zh (HL0.out.below hb)
 replace HH0 := Zh (HH0.out.below hb)
 replace HB0 := Zt HB0 hb
 have KS1 := Zh hk
 clear hb hk
 have cc1 := fun W => za6 s.d _ W h1 HF.out.b HF.out.c
 have cc2 := fun W => zbe s.p _ h2 W
 unfold Y.pval at cc2
 clear h1 h2
 have c0 := Y.cs16 KS1.out
 go_enter Tryz.func24, Tryz.ntmps24
 obtain ⟨qc0, qc1, qc2, qc3, qc4, qc5, qc6, qc7, qc8, qc9, qc10, qc11, qc12, qc13, qc14, qc15⟩ := Y.cs16q KS1.out
 go_wp2_with fail
 try rw [hw1]
 refine wp_region_quiet_below (by kernel_rfl) (by kernel_rfl) ?_
 repeat (go_big_quiet_step (first | with_reducible exact Calls.regrown_of (cc1 _) | with_reducible exact Calls.regrown_of (cc2 _)))
 refine wpQuiet_nil ?_
 intro _ hw'
 obtain ⟨⟨dq, osq⟩, hw''⟩ := hw'
 subst hw''
 clear qc0 qc1 qc2 qc3 qc4 qc5 qc6 qc7 qc8 qc9 qc10 qc11 qc12 qc13 qc14 qc15
 clear c0
 clear cc1 cc2
 obtain ⟨w2, hq⟩ : ∃ W, Go.Sort.grow (redrawn w1 dq) osq = W := ⟨_, rfl⟩
 have hb : Below w1.heap.size w1 w2 := by rw [<- hq]; exact below_regrown _ _ _
 rw [hq]
 clear hq
 replace HQ0 := Zh (HQ0.out.below hb)
 replace HL0 := Zh (HL0.out.below hb)
 replace HH0 := Zh (HH0.out.below hb)
 replace KS1 := Zk KS1 hb
 replace HB0 := Zt HB0 hb
 clear hb
 have c0 := Y.cs16 KS1.out
 clear c0
 go_wp2
 go_ret
 exact ⟨rfl, HB0.out⟩
theorem zls (s : Y.St) (A : Y.A9) (w : World) (h : Y.SIn w A s) (hf : Y.Fits A s) (h1 : E.fit s.d = true) (h2 : decide (Y.MayP s.p) = true) (h3 : decide (0 <= s.now) = true) (h4 : decide (s.now <= 1073741824) = false) :
  Calls Tryz.prog 24 #[Y.val s A] w fun e w' => e = .returned (.bool false) /\ Below w.heap.size w w' := by
 obtain ⟨ap, np, cp, al, nl, cl, ah, nh, ch⟩ := A
 have hnp : np <= 600 := hf.p
 have hnl : nl <= 600 := hf.l
 have hnh : nh <= 600 := hf.h
 have HF := Zh hf
 have HB0 := Zh (Below.refl w.heap.size w)
 have HQ0 := Zh ((h.p : QIn w ap np cp s.ps))
 have HL0 := Zh ((h.l : RIn w al nl cl s.l))
 have HH0 := Zh ((h.h : RIn w ah nh ch s.h))
 clear h hf
 unfold Y.val
 obtain ⟨w1, hw1, hb, hk⟩ := Zn w 32 #[.int .i64 s.d.b, .int .i64 s.d.k, .int .i64 s.d.c, .int .i64 s.d.j, .int .i64 s.d.lo, .int .i64 s.d.hi, .int .i64 s.d.dy, .int .i64 s.d.bl, .int .i64 s.p.q, .int .i64 s.p.i, .int .i64 s.p.h, .bool s.p.pair, .int .i64 s.now, .slice ap np cp, .slice al nl cl, .slice ah nh ch]
 replace HQ0 := Zh (HQ0.out.below hb)
 replace HL0 := Zh (HL0.out.below hb)
 replace HH0 := Zh (HH0.out.below hb)
 replace HB0 := Zt HB0 hb
 have KS1 := Zh hk
 clear hb hk
 have cc1 := fun W => za6 s.d _ W h1 HF.out.b HF.out.c
 have cc2 := fun W => zbe s.p _ h2 W
 unfold Y.pval at cc2
 clear h1 h2
 have c0 := Y.cs16 KS1.out
 go_enter Tryz.func24, Tryz.ntmps24
 obtain ⟨qc0, qc1, qc2, qc3, qc4, qc5, qc6, qc7, qc8, qc9, qc10, qc11, qc12, qc13, qc14, qc15⟩ := Y.cs16q KS1.out
 go_wp2_with fail
 try rw [hw1]
 refine wp_region_quiet_below (by kernel_rfl) (by kernel_rfl) ?_
 repeat (go_big_quiet_step (first | with_reducible exact Calls.regrown_of (cc1 _) | with_reducible exact Calls.regrown_of (cc2 _)))
 refine wpQuiet_nil ?_
 intro _ hw'
 obtain ⟨⟨dq, osq⟩, hw''⟩ := hw'
 subst hw''
 clear qc0 qc1 qc2 qc3 qc4 qc5 qc6 qc7 qc8 qc9 qc10 qc11 qc12 qc13 qc14 qc15
 clear c0
 clear cc1 cc2
 obtain ⟨w2, hq⟩ : ∃ W, Go.Sort.grow (redrawn w1 dq) osq = W := ⟨_, rfl⟩
 have hb : Below w1.heap.size w1 w2 := by rw [<- hq]; exact below_regrown _ _ _
 rw [hq]
 clear hq
 replace HQ0 := Zh (HQ0.out.below hb)
 replace HL0 := Zh (HL0.out.below hb)
 replace HH0 := Zh (HH0.out.below hb)
 replace KS1 := Zk KS1 hb
 replace HB0 := Zt HB0 hb
 clear hb
 have c0 := Y.cs16 KS1.out
 clear c0
 go_wp2
 go_ret
 exact ⟨rfl, HB0.out⟩
theorem zlt (s : Y.St) (A : Y.A9) (w : World) (h : Y.SIn w A s) (hf : Y.Fits A s) (h1 : E.fit s.d = true) (h2 : decide (Y.MayP s.p) = true) (h3 : decide (0 <= s.now) = true) (h4 : decide (s.now <= 1073741824) = true) (h5 : O.may s.ps (E.no s.d) = false) :
  Calls Tryz.prog 24 #[Y.val s A] w fun e w' => e = .returned (.bool false) /\ Below w.heap.size w w' := by
 obtain ⟨ap, np, cp, al, nl, cl, ah, nh, ch⟩ := A
 have hnp : np <= 600 := hf.p
 have hnl : nl <= 600 := hf.l
 have hnh : nh <= 600 := hf.h
 have HF := Zh hf
 have HB0 := Zh (Below.refl w.heap.size w)
 have HQ0 := Zh ((h.p : QIn w ap np cp s.ps))
 have HL0 := Zh ((h.l : RIn w al nl cl s.l))
 have HH0 := Zh ((h.h : RIn w ah nh ch s.h))
 clear h hf
 unfold Y.val
 obtain ⟨w1, hw1, hb, hk⟩ := Zn w 32 #[.int .i64 s.d.b, .int .i64 s.d.k, .int .i64 s.d.c, .int .i64 s.d.j, .int .i64 s.d.lo, .int .i64 s.d.hi, .int .i64 s.d.dy, .int .i64 s.d.bl, .int .i64 s.p.q, .int .i64 s.p.i, .int .i64 s.p.h, .bool s.p.pair, .int .i64 s.now, .slice ap np cp, .slice al nl cl, .slice ah nh ch]
 replace HQ0 := Zh (HQ0.out.below hb)
 replace HL0 := Zh (HL0.out.below hb)
 replace HH0 := Zh (HH0.out.below hb)
 replace HB0 := Zt HB0 hb
 have KS1 := Zh hk
 clear hb hk
 have cc1 := fun W => za6 s.d _ W h1 HF.out.b HF.out.c
 have cc2 := fun W => zbe s.p _ h2 W
 unfold Y.pval at cc2
 obtain ⟨no, hno⟩ : ∃ u, E.no s.d = u := ⟨_, rfl⟩
 rw [hno] at h5
 have cc3 := fun W => za3 s.d no hno W
 have cc4 := fun d os => zbi ap np cp s.ps no _ h5 (Go.Sort.grow (redrawn w1 d) os) (HQ0.out.below (below_regrown w1 d os)) (by omega) HF.out.sm
 clear h1 h2 h5
 have c0 := Y.cs16 KS1.out
 go_enter Tryz.func24, Tryz.ntmps24
 obtain ⟨qc0, qc1, qc2, qc3, qc4, qc5, qc6, qc7, qc8, qc9, qc10, qc11, qc12, qc13, qc14, qc15⟩ := Y.cs16q KS1.out
 go_wp2_with fail
 try rw [hw1]
 refine wp_region_quiet_below (by kernel_rfl) (by kernel_rfl) ?_
 repeat (go_big_quiet_step (first | with_reducible exact Calls.regrown_of (cc1 _) | with_reducible exact Calls.regrown_of (cc2 _) | with_reducible exact Calls.regrown_of (cc3 _) | with_reducible exact Calls.regrown_of (cc4 _ _)))
 refine wpQuiet_nil ?_
 intro _ hw'
 obtain ⟨⟨dq, osq⟩, hw''⟩ := hw'
 subst hw''
 clear qc0 qc1 qc2 qc3 qc4 qc5 qc6 qc7 qc8 qc9 qc10 qc11 qc12 qc13 qc14 qc15
 clear c0
 clear cc1 cc2 cc3 cc4
 obtain ⟨w2, hq⟩ : ∃ W, Go.Sort.grow (redrawn w1 dq) osq = W := ⟨_, rfl⟩
 have hb : Below w1.heap.size w1 w2 := by rw [<- hq]; exact below_regrown _ _ _
 rw [hq]
 clear hq
 replace HQ0 := Zh (HQ0.out.below hb)
 replace HL0 := Zh (HL0.out.below hb)
 replace HH0 := Zh (HH0.out.below hb)
 replace KS1 := Zk KS1 hb
 replace HB0 := Zt HB0 hb
 clear hb
 have c0 := Y.cs16 KS1.out
 clear c0
 go_wp2
 go_ret
 exact ⟨rfl, HB0.out⟩
theorem zlu (s : Y.St) (A : Y.A9) (w : World) (h : Y.SIn w A s) (hf : Y.Fits A s) (h1 : E.fit s.d = true) (h2 : decide (Y.MayP s.p) = true) (h3 : decide (0 <= s.now) = true) (h4 : decide (s.now <= 1073741824) = true) (h5 : O.may s.ps (E.no s.d) = true) (h6 : decide (s.l.length <= 32 /\ L.Srt s.l /\ ∀ x ∈ s.l, Y.okL s x) = false) :
  Calls Tryz.prog 24 #[Y.val s A] w fun e w' => e = .returned (.bool false) /\ Below w.heap.size w w' := by
 obtain ⟨ap, np, cp, al, nl, cl, ah, nh, ch⟩ := A
 have hnp : np <= 600 := hf.p
 have hnl : nl <= 600 := hf.l
 have hnh : nh <= 600 := hf.h
 have HF := Zh hf
 have HB0 := Zh (Below.refl w.heap.size w)
 have HQ0 := Zh ((h.p : QIn w ap np cp s.ps))
 have HL0 := Zh ((h.l : RIn w al nl cl s.l))
 have HH0 := Zh ((h.h : RIn w ah nh ch s.h))
 clear h hf
 unfold Y.val
 obtain ⟨w1, hw1, hb, hk⟩ := Zn w 32 #[.int .i64 s.d.b, .int .i64 s.d.k, .int .i64 s.d.c, .int .i64 s.d.j, .int .i64 s.d.lo, .int .i64 s.d.hi, .int .i64 s.d.dy, .int .i64 s.d.bl, .int .i64 s.p.q, .int .i64 s.p.i, .int .i64 s.p.h, .bool s.p.pair, .int .i64 s.now, .slice ap np cp, .slice al nl cl, .slice ah nh ch]
 replace HQ0 := Zh (HQ0.out.below hb)
 replace HL0 := Zh (HL0.out.below hb)
 replace HH0 := Zh (HH0.out.below hb)
 replace HB0 := Zt HB0 hb
 have KS1 := Zh hk
 clear hb hk
 have cc1 := fun W => za6 s.d _ W h1 HF.out.b HF.out.c
 have cc2 := fun W => zbe s.p _ h2 W
 unfold Y.pval at cc2
 obtain ⟨no, hno⟩ : ∃ u, E.no s.d = u := ⟨_, rfl⟩
 rw [hno] at h5
 have cc3 := fun W => za3 s.d no hno W
 have cc4 := fun d os => zbi ap np cp s.ps no _ h5 (Go.Sort.grow (redrawn w1 d) os) (HQ0.out.below (below_regrown w1 d os)) (by omega) HF.out.sm
 have cc5 := fun d os => zb3 s ⟨ap, np, cp, al, nl, cl, ah, nh, ch⟩ _ h6 (Go.Sort.grow (redrawn w1 d) os) ⟨(HQ0.out.below (below_regrown w1 d os) : QIn _ ap np cp s.ps), HL0.out.below (below_regrown w1 d os), HH0.out.below (below_regrown w1 d os)⟩ HF.out (of_decide_eq_true h2) ⟨of_decide_eq_true h3, of_decide_eq_true h4⟩
 unfold Y.val at cc5
 clear h1 h2 h5 h6
 have c0 := Y.cs16 KS1.out
 go_enter Tryz.func24, Tryz.ntmps24
 obtain ⟨qc0, qc1, qc2, qc3, qc4, qc5, qc6, qc7, qc8, qc9, qc10, qc11, qc12, qc13, qc14, qc15⟩ := Y.cs16q KS1.out
 go_wp2_with fail
 try rw [hw1]
 refine wp_region_quiet_below (by kernel_rfl) (by kernel_rfl) ?_
 repeat (go_big_quiet_step (first | with_reducible exact Calls.regrown_of (cc1 _) | with_reducible exact Calls.regrown_of (cc2 _) | with_reducible exact Calls.regrown_of (cc3 _) | with_reducible exact Calls.regrown_of (cc4 _ _) | with_reducible exact Calls.regrown_of (cc5 _ _)))
 refine wpQuiet_nil ?_
 intro _ hw'
 obtain ⟨⟨dq, osq⟩, hw''⟩ := hw'
 subst hw''
 clear qc0 qc1 qc2 qc3 qc4 qc5 qc6 qc7 qc8 qc9 qc10 qc11 qc12 qc13 qc14 qc15
 clear c0
 clear cc1 cc2 cc3 cc4 cc5
 obtain ⟨w2, hq⟩ : ∃ W, Go.Sort.grow (redrawn w1 dq) osq = W := ⟨_, rfl⟩
 have hb : Below w1.heap.size w1 w2 := by rw [<- hq]; exact below_regrown _ _ _
 rw [hq]
 clear hq
 replace HQ0 := Zh (HQ0.out.below hb)
 replace HL0 := Zh (HL0.out.below hb)
 replace HH0 := Zh (HH0.out.below hb)
 replace KS1 := Zk KS1 hb
 replace HB0 := Zt HB0 hb
 clear hb
 have c0 := Y.cs16 KS1.out
 clear c0
 go_wp2
 go_ret
 exact ⟨rfl, HB0.out⟩
theorem zlv (s : Y.St) (A : Y.A9) (w : World) (h : Y.SIn w A s) (hf : Y.Fits A s) (h1 : E.fit s.d = true) (h2 : decide (Y.MayP s.p) = true) (h3 : decide (0 <= s.now) = true) (h4 : decide (s.now <= 1073741824) = true) (h5 : O.may s.ps (E.no s.d) = true) (h6 : decide (s.l.length <= 32 /\ L.Srt s.l /\ ∀ x ∈ s.l, Y.okL s x) = true) (h7 : decide (Y.SrtH s.h /\ ∀ y ∈ s.h, Y.okH s y) = false) :
  Calls Tryz.prog 24 #[Y.val s A] w fun e w' => e = .returned (.bool false) /\ Below w.heap.size w w' := by
 obtain ⟨ap, np, cp, al, nl, cl, ah, nh, ch⟩ := A
 have hnp : np <= 600 := hf.p
 have hnl : nl <= 600 := hf.l
 have hnh : nh <= 600 := hf.h
 have HF := Zh hf
 have HB0 := Zh (Below.refl w.heap.size w)
 have HQ0 := Zh ((h.p : QIn w ap np cp s.ps))
 have HL0 := Zh ((h.l : RIn w al nl cl s.l))
 have HH0 := Zh ((h.h : RIn w ah nh ch s.h))
 clear h hf
 unfold Y.val
 obtain ⟨w1, hw1, hb, hk⟩ := Zn w 32 #[.int .i64 s.d.b, .int .i64 s.d.k, .int .i64 s.d.c, .int .i64 s.d.j, .int .i64 s.d.lo, .int .i64 s.d.hi, .int .i64 s.d.dy, .int .i64 s.d.bl, .int .i64 s.p.q, .int .i64 s.p.i, .int .i64 s.p.h, .bool s.p.pair, .int .i64 s.now, .slice ap np cp, .slice al nl cl, .slice ah nh ch]
 replace HQ0 := Zh (HQ0.out.below hb)
 replace HL0 := Zh (HL0.out.below hb)
 replace HH0 := Zh (HH0.out.below hb)
 replace HB0 := Zt HB0 hb
 have KS1 := Zh hk
 clear hb hk
 have cc1 := fun W => za6 s.d _ W h1 HF.out.b HF.out.c
 have cc2 := fun W => zbe s.p _ h2 W
 unfold Y.pval at cc2
 obtain ⟨no, hno⟩ : ∃ u, E.no s.d = u := ⟨_, rfl⟩
 rw [hno] at h5
 have cc3 := fun W => za3 s.d no hno W
 have cc4 := fun d os => zbi ap np cp s.ps no _ h5 (Go.Sort.grow (redrawn w1 d) os) (HQ0.out.below (below_regrown w1 d os)) (by omega) HF.out.sm
 have cc5 := fun d os => zb3 s ⟨ap, np, cp, al, nl, cl, ah, nh, ch⟩ _ h6 (Go.Sort.grow (redrawn w1 d) os) ⟨(HQ0.out.below (below_regrown w1 d os) : QIn _ ap np cp s.ps), HL0.out.below (below_regrown w1 d os), HH0.out.below (below_regrown w1 d os)⟩ HF.out (of_decide_eq_true h2) ⟨of_decide_eq_true h3, of_decide_eq_true h4⟩
 unfold Y.val at cc5
 have cc6 := fun d os => zd5 s ⟨ap, np, cp, al, nl, cl, ah, nh, ch⟩ _ h7 (Go.Sort.grow (redrawn w1 d) os) ⟨(HQ0.out.below (below_regrown w1 d os) : QIn _ ap np cp s.ps), HL0.out.below (below_regrown w1 d os), HH0.out.below (below_regrown w1 d os)⟩ HF.out (of_decide_eq_true h2) ⟨of_decide_eq_true h3, of_decide_eq_true h4⟩
 unfold Y.val at cc6
 clear h1 h2 h5 h6 h7
 have c0 := Y.cs16 KS1.out
 go_enter Tryz.func24, Tryz.ntmps24
 obtain ⟨qc0, qc1, qc2, qc3, qc4, qc5, qc6, qc7, qc8, qc9, qc10, qc11, qc12, qc13, qc14, qc15⟩ := Y.cs16q KS1.out
 go_wp2_with fail
 try rw [hw1]
 refine wp_region_quiet_below (by kernel_rfl) (by kernel_rfl) ?_
 repeat (go_big_quiet_step (first | with_reducible exact Calls.regrown_of (cc1 _) | with_reducible exact Calls.regrown_of (cc2 _) | with_reducible exact Calls.regrown_of (cc3 _) | with_reducible exact Calls.regrown_of (cc4 _ _) | with_reducible exact Calls.regrown_of (cc5 _ _) | with_reducible exact Calls.regrown_of (cc6 _ _)))
 refine wpQuiet_nil ?_
 intro _ hw'
 obtain ⟨⟨dq, osq⟩, hw''⟩ := hw'
 subst hw''
 clear qc0 qc1 qc2 qc3 qc4 qc5 qc6 qc7 qc8 qc9 qc10 qc11 qc12 qc13 qc14 qc15
 clear c0
 clear cc1 cc2 cc3 cc4 cc5 cc6
 obtain ⟨w2, hq⟩ : ∃ W, Go.Sort.grow (redrawn w1 dq) osq = W := ⟨_, rfl⟩
 have hb : Below w1.heap.size w1 w2 := by rw [<- hq]; exact below_regrown _ _ _
 rw [hq]
 clear hq
 replace HQ0 := Zh (HQ0.out.below hb)
 replace HL0 := Zh (HL0.out.below hb)
 replace HH0 := Zh (HH0.out.below hb)
 replace KS1 := Zk KS1 hb
 replace HB0 := Zt HB0 hb
 clear hb
 have c0 := Y.cs16 KS1.out
 clear c0
 go_wp2
 go_ret
 exact ⟨rfl, HB0.out⟩
theorem zmm (s : Y.St) (A : Y.A9) (w : World) (h : Y.SIn w A s) (hf : Y.Fits A s) (h1 : E.fit s.d = true) (h2 : decide (Y.MayP s.p) = true) (h3 : decide (0 <= s.now) = true) (h4 : decide (s.now <= 1073741824) = true) (h5 : O.may s.ps (E.no s.d) = true) (h6 : decide (s.l.length <= 32 /\ L.Srt s.l /\ ∀ x ∈ s.l, Y.okL s x) = true) (h7 : decide (Y.SrtH s.h /\ ∀ y ∈ s.h, Y.okH s y) = true) :
  Calls Tryz.prog 24 #[Y.val s A] w fun e w' => e = .returned (.bool true) /\ Below w.heap.size w w' := by
 obtain ⟨ap, np, cp, al, nl, cl, ah, nh, ch⟩ := A
 have hnp : np <= 600 := hf.p
 have hnl : nl <= 600 := hf.l
 have hnh : nh <= 600 := hf.h
 have HF := Zh hf
 have HB0 := Zh (Below.refl w.heap.size w)
 have HQ0 := Zh ((h.p : QIn w ap np cp s.ps))
 have HL0 := Zh ((h.l : RIn w al nl cl s.l))
 have HH0 := Zh ((h.h : RIn w ah nh ch s.h))
 clear h hf
 unfold Y.val
 obtain ⟨w1, hw1, hb, hk⟩ := Zn w 32 #[.int .i64 s.d.b, .int .i64 s.d.k, .int .i64 s.d.c, .int .i64 s.d.j, .int .i64 s.d.lo, .int .i64 s.d.hi, .int .i64 s.d.dy, .int .i64 s.d.bl, .int .i64 s.p.q, .int .i64 s.p.i, .int .i64 s.p.h, .bool s.p.pair, .int .i64 s.now, .slice ap np cp, .slice al nl cl, .slice ah nh ch]
 replace HQ0 := Zh (HQ0.out.below hb)
 replace HL0 := Zh (HL0.out.below hb)
 replace HH0 := Zh (HH0.out.below hb)
 replace HB0 := Zt HB0 hb
 have KS1 := Zh hk
 clear hb hk
 have cc1 := fun W => za6 s.d _ W h1 HF.out.b HF.out.c
 have cc2 := fun W => zbe s.p _ h2 W
 unfold Y.pval at cc2
 obtain ⟨no, hno⟩ : ∃ u, E.no s.d = u := ⟨_, rfl⟩
 rw [hno] at h5
 have cc3 := fun W => za3 s.d no hno W
 have cc4 := fun d os => zbi ap np cp s.ps no _ h5 (Go.Sort.grow (redrawn w1 d) os) (HQ0.out.below (below_regrown w1 d os)) (by omega) HF.out.sm
 have cc5 := fun d os => zb3 s ⟨ap, np, cp, al, nl, cl, ah, nh, ch⟩ _ h6 (Go.Sort.grow (redrawn w1 d) os) ⟨(HQ0.out.below (below_regrown w1 d os) : QIn _ ap np cp s.ps), HL0.out.below (below_regrown w1 d os), HH0.out.below (below_regrown w1 d os)⟩ HF.out (of_decide_eq_true h2) ⟨of_decide_eq_true h3, of_decide_eq_true h4⟩
 unfold Y.val at cc5
 have cc6 := fun d os => zd5 s ⟨ap, np, cp, al, nl, cl, ah, nh, ch⟩ _ h7 (Go.Sort.grow (redrawn w1 d) os) ⟨(HQ0.out.below (below_regrown w1 d os) : QIn _ ap np cp s.ps), HL0.out.below (below_regrown w1 d os), HH0.out.below (below_regrown w1 d os)⟩ HF.out (of_decide_eq_true h2) ⟨of_decide_eq_true h3, of_decide_eq_true h4⟩
 unfold Y.val at cc6
 clear h1 h2 h5 h6 h7
 have c0 := Y.cs16 KS1.out
 go_enter Tryz.func24, Tryz.ntmps24
 obtain ⟨qc0, qc1, qc2, qc3, qc4, qc5, qc6, qc7, qc8, qc9, qc10, qc11, qc12, qc13, qc14, qc15⟩ := Y.cs16q KS1.out
 go_wp2_with fail
 try rw [hw1]
 refine wp_region_quiet_below (by kernel_rfl) (by kernel_rfl) ?_
 repeat (go_big_quiet_step (first | with_reducible exact Calls.regrown_of (cc1 _) | with_reducible exact Calls.regrown_of (cc2 _) | with_reducible exact Calls.regrown_of (cc3 _) | with_reducible exact Calls.regrown_of (cc4 _ _) | with_reducible exact Calls.regrown_of (cc5 _ _) | with_reducible exact Calls.regrown_of (cc6 _ _)))
 refine wpQuiet_nil ?_
 intro _ hw'
 obtain ⟨⟨dq, osq⟩, hw''⟩ := hw'
 subst hw''
 clear qc0 qc1 qc2 qc3 qc4 qc5 qc6 qc7 qc8 qc9 qc10 qc11 qc12 qc13 qc14 qc15
 clear c0
 clear cc1 cc2 cc3 cc4 cc5 cc6
 obtain ⟨w2, hq⟩ : ∃ W, Go.Sort.grow (redrawn w1 dq) osq = W := ⟨_, rfl⟩
 have hb : Below w1.heap.size w1 w2 := by rw [<- hq]; exact below_regrown _ _ _
 rw [hq]
 clear hq
 replace HQ0 := Zh (HQ0.out.below hb)
 replace HL0 := Zh (HL0.out.below hb)
 replace HH0 := Zh (HH0.out.below hb)
 replace KS1 := Zk KS1 hb
 replace HB0 := Zt HB0 hb
 clear hb
 have c0 := Y.cs16 KS1.out
 clear c0
 go_wp2
 go_ret
 exact ⟨rfl, HB0.out⟩
theorem zbj (s : Y.St) (A : Y.A9) (v : Bool) (hv : decide (Y.May s) = v) (w : World) (h : Y.SIn w A s) (hf : Y.Fits A s) :
  Calls Tryz.prog 24 #[Y.val s A] w fun e w' => e = .returned (.bool v) /\ Below w.heap.size w w' := by
 cases h1 : E.fit s.d with
 | false =>
  obtain rfl : v = false := by rw [<- hv]; exact decide_eq_false fun hok => by have := hok.1; rw [h1] at this; cases this
  exact zlp s A w h hf h1
 | true =>
 cases h2 : decide (Y.MayP s.p) with
 | false =>
  obtain rfl : v = false := by rw [<- hv]; exact decide_eq_false fun hok => of_decide_eq_false h2 hok.2.1
  exact zlq s A w h hf h1 h2
 | true =>
 cases h3 : decide (0 <= s.now) with
 | false =>
  obtain rfl : v = false := by rw [<- hv]; exact decide_eq_false fun hok => of_decide_eq_false h3 hok.2.2.2.1.1
  exact zlr s A w h hf h1 h2 h3
 | true =>
 cases h4 : decide (s.now <= 1073741824) with
 | false =>
  obtain rfl : v = false := by rw [<- hv]; exact decide_eq_false fun hok => of_decide_eq_false h4 hok.2.2.2.1.2
  exact zls s A w h hf h1 h2 h3 h4
 | true =>
 cases h5 : O.may s.ps (E.no s.d) with
 | false =>
  obtain rfl : v = false := by rw [<- hv]; exact decide_eq_false fun hok => by have := O.may_iff.2 hok.2.2.1; rw [h5] at this; cases this
  exact zlt s A w h hf h1 h2 h3 h4 h5
 | true =>
 cases h6 : decide (s.l.length <= 32 /\ L.Srt s.l /\ ∀ x ∈ s.l, Y.okL s x) with
 | false =>
  obtain rfl : v = false := by rw [<- hv]; exact decide_eq_false fun hok => of_decide_eq_false h6 ⟨hok.2.2.2.2.1, hok.2.2.2.2.2.1, hok.2.2.2.2.2.2.1⟩
  exact zlu s A w h hf h1 h2 h3 h4 h5 h6
 | true =>
 cases h7 : decide (Y.SrtH s.h /\ ∀ y ∈ s.h, Y.okH s y) with
 | false =>
  obtain rfl : v = false := by rw [<- hv]; exact decide_eq_false fun hok => of_decide_eq_false h7 hok.2.2.2.2.2.2.2
  exact zlv s A w h hf h1 h2 h3 h4 h5 h6 h7
 | true =>
  have g6 := of_decide_eq_true h6
  obtain rfl : v = true := by rw [<- hv]; exact decide_eq_true ⟨h1, of_decide_eq_true h2, O.may_iff.1 h5, ⟨of_decide_eq_true h3, of_decide_eq_true h4⟩, g6.1, g6.2.1, g6.2.2, of_decide_eq_true h7⟩
  exact zmm s A w h hf h1 h2 h3 h4 h5 h6 h7
end Go.Proofs.YtijkbflimbffmaaGreat
