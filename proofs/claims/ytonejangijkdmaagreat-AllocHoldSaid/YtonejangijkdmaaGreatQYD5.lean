import Derived.Test.YtonejangijkdmaaGreatQI
import Derived.Test.YtonejangijkdmaaGreatQYD3
import Derived.Deep.WholeRow
import Derived.Test.YtonejangijkdmaaGreatQYH
import Derived.Test.YtonejangijkdmaaGreatQYP7
import Derived.Test.YtonejangijkdmaaGreatQYP8
import Derived.Test.YtonejangijkdmaaGreatQYPB
import Derived.Test.YtonejangijkdmaaGreatQYPC
namespace Go.Proofs.YtonejangijkdmaaGreat
set_option maxHeartbeats 4000000
set_option maxRecDepth 100000
open Go.RowKit
theorem zjm (s : Y.St) (ap : Option Addr) (np cp : Nat) (al : Option Addr) (nl cl : Nat) (ah : Option Addr) (nh ch : Nat) (w : World) (h : Y.SIn w ⟨ap, np, cp, al, nl, cl, ah, nh, ch⟩ s) (hn : np <= 1000 /\ nl <= 1000 /\ nh <= 1000) :
  Calls Tryz.prog 38 #[.agg #[s.d.b, s.d.k, s.d.c, s.d.j, s.d.lo, s.d.hi, s.d.dy, s.d.bl, s.p.q, s.p.i, s.p.h, s.p.pair, s.now, .slice ap np cp, .slice al nl cl, .slice ah nh ch]] w fun e w' => ∃ (b1 : Option Addr) (m1 e1 : Nat) (b2 : Option Addr) (m2 e2 : Nat) (b3 : Option Addr) (m3 e3 : Nat), e = .returned (.agg #[s.d.b, s.d.k, s.d.c, s.d.j, s.d.lo, s.d.hi, s.d.dy, s.d.bl, s.p.q, s.p.i, s.p.h, s.p.pair, s.now, .slice b1 m1 e1, .slice b2 m2 e2, .slice b3 m3 e3]) /\ Hid (Y.OwnR w' w.heap.size s ⟨b1, m1, e1, b2, m2, e2, b3, m3, e3⟩) /\ Below w.heap.size w w' := by
 refine (zfr s ⟨ap, np, cp, al, nl, cl, ah, nh, ch⟩ w h hn).mono ?_
 rintro e w' ⟨⟨b1, m1, e1, b2, m2, e2, b3, m3, e3⟩, rfl, hO, hb⟩
 exact ⟨b1, m1, e1, b2, m2, e2, b3, m3, e3, rfl, hO, hb⟩
theorem zb4 (s : Y.St) (A : Y.A9) (r : Y.Rq) (w : World) (h : Y.SIn w A s) (hf : Y.Fits A s) (hm : Y.May s) (hk0 : 0 <= r.k) (hk9 : r.k < 9) (f : Nat) (hcf : ∀ (az : Array Value) (W : World), Sem.run Tryz.prog (callFunc f az) W = .ok (.enter f az) W) (hc : ∀ (W : World) (H0 b : Nat) (A' : Y.A9), Y.Own3 W H0 b s A' -> Calls Tryz.prog f #[.pointer (some ⟨b, 0, none⟩), Y.rval r] W fun e w' => Y.Ends W H0 b (Y.step s r) e w') (hx : ∀ W : World, Sem.run Tryz.prog (Instr.index 86 (.agg #[.func (.func 81) #[] #[], .func (.func 82) #[] #[], .func (.func 83) #[] #[], .func (.func 84) #[] #[], .func (.func 85) #[] #[], .func (.func 86) #[] #[], .func (.func 87) #[] #[], .func (.func 88) #[] #[], .func (.func 89) #[] #[]]) (.int .i64 r.k)) W = .ok (.func (.func f) #[] #[]) W) :
  Calls Tryz.prog 14 #[Y.val s A, Y.rval r] w fun e w' => Y.Did w (Y.step s r) e w' := by
 obtain ⟨ap, np, cp, al, nl, cl, ah, nh, ch⟩ := A
 have hnp : np <= 600 := hf.p
 have hnl : nl <= 600 := hf.l
 have hnh : nh <= 600 := hf.h
 have HF := Zh hf
 have HB0 := Zh (Below.refl w.heap.size w)
 have HI0 := Zh (h)
 clear h hf
 unfold Y.val Y.rval
 obtain ⟨w1, hw1, hb, hk⟩ := Zn w 32 #[s.d.b, s.d.k, s.d.c, s.d.j, s.d.lo, s.d.hi, s.d.dy, s.d.bl, s.p.q, s.p.i, s.p.h, s.p.pair, s.now, .slice ap np cp, .slice al nl cl, .slice ah nh ch]
 replace HI0 := Zh (HI0.out.below hb)
 replace HB0 := Zt HB0 hb
 have KS1 := Zh hk
 clear hb hk
 obtain ⟨w2, hw2, hb, hk⟩ := Zn w1 34 #[r.k, r.s, r.a, r.b, r.n, r.p.q, r.p.i, r.p.h, r.p.pair]
 replace HI0 := Zh (HI0.out.below hb)
 replace KS1 := Zk KS1 hb
 replace HB0 := Zt HB0 hb
 have KR2 := Zh hk
 clear hb hk
 obtain ⟨w3, hw3, hb, hk⟩ := Zn w2 32 #[(), (), (), (), (), (), (), (), (), (), (), .bool false, (), .slice none 0 0, .slice none 0 0, .slice none 0 0]
 replace HI0 := Zh (HI0.out.below hb)
 replace KS1 := Zk KS1 hb
 replace KR2 := Zk KR2 hb
 replace HB0 := Zt HB0 hb
 have KT3 := Zh hk
 clear hb hk
 obtain ⟨w4, hw4, hb, hk⟩ := Zn w3 37 #[.slice none 0 0]
 replace HI0 := Zh (HI0.out.below hb)
 replace KS1 := Zk KS1 hb
 replace KR2 := Zk KR2 hb
 replace KT3 := Zk KT3 hb
 replace HB0 := Zt HB0 hb
 have KE4 := Zh hk
 clear hb hk
 obtain ⟨w5, hw5, hb, hk⟩ := Zn w4 40 #[(), (), ()]
 replace HI0 := Zh (HI0.out.below hb)
 replace KS1 := Zk KS1 hb
 replace KR2 := Zk KR2 hb
 replace KT3 := Zk KT3 hb
 replace KE4 := Zk KE4 hb
 replace HB0 := Zt HB0 hb
 have KA5 := Zh hk
 clear hb hk
 have hw12 : w1.heap.size = w.heap.size + 1 := by rw [<- hw1]; simp
 have hw23 : w2.heap.size = w.heap.size + 2 := by rw [<- hw2]; simp; omega
 have hw34 : w3.heap.size = w.heap.size + 3 := by rw [<- hw3]; simp; omega
 have hw45 : w4.heap.size = w.heap.size + 4 := by rw [<- hw4]; simp; omega
 have HZ : Hid (w1.heap.size = w.heap.size + 1 /\ w2.heap.size = w.heap.size + 2 /\ w3.heap.size = w.heap.size + 3 /\ w4.heap.size = w.heap.size + 4) := Zh ⟨hw12, hw23, hw34, hw45⟩
 clear hw12 hw23 hw34 hw45
 have hmf : ∀ (fn : Fn) (first cap : Array Value) (w : World), (Instr.makeFunc fn first cap).run Tryz.prog w = .ok (.func fn first cap) w := fun _ _ _ _ => rfl
 have HH00 := HI0
 have HM := Zh hm
 have cm := fun W (h : Y.SIn W ⟨ap, np, cp, al, nl, cl, ah, nh, ch⟩ s) => zbj s ⟨ap, np, cp, al, nl, cl, ah, nh, ch⟩ true (decide_eq_true hm) W h HF.out
 have co := fun W (h : Y.SIn W ⟨ap, np, cp, al, nl, cl, ah, nh, ch⟩ s) => zjm s ap np cp al nl cl ah nh ch W h ⟨by show np <= 1000; omega, by show nl <= 1000; omega, by show nh <= 1000; omega⟩
 unfold Y.val at cm
 have d1 : decide (0 <= r.k) = true := decide_eq_true (by omega)
 have d1' : decide (r.k ≥ 0) = true := d1
 have d2 : decide (r.k < 9) = true := decide_eq_true (by omega)
 clear hm
 have c0 := Y.cs16 KS1.out
 have r0 := Y.cs9 KR2.out
 go_enter_defers Tryz.func14, Tryz.ntmps14
 go_wp2_with fail
 try rw [hw1]
 try rw [hw2]
 try rw [hw3]
 try rw [hw4]
 try rw [hw5]
 clear hw1 hw2 hw3 hw4 hw5
 refine (cm _ HI0.out).mono ?_
 clear c0
 clear r0
 rintro e w6 ⟨rfl, hb⟩
 replace HI0 := Zh (HI0.out.below hb)
 replace KS1 := Zk KS1 hb
 replace KR2 := Zk KR2 hb
 replace KT3 := Zk KT3 hb
 replace KE4 := Zk KE4 hb
 replace KA5 := Zk KA5 hb
 replace HB0 := Zt HB0 hb
 clear hb
 have c0 := Y.cs16 KS1.out
 have r0 := Y.cs9 KR2.out
 clear cm
 go_wp2_with fail
 refine (zag 1 _).mono ?_
 clear c0
 clear r0
 rintro e w7 ⟨rfl, hb⟩
 replace HI0 := Zh (HI0.out.below hb)
 replace KS1 := Zk KS1 hb
 replace KR2 := Zk KR2 hb
 replace KT3 := Zk KT3 hb
 replace KE4 := Zk KE4 hb
 replace KA5 := Zk KA5 hb
 replace HB0 := Zt HB0 hb
 clear hb
 have c0 := Y.cs16 KS1.out
 have r0 := Y.cs9 KR2.out
 clear d1 d1' d2
 have HX7 : Hid (Below w7.heap.size w7 w7) := Zh (Below.refl _ _)
 have QS := KS1
 have QR := KR2
 have QT := KT3
 have QE := KE4
 have QA := KA5
 have HQ := HI0
 have HBQ := HB0
 go_wp2_with fail
 refine (co _ HI0.out).mono ?_
 clear c0
 clear r0
 rintro e w8 ⟨b1, m1, e1, b2, m2, e2, b3, m3, e3, rfl, hO, hb⟩
 have h78 := hb.size
 replace HI0 := Zh (HI0.out.below hb)
 replace KS1 := Zk KS1 hb
 replace KR2 := Zk KR2 hb
 replace KT3 := Zk KT3 hb
 replace KE4 := Zk KE4 hb
 replace KA5 := Zk KA5 hb
 replace HX7 := Zt HX7 hb
 replace HB0 := Zt HB0 hb
 clear hb
 have HO8 := hO
 have c0 := Y.cs16 KS1.out
 have r0 := Y.cs9 KR2.out
 clear co hO
 clear c0
 clear r0
 obtain ⟨w9, hw9, hb, hk⟩ := Zn w8 84 #[s.d.b, s.d.k, s.d.c, s.d.j, s.d.lo, s.d.hi, s.d.dy, s.d.bl, s.p.q, s.p.i, s.p.h, s.p.pair, s.now, .slice b1 m1 e1, .slice b2 m2 e2, .slice b3 m3 e3, .slice none 0 0, (), (), ()]
 replace HI0 := Zh (HI0.out.below hb)
 replace KS1 := Zk KS1 hb
 replace KR2 := Zk KR2 hb
 replace KT3 := Zk KT3 hb
 replace KE4 := Zk KE4 hb
 replace KA5 := Zk KA5 hb
 replace HX7 := Zt HX7 hb
 replace HO8 := Zh (HO8.out.below hb)
 replace HB0 := Zt HB0 hb
 have KW9 := Zh hk
 clear hb hk
 obtain ⟨wz, hz⟩ : ∃ W, w8.alloc (.cells #[(), (), (), (), (), (), (), (), (), (), (), .bool false, (), .slice none 0 0, .slice none 0 0, .slice none 0 0, .slice none 0 0, (), (), ()] 84) = W := ⟨_, rfl⟩
 have HZK : Hid (Blok wz w8.heap.size 84 #[(), (), (), (), (), (), (), (), (), (), (), .bool false, (), .slice none 0 0, .slice none 0 0, .slice none 0 0, .slice none 0 0, (), (), ()]) := Zh (by rw [<- hz]; exact Blok.new w8 _ _)
 have HPZ : Hid (wz.setRow w8.heap.size #[s.d.b, s.d.k, s.d.c, s.d.j, s.d.lo, s.d.hi, s.d.dy, s.d.bl, s.p.q, s.p.i, s.p.h, s.p.pair, s.now, .slice b1 m1 e1, .slice b2 m2 e2, .slice b3 m3 e3, .slice none 0 0, (), (), ()] = w9) := Zh (by rw [<- hz, World.setRow_alloc_new, hw9])
 clear hw9
 go_wp2_with (refine Zw HZK.out HPZ.out ?_)
 clear hz HZK HPZ
 have HO3 : Hid (Y.Own3 w9 w7.heap.size w8.heap.size s ⟨b1, m1, e1, b2, m2, e2, b3, m3, e3⟩) := Zh ⟨KW9.out, HO8.out.rp, HO8.out.rl, HO8.out.rh, h78, HO8.out.np, HO8.out.nl, HO8.out.nh⟩
 skip
 skip
 refine Zd (fun w' => Blok w' w1.heap.size 34 #[r.k, r.s, r.a, r.b, r.n, r.p.q, r.p.i, r.p.h, r.p.pair]) (KR2.out.drew) fun RS0 => ?_
 refine wpAnyH_take (i := 1) (v := .pointer (some ⟨w1.heap.size, 0, none⟩)) rfl (by kernel_rfl) (by kernel_rfl) (by kernel_rfl) (fun _ _ _ h => zbv (by decide) h) (.inl ⟨by kernel_rfl, fun w9 hS => by kernel_rfl⟩) RS0 ?_
 refine wpAnyH_take (i := 2) (v := .int .i64 r.k) rfl (by kernel_rfl) (by kernel_rfl) (by kernel_rfl) (fun _ _ _ h => zbv (by decide) h) (.inl ⟨by kernel_rfl, fun w9 hS => by
    have y0 := Zv hS 0 (.int .i64 r.k)
    go_simp⟩) RS0 ?_
 refine wpAnyH_take (i := 4) (v := .agg #[r.k, r.s, r.a, r.b, r.n, r.p.q, r.p.i, r.p.h, r.p.pair]) rfl (by kernel_rfl) (by kernel_rfl) (by kernel_rfl) (fun _ _ _ h => zbv (by decide) h) (.inl ⟨by kernel_rfl, fun w9 hS => by
    have y0 := Zv hS 0 (.int .i64 r.k)
    have y1 := Zv hS 1 (.int .i64 r.s)
    have y2 := Zv hS 2 (.int .i64 r.a)
    have y3 := Zv hS 3 (.int .i64 r.b)
    have y4 := Zv hS 4 (.int .i64 r.n)
    have y5 := Zv hS 5 (.int .i64 r.p.q)
    have y6 := Zv hS 6 (.int .i64 r.p.i)
    have y7 := Zv hS 7 (.int .i64 r.p.h)
    have y8 := Zv hS 8 (.bool r.p.pair)
    go_simp⟩) RS0 ?_
 refine Zc 0 40 #[] (zg4 _) ?_
 rintro e w10 ⟨rfl, hb⟩
 have hb2 : Below w9.heap.size w9 w10 := (zaa w9).trans hb
 have HO4 := Zh (HO3.out.below hb2)
 have HX10 := Zt HX7 hb2
 have HB10 := Zt HB0 hb2
 refine Zu (Blok.below RS0 hb (Blok.lt RS0)) fun RS1 => ?_
 refine wpAnyH_take (i := 3) (v := .func (.func f) #[] #[]) rfl (by kernel_rfl) (by kernel_rfl) (by kernel_rfl) (fun _ _ _ h => zbv (by decide) h) (.inl ⟨by kernel_rfl, fun w9 hS => by go_simp⟩) RS1 ?_
 rcases Y.step_good s r with ⟨er, he, hst⟩ | ⟨h0, hm2, _, _⟩
 ·have hcp := (hc w10 w7.heap.size w8.heap.size _ HO4.out).mono (fun e w' h => Y.Ends.pan' h (by rw [hst]; exact he))
  rw [hst] at hcp
  unfold Y.rval at hcp
  refine zaj (i := 5) (f := f) (args := #[.pointer (some ⟨w8.heap.size, 0, none⟩), .agg #[r.k, r.s, r.a, r.b, r.n, r.p.q, r.p.i, r.p.h, r.p.pair]]) (by kernel_rfl) rfl (by kernel_rfl) (Eq.trans (b := Sem.run Tryz.prog (callFunc f #[.pointer (some ⟨w8.heap.size, 0, none⟩), .agg #[r.k, r.s, r.a, r.b, r.n, r.p.q, r.p.i, r.p.h, r.p.pair]]) w10) (by kernel_rfl) (hcf _ _)) hcp ?_
  rintro e w11 ⟨rfl, hb11⟩
  refine ⟨_, rfl, ?_⟩
  have hX : Below w7.heap.size w7 w11 := HX10.out.trans hb11
  have KS11 := Zh (QS.out.below hX QS.out.lt)
  have KT11 := Zh (QT.out.below hX QT.out.lt)
  have KE11 := Zh (QE.out.below hX QE.out.lt)
  have KA11 := Zh (QA.out.below hX QA.out.lt)
  have HI11 := Zh (HQ.out.below hX)
  have HB11 := Zt HBQ hX
  have HST := Zh hst
  clear hb11 hX hst hcp hb hb2
  go_wp2
  refine leaves_cons (f := 37) (args := #[.pointer (some ⟨w.heap.size, 0, none⟩), .pointer (some ⟨w2.heap.size, 0, none⟩), .pointer (some ⟨w3.heap.size, 0, none⟩), .pointer (some ⟨w4.heap.size, 0, none⟩)]) (by simp) (by simp [go_sem]) ?_
  refine (ze4 er s ⟨ap, np, cp, al, nl, cl, ah, nh, ch⟩ w.heap.size w2.heap.size w3.heap.size w4.heap.size w11 HI11.out ⟨by show np <= 1000; omega, by show nl <= 1000; omega, by show nh <= 1000; omega⟩ KS11.out KT11.out KE11.out KA11.out ⟨trivial, by have := HZ.out; omega, by have := HZ.out; omega⟩).mono ?_
  rintro e u' w20 ⟨rfl, rfl, b1, m1, d1, b2, m2, d2, b3, m3, d3, f1, f2, f3, f4, f5⟩
  exact ⟨_, zfs rfl w2.heap.size w3.heap.size w4.heap.size (by kernel_rfl) (by kernel_rfl) (by kernel_rfl) rfl f2 f3 f4, ⟨b1, m1, d1, b2, m2, d2, b3, m3, d3⟩, none, 0, by rw [HST.out]; rfl, by rw [HST.out]; exact Zh f1.i, by rw [HST.out]; exact Zh (VIn.nil _), (HB11.out.trans (f5.mono (by have := HZ.out; omega : w.heap.size <= w2.heap.size))), f1.up.mono HB11.out.size, fun q hq => by cases hq⟩
 obtain ⟨s2, evs, x, y, hst⟩ : ∃ s2 evs x y, Y.step s r = (s2, evs, 0, x, y) := ⟨_, _, _, _, by rw [← h0]⟩
 replace hm2 : Y.May s2 := by rw [hst] at hm2; exact hm2
 clear h0
 have HZ7 := Zh HBQ.out.size
 have HZ8 := Zh (Nat.le_trans HBQ.out.size h78)
 have hcp := (hc w10 w7.heap.size w8.heap.size _ HO4.out).mono (fun e w' h => Y.Ends.ret' h (by rw [hst]))
 rw [hst] at hcp
 unfold Y.rval at hcp
 refine zdi (i := 5) (f := f) (args := #[.pointer (some ⟨w8.heap.size, 0, none⟩), .agg #[r.k, r.s, r.a, r.b, r.n, r.p.q, r.p.i, r.p.h, r.p.pair]]) (by kernel_rfl) rfl (by kernel_rfl) (Eq.trans (b := Sem.run Tryz.prog (callFunc f #[.pointer (some ⟨w8.heap.size, 0, none⟩), .agg #[r.k, r.s, r.a, r.b, r.n, r.p.q, r.p.i, r.p.h, r.p.pair]]) w10) (by kernel_rfl) (hcf _ _)) (hcp) ?_
 rintro e w11 ⟨rfl, hb11, A2, ve, hF, hU, hV⟩
 have hX : Below w7.heap.size w7 w11 := HX10.out.trans hb11
 refine Zu (Blok.below RS1 hb11 (by have := QR.out.lt; omega)) fun RS2 => ?_
 refine wpAnyH_done (by kernel_rfl) ?_ _
 obtain ⟨b4, m4, e4, b5, m5, e5, b6, m6, e6⟩ := A2
 obtain ⟨ea, ec, rfl, hve⟩ := hF.ev
 have KS11 := Zh (QS.out.below hX QS.out.lt)
 have KT11 := Zh (QT.out.below hX QT.out.lt)
 have KE11 := Zh (QE.out.below hX QE.out.lt)
 have KA11 := Zh (QA.out.below hX QA.out.lt)
 have hs7 : w7.heap.size <= w11.heap.size := hX.size
 have HI11 := Zh hF.i
 have HEH := Zh hF.eh
 have HVE := Zh hve
 have KB11 := Zh hF.k
 have HU := Zh hU
 have HV := Zh hV
 have HB11 := Zt HBQ hX
 have HST := Zh hst
 have ht7 := QT.out.lt
 have he7 := QE.out.lt
 have ha7 := QA.out.lt
 clear hb11 hX hst hcp hb hb2 hF hve hU hV
 go_wp2_with fail
 have h87 : w7.heap.size <= w8.heap.size := h78
 have hz0 : w.heap.size <= w2.heap.size := by have := HZ.out; omega
 have hz1 : w2.heap.size < w3.heap.size := by have := HZ.out; omega
 have hz2 : w3.heap.size < w4.heap.size := by have := HZ.out; omega
 skip
 refine Zd (fun w' => Blok w' w8.heap.size 84 #[s2.d.b, s2.d.k, s2.d.c, s2.d.j, s2.d.lo, s2.d.hi, s2.d.dy, s2.d.bl, s2.p.q, s2.p.i, s2.p.h, s2.p.pair, s2.now, .slice b4 m4 e4, .slice b5 m5 e5, .slice b6 m6 e6, .slice ea evs.length ec, (), x, y]) (KB11.out.drew) fun RS0 => ?_
 have hb : Below w11.heap.size w11 (World.drew w11) := zaa w11
 obtain ⟨w12, hw12⟩ : ∃ W, World.drew w11 = W := ⟨_, rfl⟩
 rw [hw12] at hb RS0 ⊢
 have KT12 := Zk KT11 hb
 have KE12 := Zk KE11 hb
 have KA12 := Zk KA11 hb
 have HI12 := Zh (HI11.out.below hb)
 have HVE12 := Zh (HVE.out.below hb)
 have HB12 := Zt HB11 hb
 clear hb hw12
 refine wpAnyH_take (i := 0) (v := .pointer (some ⟨w8.heap.size, 0, none⟩)) rfl (by kernel_rfl) (by kernel_rfl) (by kernel_rfl) (fun _ _ _ h => zbv (by decide) h) (.inl ⟨by kernel_rfl, fun w9 hS => by kernel_rfl⟩) RS0 ?_
 refine wpAnyH_take (i := 1) (v := .agg #[s2.d.b, s2.d.k, s2.d.c, s2.d.j, s2.d.lo, s2.d.hi, s2.d.dy, s2.d.bl, s2.p.q, s2.p.i, s2.p.h, s2.p.pair, s2.now, .slice b4 m4 e4, .slice b5 m5 e5, .slice b6 m6 e6]) rfl (by kernel_rfl) (by kernel_rfl) (by kernel_rfl) (fun _ _ _ h => zbv (by decide) h) (.inl ⟨by kernel_rfl, fun w9 hS => by
    have y0 := Zv hS 0 (.int .i64 s2.d.b)
    have y1 := Zv hS 1 (.int .i64 s2.d.k)
    have y2 := Zv hS 2 (.int .i64 s2.d.c)
    have y3 := Zv hS 3 (.int .i64 s2.d.j)
    have y4 := Zv hS 4 (.int .i64 s2.d.lo)
    have y5 := Zv hS 5 (.int .i64 s2.d.hi)
    have y6 := Zv hS 6 (.int .i64 s2.d.dy)
    have y7 := Zv hS 7 (.int .i64 s2.d.bl)
    have y8 := Zv hS 8 (.int .i64 s2.p.q)
    have y9 := Zv hS 9 (.int .i64 s2.p.i)
    have y10 := Zv hS 10 (.int .i64 s2.p.h)
    have y11 := Zv hS 11 (.bool s2.p.pair)
    have y12 := Zv hS 12 (.int .i64 s2.now)
    have y13 := Zv hS 13 (.slice b4 m4 e4)
    have y14 := Zv hS 14 (.slice b5 m5 e5)
    have y15 := Zv hS 15 (.slice b6 m6 e6)
    go_simp⟩) RS0 ?_
 refine wpAnyH_take (i := 2) (v := .pointer (some ⟨w8.heap.size, 16, none⟩)) rfl (by kernel_rfl) (by kernel_rfl) (by kernel_rfl) (fun _ _ _ h => zbv (by decide) h) (.inl ⟨by kernel_rfl, fun w9 hS => by kernel_rfl⟩) RS0 ?_
 refine wpAnyH_take (i := 3) (v := .slice ea evs.length ec) rfl (by kernel_rfl) (by kernel_rfl) (by kernel_rfl) (fun _ _ _ h => zbv (by decide) h) (.inl ⟨by kernel_rfl, fun w9 hS => by
    have y16 := Zv hS 16 (.slice ea evs.length ec)
    go_simp⟩) RS0 ?_
 refine wpAnyH_take (i := 4) (v := .pointer (some ⟨w8.heap.size, 17, none⟩)) rfl (by kernel_rfl) (by kernel_rfl) (by kernel_rfl) (fun _ _ _ h => zbv (by decide) h) (.inl ⟨by kernel_rfl, fun w9 hS => by kernel_rfl⟩) RS0 ?_
 refine wpAnyH_take (i := 5) (v := .agg #[(), x, y]) rfl (by kernel_rfl) (by kernel_rfl) (by kernel_rfl) (fun _ _ _ h => zbv (by decide) h) (.inl ⟨by kernel_rfl, fun w9 hS => by
    have y17 := Zv hS 17 (.int .i64 0)
    have y18 := Zv hS 18 (.int .i64 x)
    have y19 := Zv hS 19 (.int .i64 y)
    go_simp⟩) RS0 ?_
 have z0 := Zv KT12.out 0 (.int .i64 0)
 have zf0 := KT12.out.frozen 0
 have z1 := Zv KT12.out 1 (.int .i64 0)
 have zf1 := KT12.out.frozen 1
 have z2 := Zv KT12.out 2 (.int .i64 0)
 have zf2 := KT12.out.frozen 2
 have z3 := Zv KT12.out 3 (.int .i64 0)
 have zf3 := KT12.out.frozen 3
 have z4 := Zv KT12.out 4 (.int .i64 0)
 have zf4 := KT12.out.frozen 4
 have z5 := Zv KT12.out 5 (.int .i64 0)
 have zf5 := KT12.out.frozen 5
 have z6 := Zv KT12.out 6 (.int .i64 0)
 have zf6 := KT12.out.frozen 6
 have z7 := Zv KT12.out 7 (.int .i64 0)
 have zf7 := KT12.out.frozen 7
 have z8 := Zv KT12.out 8 (.int .i64 0)
 have zf8 := KT12.out.frozen 8
 have z9 := Zv KT12.out 9 (.int .i64 0)
 have zf9 := KT12.out.frozen 9
 have z10 := Zv KT12.out 10 (.int .i64 0)
 have zf10 := KT12.out.frozen 10
 have z11 := Zv KT12.out 11 (.bool false)
 have zf11 := KT12.out.frozen 11
 have z12 := Zv KT12.out 12 (.int .i64 0)
 have zf12 := KT12.out.frozen 12
 have z13 := Zv KT12.out 13 (.slice none 0 0)
 have zf13 := KT12.out.frozen 13
 have z14 := Zv KT12.out 14 (.slice none 0 0)
 have zf14 := KT12.out.frozen 14
 have z15 := Zv KT12.out 15 (.slice none 0 0)
 have zf15 := KT12.out.frozen 15
 obtain ⟨KT13, G13⟩ := Y.set16 KT12.out s2 b4 m4 e4 b5 m5 e5 b6 m6 e6
 have RS1 : (fun w' => Blok w' w8.heap.size 84 #[s2.d.b, s2.d.k, s2.d.c, s2.d.j, s2.d.lo, s2.d.hi, s2.d.dy, s2.d.bl, s2.p.q, s2.p.i, s2.p.h, s2.p.pair, s2.now, .slice b4 m4 e4, .slice b5 m5 e5, .slice b6 m6 e6, .slice ea evs.length ec, (), x, y]) ((((((((((((((((w12.setCell ⟨w2.heap.size, 0, none⟩ (.int .i64 s2.d.b)).setCell ⟨w2.heap.size, 1, none⟩ (.int .i64 s2.d.k)).setCell ⟨w2.heap.size, 2, none⟩ (.int .i64 s2.d.c)).setCell ⟨w2.heap.size, 3, none⟩ (.int .i64 s2.d.j)).setCell ⟨w2.heap.size, 4, none⟩ (.int .i64 s2.d.lo)).setCell ⟨w2.heap.size, 5, none⟩ (.int .i64 s2.d.hi)).setCell ⟨w2.heap.size, 6, none⟩ (.int .i64 s2.d.dy)).setCell ⟨w2.heap.size, 7, none⟩ (.int .i64 s2.d.bl)).setCell ⟨w2.heap.size, 8, none⟩ (.int .i64 s2.p.q)).setCell ⟨w2.heap.size, 9, none⟩ (.int .i64 s2.p.i)).setCell ⟨w2.heap.size, 10, none⟩ (.int .i64 s2.p.h)).setCell ⟨w2.heap.size, 11, none⟩ (.bool s2.p.pair)).setCell ⟨w2.heap.size, 12, none⟩ (.int .i64 s2.now)).setCell ⟨w2.heap.size, 13, none⟩ (.slice b4 m4 e4)).setCell ⟨w2.heap.size, 14, none⟩ (.slice b5 m5 e5)).setCell ⟨w2.heap.size, 15, none⟩ (.slice b6 m6 e6)) := Blok.grown RS0 G13 (by simp; omega)
 refine zaf (i := 6) (by kernel_rfl) (zah (w' := (((((((((((((((w12.setCell ⟨w2.heap.size, 0, none⟩ (.int .i64 s2.d.b)).setCell ⟨w2.heap.size, 1, none⟩ (.int .i64 s2.d.k)).setCell ⟨w2.heap.size, 2, none⟩ (.int .i64 s2.d.c)).setCell ⟨w2.heap.size, 3, none⟩ (.int .i64 s2.d.j)).setCell ⟨w2.heap.size, 4, none⟩ (.int .i64 s2.d.lo)).setCell ⟨w2.heap.size, 5, none⟩ (.int .i64 s2.d.hi)).setCell ⟨w2.heap.size, 6, none⟩ (.int .i64 s2.d.dy)).setCell ⟨w2.heap.size, 7, none⟩ (.int .i64 s2.d.bl)).setCell ⟨w2.heap.size, 8, none⟩ (.int .i64 s2.p.q)).setCell ⟨w2.heap.size, 9, none⟩ (.int .i64 s2.p.i)).setCell ⟨w2.heap.size, 10, none⟩ (.int .i64 s2.p.h)).setCell ⟨w2.heap.size, 11, none⟩ (.bool s2.p.pair)).setCell ⟨w2.heap.size, 12, none⟩ (.int .i64 s2.now)).setCell ⟨w2.heap.size, 13, none⟩ (.slice b4 m4 e4)).setCell ⟨w2.heap.size, 14, none⟩ (.slice b5 m5 e5)).setCell ⟨w2.heap.size, 15, none⟩ (.slice b6 m6 e6)) rfl (by kernel_rfl) (by go_simp) ⟨RS1, ?_⟩)
 have hs13 := RS1
 obtain ⟨w13, hw13⟩ : ∃ W, (((((((((((((((w12.setCell ⟨w2.heap.size, 0, none⟩ (.int .i64 s2.d.b)).setCell ⟨w2.heap.size, 1, none⟩ (.int .i64 s2.d.k)).setCell ⟨w2.heap.size, 2, none⟩ (.int .i64 s2.d.c)).setCell ⟨w2.heap.size, 3, none⟩ (.int .i64 s2.d.j)).setCell ⟨w2.heap.size, 4, none⟩ (.int .i64 s2.d.lo)).setCell ⟨w2.heap.size, 5, none⟩ (.int .i64 s2.d.hi)).setCell ⟨w2.heap.size, 6, none⟩ (.int .i64 s2.d.dy)).setCell ⟨w2.heap.size, 7, none⟩ (.int .i64 s2.d.bl)).setCell ⟨w2.heap.size, 8, none⟩ (.int .i64 s2.p.q)).setCell ⟨w2.heap.size, 9, none⟩ (.int .i64 s2.p.i)).setCell ⟨w2.heap.size, 10, none⟩ (.int .i64 s2.p.h)).setCell ⟨w2.heap.size, 11, none⟩ (.bool s2.p.pair)).setCell ⟨w2.heap.size, 12, none⟩ (.int .i64 s2.now)).setCell ⟨w2.heap.size, 13, none⟩ (.slice b4 m4 e4)).setCell ⟨w2.heap.size, 14, none⟩ (.slice b5 m5 e5)).setCell ⟨w2.heap.size, 15, none⟩ (.slice b6 m6 e6) = W := ⟨_, rfl⟩
 rw [hw13] at KT13 G13 hs13 ⊢
 clear hw13 RS1 z0 zf0 z1 zf1 z2 zf2 z3 zf3 z4 zf4 z5 zf5 z6 zf6 z7 zf7 z8 zf8 z9 zf9 z10 zf10 z11 zf11 z12 zf12 z13 zf13 z14 zf14 z15 zf15
 have KE13 := KE12.out.grown G13 (by simp; omega)
 have KA13 := KA12.out.grown G13 (by simp; omega)
 have y0 := Zv KE13 0 (.slice none 0 0)
 have yf0 := KE13.frozen 0
 have G14 := grown_set w13 w3.heap.size 0 (.slice ea evs.length ec)
 have RS2 : (fun w' => Blok w' w8.heap.size 84 #[s2.d.b, s2.d.k, s2.d.c, s2.d.j, s2.d.lo, s2.d.hi, s2.d.dy, s2.d.bl, s2.p.q, s2.p.i, s2.p.h, s2.p.pair, s2.now, .slice b4 m4 e4, .slice b5 m5 e5, .slice b6 m6 e6, .slice ea evs.length ec, (), x, y]) (w13.setCell ⟨w3.heap.size, 0, none⟩ (.slice ea evs.length ec)) := Blok.grown hs13 G14 (by simp; omega)
 refine zaf (i := 7) (by kernel_rfl) (zah (w' := w13.setCell ⟨w3.heap.size, 0, none⟩ (.slice ea evs.length ec)) rfl (by kernel_rfl) (by go_simp) ⟨RS2, ?_⟩)
 have hs14 := RS2
 have KE14 : Blok (w13.setCell ⟨w3.heap.size, 0, none⟩ (.slice ea evs.length ec)) w3.heap.size 37 #[.slice ea evs.length ec] := by have := KE13.set 0 (.slice ea evs.length ec); simpa using this
 have KT14 := KT13.grown G14 (by simp; omega)
 have KA14 := KA13.grown G14 (by simp; omega)
 obtain ⟨w14, hw14⟩ : ∃ W, w13.setCell ⟨w3.heap.size, 0, none⟩ (.slice ea evs.length ec) = W := ⟨_, rfl⟩
 rw [hw14] at KE14 KT14 KA14 G14 hs14 ⊢
 clear hw14 RS2 y0 yf0
 have x0 := Zv KA14 0 (.int .i64 0)
 have xf0 := KA14.frozen 0
 have x1 := Zv KA14 1 (.int .i64 0)
 have xf1 := KA14.frozen 1
 have x2 := Zv KA14 2 (.int .i64 0)
 have xf2 := KA14.frozen 2
 have G15 : w14.grownBy (((w14.setCell ⟨w4.heap.size, 0, none⟩ (.int .i64 0)).setCell ⟨w4.heap.size, 1, none⟩ (.int .i64 x)).setCell ⟨w4.heap.size, 2, none⟩ (.int .i64 y)) (some w4.heap.size) := ((grown_set _ _ _ _).trans (grown_set _ _ _ _)).trans (grown_set _ _ _ _)
 have RS3 : (fun w' => Blok w' w8.heap.size 84 #[s2.d.b, s2.d.k, s2.d.c, s2.d.j, s2.d.lo, s2.d.hi, s2.d.dy, s2.d.bl, s2.p.q, s2.p.i, s2.p.h, s2.p.pair, s2.now, .slice b4 m4 e4, .slice b5 m5 e5, .slice b6 m6 e6, .slice ea evs.length ec, (), x, y]) (((w14.setCell ⟨w4.heap.size, 0, none⟩ (.int .i64 0)).setCell ⟨w4.heap.size, 1, none⟩ (.int .i64 x)).setCell ⟨w4.heap.size, 2, none⟩ (.int .i64 y)) := Blok.grown hs14 G15 (by simp; omega)
 refine zaf (i := 8) (by kernel_rfl) (zah (w' := ((w14.setCell ⟨w4.heap.size, 0, none⟩ (.int .i64 0)).setCell ⟨w4.heap.size, 1, none⟩ (.int .i64 x)).setCell ⟨w4.heap.size, 2, none⟩ (.int .i64 y)) rfl (by kernel_rfl) (by go_simp) ⟨RS3, ?_⟩)
 have KA15 : Blok (((w14.setCell ⟨w4.heap.size, 0, none⟩ (.int .i64 0)).setCell ⟨w4.heap.size, 1, none⟩ (.int .i64 x)).setCell ⟨w4.heap.size, 2, none⟩ (.int .i64 y)) w4.heap.size 40 #[(), x, y] := by have := ((KA14.set 0 (.int .i64 0)).set 1 (.int .i64 x)).set 2 (.int .i64 y); simpa using this
 have KT15 := KT14.grown G15 (by simp; omega)
 have KE15 := KE14.grown G15 (by simp; omega)
 have hk := Y.rows_kept HI12.out HVE12.out KT12.out KE12.out KA12.out G13 G14 G15 hm2 HU.out.2.1 ht7 he7 ha7 HV.out
 have hB : Below w.heap.size w (((w14.setCell ⟨w4.heap.size, 0, none⟩ (.int .i64 0)).setCell ⟨w4.heap.size, 1, none⟩ (.int .i64 x)).setCell ⟨w4.heap.size, 2, none⟩ (.int .i64 y)) := ((HB12.out.grown G13 HB12.out.size (fun i hi => by cases hi; omega)).grown G14 (Nat.le_trans HB12.out.size G13.size) (fun i hi => by cases hi; omega)).grown G15 (Nat.le_trans (Nat.le_trans HB12.out.size G13.size) G14.size) (fun i hi => by cases hi; omega)
 refine wpAnyH_done (by kernel_rfl) ?_ _
 obtain ⟨w15, hw15⟩ : ∃ W, ((w14.setCell ⟨w4.heap.size, 0, none⟩ (.int .i64 0)).setCell ⟨w4.heap.size, 1, none⟩ (.int .i64 x)).setCell ⟨w4.heap.size, 2, none⟩ (.int .i64 y) = W := ⟨_, rfl⟩
 rw [hw15] at KA15 KT15 KE15 hk hB ⊢
 have HK := Zh hk
 have HBF := Zh hB
 have HKA := Zh KA15
 have HKT := Zh KT15
 have HKE := Zh KE15
 clear hw15 hk hB KA15 KT15 KE15 KE14 KT14 KA14 KE13 KA13 KT13 G13 G14 G15 hz0 hz1 hz2 x0 x1 x2 xf0 xf1 xf2
 go_wp2
 refine leaves_cons (f := 37) (args := #[.pointer (some ⟨w.heap.size, 0, none⟩), .pointer (some ⟨w2.heap.size, 0, none⟩), .pointer (some ⟨w3.heap.size, 0, none⟩), .pointer (some ⟨w4.heap.size, 0, none⟩)]) (by simp) (by simp [go_sem]) ?_
 refine (zk1 w.heap.size w2.heap.size w3.heap.size w4.heap.size w15).mono ?_
 rintro e u' w20 ⟨rfl, rfl, rfl⟩
 exact ⟨_, zfs rfl w2.heap.size w3.heap.size w4.heap.size (by kernel_rfl) (by kernel_rfl) (by kernel_rfl) rfl HKT.out HKE.out HKA.out, ⟨b4, m4, e4, b5, m5, e5, b6, m6, e6⟩, ea, ec, by rw [HST.out]; rfl, by rw [HST.out]; exact Zh HK.out.1, by rw [HST.out]; exact Zh HK.out.2, HBF.out, HU.out.mono HZ7.out, fun q hq => by have h1 := HEH.out q.block (by rw [hq]; rfl); have h2 := HZ8.out; omega⟩
theorem zmq (s : Y.St) (A : Y.A9) (r : Y.Rq) (w : World) (h : Y.SIn w A s) (hf : Y.Fits A s) (ra : r.k = 4 -> r.a <= 9223372036854775807) :
  Calls Tryz.prog 14 #[Y.val s A, Y.rval r] w fun e w' => Y.Did w (Y.step s r) e w' := by
 by_cases hm : Y.May s
 ·by_cases h0 : r.k < 0
  ·exact zlx s A r w h hf (.inr (.inl h0))
  by_cases h9 : 9 <= r.k
  ·exact zlx s A r w h hf (.inr (.inr h9))
  have hs : ¬ (¬ Y.May s \/ r.k < 0 \/ 9 <= r.k) := by intro e; rcases e with e | e | e <;> first | exact e hm | omega
  have fb := hf.b
  have fc := hf.c
  have hk : r.k = 0 \/ r.k = 1 \/ r.k = 2 \/ r.k = 3 \/ r.k = 4 \/ r.k = 5 \/ r.k = 6 \/ r.k = 7 \/ r.k = 8 := by omega
  rcases hk with hk | hk | hk | hk | hk | hk | hk | hk | hk
  ·exact zb4 s A r w h hf hm (by omega) (by omega) 81 (fun _ _ => by kernel_rfl) (fun W H0 b A' ho => by
    have hc := zhs H0 b s A' r W ho hm fb fc
    unfold Y.step
    rw [if_neg hs]
    simp only [hk]
    exact hc) (fun W => by rw [hk]; kernel_rfl)
  ·exact zb4 s A r w h hf hm (by omega) (by omega) 82 (fun _ _ => by kernel_rfl) (fun W H0 b A' ho => by
    have hc := zfm H0 b s A' r W ho hm fb fc
    unfold Y.step
    rw [if_neg hs]
    simp only [hk]
    exact hc) (fun W => by rw [hk]; kernel_rfl)
  ·exact zb4 s A r w h hf hm (by omega) (by omega) 83 (fun _ _ => by kernel_rfl) (fun W H0 b A' ho => by
    have hc := zfn H0 b s A' r W ho hm fb fc
    unfold Y.step
    rw [if_neg hs]
    simp only [hk]
    exact hc) (fun W => by rw [hk]; kernel_rfl)
  ·exact zb4 s A r w h hf hm (by omega) (by omega) 84 (fun _ _ => by kernel_rfl) (fun W H0 b A' ho => by
    have hc := zjl H0 b s A' r W ho hm fb fc
    unfold Y.step
    rw [if_neg hs]
    simp only [hk]
    exact hc) (fun W => by rw [hk]; kernel_rfl)
  ·exact zb4 s A r w h hf hm (by omega) (by omega) 85 (fun _ _ => by kernel_rfl) (fun W H0 b A' ho => by
    have hc := zkw H0 b s A' r W ho hm fb fc (ra hk)
    unfold Y.step
    rw [if_neg hs]
    simp only [hk]
    exact hc) (fun W => by rw [hk]; kernel_rfl)
  ·exact zb4 s A r w h hf hm (by omega) (by omega) 86 (fun _ _ => by kernel_rfl) (fun W H0 b A' ho => by
    have hc := zhp H0 b s A' r W ho hm fb fc
    unfold Y.step
    rw [if_neg hs]
    simp only [hk]
    exact hc) (fun W => by rw [hk]; kernel_rfl)
  ·exact zb4 s A r w h hf hm (by omega) (by omega) 87 (fun _ _ => by kernel_rfl) (fun W H0 b A' ho => by
    have hc := zjh H0 b s A' r W ho hm fb fc
    unfold Y.step
    rw [if_neg hs]
    simp only [hk]
    exact hc) (fun W => by rw [hk]; kernel_rfl)
  ·exact zb4 s A r w h hf hm (by omega) (by omega) 88 (fun _ _ => by kernel_rfl) (fun W H0 b A' ho => by
    have hc := zjj H0 b s A' r W ho hm fb fc
    unfold Y.step
    rw [if_neg hs]
    simp only [hk]
    exact hc) (fun W => by rw [hk]; kernel_rfl)
  ·exact zb4 s A r w h hf hm (by omega) (by omega) 89 (fun _ _ => by kernel_rfl) (fun W H0 b A' ho => by
    have hc := zgn H0 b s A' r W ho hm fb fc
    unfold Y.step
    rw [if_neg hs]
    simp only [hk]
    exact hc) (fun W => by rw [hk]; kernel_rfl)
 ·exact zlx s A r w h hf (.inl hm)
end Go.Proofs.YtonejangijkdmaaGreat
