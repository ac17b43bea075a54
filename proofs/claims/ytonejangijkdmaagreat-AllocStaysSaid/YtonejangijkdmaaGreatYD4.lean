import Derived.Test.YtonejangijkdmaaGreatYD3
import Derived.Deep.WholeRow
namespace Go.Proofs.YtonejangijkdmaaGreat
set_option maxHeartbeats 4000000
set_option maxRecDepth 100000
open Go.RowKit
theorem zjm (s : Y.St) (ap : Option Addr) (np cp : Nat) (al : Option Addr) (nl cl : Nat) (ah : Option Addr) (nh ch : Nat) (w : World) (h : Y.SIn w ⟨ap, np, cp, al, nl, cl, ah, nh, ch⟩ s) (hn : np <= 1000 /\ nl <= 1000 /\ nh <= 1000) :
  Calls Tryz.prog 38 #[.agg #[.int .i64 s.d.b, .int .i64 s.d.k, .int .i64 s.d.c, .int .i64 s.d.j, .int .i64 s.d.lo, .int .i64 s.d.hi, .int .i64 s.d.dy, .int .i64 s.d.bl, .int .i64 s.p.q, .int .i64 s.p.i, .int .i64 s.p.h, .bool s.p.pair, .int .i64 s.now, .slice ap np cp, .slice al nl cl, .slice ah nh ch]] w fun e w' => ∃ (b1 : Option Addr) (m1 e1 : Nat) (b2 : Option Addr) (m2 e2 : Nat) (b3 : Option Addr) (m3 e3 : Nat), e = .returned (.agg #[.int .i64 s.d.b, .int .i64 s.d.k, .int .i64 s.d.c, .int .i64 s.d.j, .int .i64 s.d.lo, .int .i64 s.d.hi, .int .i64 s.d.dy, .int .i64 s.d.bl, .int .i64 s.p.q, .int .i64 s.p.i, .int .i64 s.p.h, .bool s.p.pair, .int .i64 s.now, .slice b1 m1 e1, .slice b2 m2 e2, .slice b3 m3 e3]) /\ Hid (Y.OwnR w' w.heap.size s ⟨b1, m1, e1, b2, m2, e2, b3, m3, e3⟩) /\ Below w.heap.size w w' := by
 refine (zfr s ⟨ap, np, cp, al, nl, cl, ah, nh, ch⟩ w h hn).mono ?_
 rintro e w' ⟨⟨b1, m1, e1, b2, m2, e2, b3, m3, e3⟩, rfl, hO, hb⟩
 exact ⟨b1, m1, e1, b2, m2, e2, b3, m3, e3, rfl, hO, hb⟩
theorem zmo (s : Y.St) (A : Y.A9) (r : Y.Rq) (w : World) (h : Y.SIn w A s) (hf : Y.Fits A s) (hm : Y.May s) (hk0 : 0 <= r.k) (hk9 : r.k < 9) (f : Nat) (hcf : ∀ (az : Array Value) (W : World), Sem.run Tryz.prog (callFunc f az) W = .ok (.enter f az) W) (hc : ∀ (W : World) (H0 b : Nat) (A' : Y.A9), Y.Own3 W H0 b s A' -> Calls Tryz.prog f #[.pointer (some ⟨b, 0, none⟩), Y.rval r] W fun e w' => Y.Ends W H0 b (Y.step s r) e w') (hx : ∀ W : World, Sem.run Tryz.prog (Instr.index 86 (.agg #[.func (.func 81) #[] #[], .func (.func 82) #[] #[], .func (.func 83) #[] #[], .func (.func 84) #[] #[], .func (.func 85) #[] #[], .func (.func 86) #[] #[], .func (.func 87) #[] #[], .func (.func 88) #[] #[], .func (.func 89) #[] #[]]) (.int .i64 r.k)) W = .ok (.func (.func f) #[] #[]) W) (er : Int) (he : er ≠ 0) (hst : Y.step s r = Y.err s er) :
  Calls Tryz.prog 14 #[Y.val s A, Y.rval r] w fun e w' => Y.Did w (Y.step s r) e w' := by
 obtain ⟨ap, np, cp, al, nl, cl, ah, nh, ch⟩ := A
 have hnp : np <= 600 := hf.p
 have hnl : nl <= 600 := hf.l
 have hnh : nh <= 600 := hf.h
 have HF := Zh hf
 have HB0 := Zh (Below.refl w.heap.size w)
 have HI0 := Zh (h)
 clear h hf
 unfold Y.val Y.rval
 obtain ⟨w1, hw1, hb, hk⟩ := Zn w 32 #[.int .i64 s.d.b, .int .i64 s.d.k, .int .i64 s.d.c, .int .i64 s.d.j, .int .i64 s.d.lo, .int .i64 s.d.hi, .int .i64 s.d.dy, .int .i64 s.d.bl, .int .i64 s.p.q, .int .i64 s.p.i, .int .i64 s.p.h, .bool s.p.pair, .int .i64 s.now, .slice ap np cp, .slice al nl cl, .slice ah nh ch]
 replace HI0 := Zh (HI0.out.below hb)
 replace HB0 := Zt HB0 hb
 have KS1 := Zh hk
 clear hb hk
 obtain ⟨w2, hw2, hb, hk⟩ := Zn w1 34 #[.int .i64 r.k, .int .i64 r.s, .int .i64 r.a, .int .i64 r.b, .int .i64 r.n, .int .i64 r.p.q, .int .i64 r.p.i, .int .i64 r.p.h, .bool r.p.pair]
 replace HI0 := Zh (HI0.out.below hb)
 replace KS1 := Zk KS1 hb
 replace HB0 := Zt HB0 hb
 have KR2 := Zh hk
 clear hb hk
 obtain ⟨w3, hw3, hb, hk⟩ := Zn w2 32 #[.int .i64 0, .int .i64 0, .int .i64 0, .int .i64 0, .int .i64 0, .int .i64 0, .int .i64 0, .int .i64 0, .int .i64 0, .int .i64 0, .int .i64 0, .bool false, .int .i64 0, .slice none 0 0, .slice none 0 0, .slice none 0 0]
 replace HI0 := Zh (HI0.out.below hb)
 replace KS1 := Zk KS1 hb
 replace KR2 := Zk KR2 hb
 replace HB0 := Zt HB0 hb
 have KT3 := Zh hk
 clear hb hk
 obtain ⟨w4, hw4, hb, hk⟩ := Zn w3 37 #[.slice none 0 0]
 replace HI0 := Zh (HI0.out.below hb)
 replace KS1 := Zk KS1 hb
 replace KR2 := Zk KR2 hb
 replace KT3 := Zk KT3 hb
 replace HB0 := Zt HB0 hb
 have KE4 := Zh hk
 clear hb hk
 obtain ⟨w5, hw5, hb, hk⟩ := Zn w4 40 #[.int .i64 0, .int .i64 0, .int .i64 0]
 replace HI0 := Zh (HI0.out.below hb)
 replace KS1 := Zk KS1 hb
 replace KR2 := Zk KR2 hb
 replace KT3 := Zk KT3 hb
 replace KE4 := Zk KE4 hb
 replace HB0 := Zt HB0 hb
 have KA5 := Zh hk
 clear hb hk
 have hw12 : w1.heap.size = w.heap.size + 1 := by rw [<- hw1]; simp
 have hw23 : w2.heap.size = w.heap.size + 2 := by rw [<- hw2]; simp; omega
 have hw34 : w3.heap.size = w.heap.size + 3 := by rw [<- hw3]; simp; omega
 have hw45 : w4.heap.size = w.heap.size + 4 := by rw [<- hw4]; simp; omega
 have HZ : Hid (w1.heap.size = w.heap.size + 1 /\ w2.heap.size = w.heap.size + 2 /\ w3.heap.size = w.heap.size + 3 /\ w4.heap.size = w.heap.size + 4) := Zh ⟨hw12, hw23, hw34, hw45⟩
 clear hw12 hw23 hw34 hw45
 have hmf : ∀ (fn : Fn) (first cap : Array Value) (w : World), (Instr.makeFunc fn first cap).run Tryz.prog w = .ok (.func fn first cap) w := fun _ _ _ _ => rfl
 have HH00 := HI0
 have HM := Zh hm
 have cm := fun W (h : Y.SIn W ⟨ap, np, cp, al, nl, cl, ah, nh, ch⟩ s) => zbj s ⟨ap, np, cp, al, nl, cl, ah, nh, ch⟩ true (decide_eq_true hm) W h HF.out
 have co := fun W (h : Y.SIn W ⟨ap, np, cp, al, nl, cl, ah, nh, ch⟩ s) => zjm s ap np cp al nl cl ah nh ch W h ⟨by show np <= 1000; omega, by show nl <= 1000; omega, by show nh <= 1000; omega⟩
 unfold Y.val at cm
 have d1 : decide (0 <= r.k) = true := decide_eq_true (by omega)
 have d1' : decide (r.k ≥ 0) = true := d1
 have d2 : decide (r.k < 9) = true := decide_eq_true (by omega)
 clear hm
 have c0 := Y.cs16 KS1.out
 have r0 := Y.cs9 KR2.out
 go_enter_defers Tryz.func14, Tryz.ntmps14
 go_wp2_with fail
 try rw [hw1]
 try rw [hw2]
 try rw [hw3]
 try rw [hw4]
 try rw [hw5]
 clear hw1 hw2 hw3 hw4 hw5
 refine (cm _ HI0.out).mono ?_
 clear c0
 clear r0
 rintro e w6 ⟨rfl, hb⟩
 replace HI0 := Zh (HI0.out.below hb)
 replace KS1 := Zk KS1 hb
 replace KR2 := Zk KR2 hb
 replace KT3 := Zk KT3 hb
 replace KE4 := Zk KE4 hb
 replace KA5 := Zk KA5 hb
 replace HB0 := Zt HB0 hb
 clear hb
 have c0 := Y.cs16 KS1.out
 have r0 := Y.cs9 KR2.out
 clear cm
 go_wp2_with fail
 refine (zag 1 _).mono ?_
 clear c0
 clear r0
 rintro e w7 ⟨rfl, hb⟩
 replace HI0 := Zh (HI0.out.below hb)
 replace KS1 := Zk KS1 hb
 replace KR2 := Zk KR2 hb
 replace KT3 := Zk KT3 hb
 replace KE4 := Zk KE4 hb
 replace KA5 := Zk KA5 hb
 replace HB0 := Zt HB0 hb
 clear hb
 have c0 := Y.cs16 KS1.out
 have r0 := Y.cs9 KR2.out
 clear d1 d1' d2
 have HX7 : Hid (Below w7.heap.size w7 w7) := Zh (Below.refl _ _)
 have QS := KS1
 have QR := KR2
 have QT := KT3
 have QE := KE4
 have QA := KA5
 have HQ := HI0
 have HBQ := HB0
 go_wp2_with fail
 refine (co _ HI0.out).mono ?_
 clear c0
 clear r0
 rintro e w8 ⟨b1, m1, e1, b2, m2, e2, b3, m3, e3, rfl, hO, hb⟩
 have h78 := hb.size
 replace HI0 := Zh (HI0.out.below hb)
 replace KS1 := Zk KS1 hb
 replace KR2 := Zk KR2 hb
 replace KT3 := Zk KT3 hb
 replace KE4 := Zk KE4 hb
 replace KA5 := Zk KA5 hb
 replace HX7 := Zt HX7 hb
 replace HB0 := Zt HB0 hb
 clear hb
 have HO8 := hO
 have c0 := Y.cs16 KS1.out
 have r0 := Y.cs9 KR2.out
 clear co hO
 clear c0
 clear r0
 obtain ⟨w9, hw9, hb, hk⟩ := Zn w8 84 #[.int .i64 s.d.b, .int .i64 s.d.k, .int .i64 s.d.c, .int .i64 s.d.j, .int .i64 s.d.lo, .int .i64 s.d.hi, .int .i64 s.d.dy, .int .i64 s.d.bl, .int .i64 s.p.q, .int .i64 s.p.i, .int .i64 s.p.h, .bool s.p.pair, .int .i64 s.now, .slice b1 m1 e1, .slice b2 m2 e2, .slice b3 m3 e3, .slice none 0 0, .int .i64 0, .int .i64 0, .int .i64 0]
 replace HI0 := Zh (HI0.out.below hb)
 replace KS1 := Zk KS1 hb
 replace KR2 := Zk KR2 hb
 replace KT3 := Zk KT3 hb
 replace KE4 := Zk KE4 hb
 replace KA5 := Zk KA5 hb
 replace HX7 := Zt HX7 hb
 replace HO8 := Zh (HO8.out.below hb)
 replace HB0 := Zt HB0 hb
 have KW9 := Zh hk
 clear hb hk
 obtain ⟨wz, hz⟩ : ∃ W, w8.alloc (.cells #[.int .i64 0, .int .i64 0, .int .i64 0, .int .i64 0, .int .i64 0, .int .i64 0, .int .i64 0, .int .i64 0, .int .i64 0, .int .i64 0, .int .i64 0, .bool false, .int .i64 0, .slice none 0 0, .slice none 0 0, .slice none 0 0, .slice none 0 0, .int .i64 0, .int .i64 0, .int .i64 0] 84) = W := ⟨_, rfl⟩
 have HZK : Hid (Blok wz w8.heap.size 84 #[.int .i64 0, .int .i64 0, .int .i64 0, .int .i64 0, .int .i64 0, .int .i64 0, .int .i64 0, .int .i64 0, .int .i64 0, .int .i64 0, .int .i64 0, .bool false, .int .i64 0, .slice none 0 0, .slice none 0 0, .slice none 0 0, .slice none 0 0, .int .i64 0, .int .i64 0, .int .i64 0]) := Zh (by rw [<- hz]; exact Blok.new w8 _ _)
 have HPZ : Hid (wz.setRow w8.heap.size #[.int .i64 s.d.b, .int .i64 s.d.k, .int .i64 s.d.c, .int .i64 s.d.j, .int .i64 s.d.lo, .int .i64 s.d.hi, .int .i64 s.d.dy, .int .i64 s.d.bl, .int .i64 s.p.q, .int .i64 s.p.i, .int .i64 s.p.h, .bool s.p.pair, .int .i64 s.now, .slice b1 m1 e1, .slice b2 m2 e2, .slice b3 m3 e3, .slice none 0 0, .int .i64 0, .int .i64 0, .int .i64 0] = w9) := Zh (by rw [<- hz, World.setRow_alloc_new, hw9])
 clear hw9
 go_wp2_with (refine Zw HZK.out HPZ.out ?_)
 clear hz HZK HPZ
 have HO3 : Hid (Y.Own3 w9 w7.heap.size w8.heap.size s ⟨b1, m1, e1, b2, m2, e2, b3, m3, e3⟩) := Zh ⟨KW9.out, HO8.out.rp, HO8.out.rl, HO8.out.rh, h78, HO8.out.np, HO8.out.nl, HO8.out.nh⟩
 skip
 skip
 refine Zd (fun w' => Blok w' w1.heap.size 34 #[.int .i64 r.k, .int .i64 r.s, .int .i64 r.a, .int .i64 r.b, .int .i64 r.n, .int .i64 r.p.q, .int .i64 r.p.i, .int .i64 r.p.h, .bool r.p.pair]) (KR2.out.drew) fun RS0 => ?_
 refine wpAnyH_take (i := 1) (v := .pointer (some ⟨w1.heap.size, 0, none⟩)) rfl (by kernel_rfl) (by kernel_rfl) (by kernel_rfl) (fun _ _ _ h => zbv (by decide) h) (.inl ⟨by kernel_rfl, fun w9 hS => by kernel_rfl⟩) RS0 ?_
 refine wpAnyH_take (i := 2) (v := .int .i64 r.k) rfl (by kernel_rfl) (by kernel_rfl) (by kernel_rfl) (fun _ _ _ h => zbv (by decide) h) (.inl ⟨by kernel_rfl, fun w9 hS => by
    have y0 := Zv hS 0 (.int .i64 r.k)
    go_simp⟩) RS0 ?_
 refine wpAnyH_take (i := 4) (v := .agg #[.int .i64 r.k, .int .i64 r.s, .int .i64 r.a, .int .i64 r.b, .int .i64 r.n, .int .i64 r.p.q, .int .i64 r.p.i, .int .i64 r.p.h, .bool r.p.pair]) rfl (by kernel_rfl) (by kernel_rfl) (by kernel_rfl) (fun _ _ _ h => zbv (by decide) h) (.inl ⟨by kernel_rfl, fun w9 hS => by
    have y0 := Zv hS 0 (.int .i64 r.k)
    have y1 := Zv hS 1 (.int .i64 r.s)
    have y2 := Zv hS 2 (.int .i64 r.a)
    have y3 := Zv hS 3 (.int .i64 r.b)
    have y4 := Zv hS 4 (.int .i64 r.n)
    have y5 := Zv hS 5 (.int .i64 r.p.q)
    have y6 := Zv hS 6 (.int .i64 r.p.i)
    have y7 := Zv hS 7 (.int .i64 r.p.h)
    have y8 := Zv hS 8 (.bool r.p.pair)
    go_simp⟩) RS0 ?_
 refine Zc 0 40 #[] (zg4 _) ?_
 rintro e w10 ⟨rfl, hb⟩
 have hb2 : Below w9.heap.size w9 w10 := (zaa w9).trans hb
 have HO4 := Zh (HO3.out.below hb2)
 have HX10 := Zt HX7 hb2
 have HB10 := Zt HB0 hb2
 refine Zu (Blok.below RS0 hb (Blok.lt RS0)) fun RS1 => ?_
 refine wpAnyH_take (i := 3) (v := .func (.func f) #[] #[]) rfl (by kernel_rfl) (by kernel_rfl) (by kernel_rfl) (fun _ _ _ h => zbv (by decide) h) (.inl ⟨by kernel_rfl, fun w9 hS => by go_simp⟩) RS1 ?_
 have hcp := (hc w10 w7.heap.size w8.heap.size _ HO4.out).mono (fun e w' h => Y.Ends.pan' h (by rw [hst]; exact he))
 rw [hst] at hcp
 unfold Y.rval at hcp
 refine zaj (i := 5) (f := f) (args := #[.pointer (some ⟨w8.heap.size, 0, none⟩), .agg #[.int .i64 r.k, .int .i64 r.s, .int .i64 r.a, .int .i64 r.b, .int .i64 r.n, .int .i64 r.p.q, .int .i64 r.p.i, .int .i64 r.p.h, .bool r.p.pair]]) (by kernel_rfl) rfl (by kernel_rfl) (Eq.trans (b := Sem.run Tryz.prog (callFunc f #[.pointer (some ⟨w8.heap.size, 0, none⟩), .agg #[.int .i64 r.k, .int .i64 r.s, .int .i64 r.a, .int .i64 r.b, .int .i64 r.n, .int .i64 r.p.q, .int .i64 r.p.i, .int .i64 r.p.h, .bool r.p.pair]]) w10) (by kernel_rfl) (hcf _ _)) hcp ?_
 rintro e w11 ⟨rfl, hb11⟩
 refine ⟨_, rfl, ?_⟩
 have hX : Below w7.heap.size w7 w11 := HX10.out.trans hb11
 have KS11 := Zh (QS.out.below hX QS.out.lt)
 have KT11 := Zh (QT.out.below hX QT.out.lt)
 have KE11 := Zh (QE.out.below hX QE.out.lt)
 have KA11 := Zh (QA.out.below hX QA.out.lt)
 have HI11 := Zh (HQ.out.below hX)
 have HB11 := Zt HBQ hX
 have HST := Zh hst
 clear hb11 hX hst hcp hb hb2
 go_wp2
 refine leaves_cons (f := 37) (args := #[.pointer (some ⟨w.heap.size, 0, none⟩), .pointer (some ⟨w2.heap.size, 0, none⟩), .pointer (some ⟨w3.heap.size, 0, none⟩), .pointer (some ⟨w4.heap.size, 0, none⟩)]) (by simp) (by simp [go_sem]) ?_
 refine (ze4 er s ⟨ap, np, cp, al, nl, cl, ah, nh, ch⟩ w.heap.size w2.heap.size w3.heap.size w4.heap.size w11 HI11.out ⟨by show np <= 1000; omega, by show nl <= 1000; omega, by show nh <= 1000; omega⟩ KS11.out KT11.out KE11.out KA11.out ⟨trivial, by have := HZ.out; omega, by have := HZ.out; omega⟩).mono ?_
 rintro e u' w20 ⟨rfl, rfl, b1, m1, d1, b2, m2, d2, b3, m3, d3, f1, f2, f3, f4, f5⟩
 exact ⟨_, zfs rfl w2.heap.size w3.heap.size w4.heap.size (by kernel_rfl) (by kernel_rfl) (by kernel_rfl) rfl f2 f3 f4, ⟨b1, m1, d1, b2, m2, d2, b3, m3, d3⟩, none, 0, by rw [HST.out]; rfl, by rw [HST.out]; exact Zh f1.i, by rw [HST.out]; exact Zh (VIn.nil _), (HB11.out.trans (f5.mono (by have := HZ.out; omega : w.heap.size <= w2.heap.size))), f1.up.mono HB11.out.size, fun q hq => by cases hq⟩
end Go.Proofs.YtonejangijkdmaaGreat
