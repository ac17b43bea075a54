import Derived.Test.YtonejangijkdmaaGreatQI
import Derived.Test.YtonejangijkdmaaGreatYE
import Derived.Test.YtonejangijkdmaaGreatYM4
namespace Go.Proofs.YtonejangijkdmaaGreat
set_option maxHeartbeats 2000000
set_option maxRecDepth 100000
open Go.RowKit
theorem zgl (H0 b : Nat) (s : Y.St) (A : Y.A9) (r : Y.Rq) (w : World) (ho : Y.Own3 w H0 b s A) (hm : Y.May s) (fb : s.d.b <= 9223372036854775807) (fc : s.d.c <= 9223372036854775807) (h1 : ¬ Y.MayP r.p) :
  Calls Tryz.prog 89 #[.pointer (some ⟨b, 0, none⟩), Y.rval r] w fun e w' => Y.Ends w H0 b (Y.policy s r.p) e w' := by
 have hff := ho.fits hm fb fc
 have hbl := ho.k.lt
 have HH0 : Hid (H0 <= w.heap.size) := Zh (by have := ho.h0; omega)
 obtain ⟨ap, np, cp, al, nl, cl, ah, nh, ch⟩ := A
 have hnp : np <= 600 := hff.p
 have hnl : nl <= 600 := hff.l
 have hnh : nh <= 600 := hff.h
 have HM := Zh hm
 have HFF := Zh hff
 have HW := Zh ho
 have HB0 := Zh (Below.refl w.heap.size w)
 have HO0 := Zh (ho)
 have HS0 := Zh (ho.win (H := w.heap.size) ho.k.lt (Nat.le_refl _))
 clear ho hm hff
 unfold Y.rval
 obtain ⟨w1, hw1, hb, hk⟩ := Zn w 34 #[r.k, r.s, r.a, r.b, r.n, r.p.q, r.p.i, r.p.h, r.p.pair]
 replace HO0 := Zh (HO0.out.below hb)
 replace HS0 := Zh (HS0.out.below hb)
 replace HB0 := Zt HB0 hb
 have KR1 := Zh hk
 clear hb hk
 have HR5 : Hid (Y.pval r.p = .agg #[r.p.q, r.p.i, r.p.h, r.p.pair]) := Zh rfl
 have cp := zbe r.p false (decide_eq_false h1) w1
 unfold Y.pval at cp
 have r0 := Y.cs9 KR1.out
 go_enter Tryz.func89, Tryz.ntmps89
 go_wp2_with fail
 try rw [hw1]
 refine (cp).mono ?_
 clear r0
 rintro e w2 ⟨rfl, hb⟩
 replace HO0 := Zh (HO0.out.below hb)
 replace HS0 := Zh (HS0.out.below hb)
 replace KR1 := Zk KR1 hb
 replace HB0 := Zt HB0 hb
 clear hb
 have r0 := Y.cs9 KR1.out
 clear cp
 try clear hw1
 go_wp2_with fail
 refine (za0 1 _).mono ?_
 clear r0
 rintro e w3 ⟨rfl, hb⟩
 replace HO0 := Zh (HO0.out.below hb)
 replace HS0 := Zh (HS0.out.below hb)
 replace KR1 := Zk KR1 hb
 replace HB0 := Zt HB0 hb
 clear hb
 have r0 := Y.cs9 KR1.out
 go_wp2
 exact ⟨rfl, Y.Ends.no (by unfold Y.policy; rw [if_pos h1]) (by decide) (HB0.out.mono HH0.out)⟩
theorem zfo (H0 b : Nat) (s : Y.St) (A : Y.A9) (r : Y.Rq) (w : World) (ho : Y.Own3 w H0 b s A) (hm : Y.May s) (fb : s.d.b <= 9223372036854775807) (fc : s.d.c <= 9223372036854775807) (h1 : Y.MayP r.p) (h2 : ¬ Y.May { s with p := r.p }) :
  Calls Tryz.prog 89 #[.pointer (some ⟨b, 0, none⟩), Y.rval r] w fun e w' => Y.Ends w H0 b (Y.policy s r.p) e w' := by
 have hff := ho.fits hm fb fc
 have hbl := ho.k.lt
 have HH0 : Hid (H0 <= w.heap.size) := Zh (by have := ho.h0; omega)
 obtain ⟨ap, np, cp, al, nl, cl, ah, nh, ch⟩ := A
 have hnp : np <= 600 := hff.p
 have hnl : nl <= 600 := hff.l
 have hnh : nh <= 600 := hff.h
 have HM := Zh hm
 have HFF := Zh hff
 have HW := Zh ho
 have HB0 := Zh (Below.refl w.heap.size w)
 have HO0 := Zh (ho)
 have HS0 := Zh (ho.win (H := w.heap.size) ho.k.lt (Nat.le_refl _))
 clear ho hm hff
 unfold Y.rval
 obtain ⟨w1, hw1, hb, hk⟩ := Zn w 34 #[r.k, r.s, r.a, r.b, r.n, r.p.q, r.p.i, r.p.h, r.p.pair]
 have HO1 := Zh (HO0.out.below hb)
 replace HS0 := Zh (HS0.out.below hb)
 replace HB0 := Zt HB0 hb
 have KR1 := Zh hk
 clear hb hk HO0
 have HR5 : Hid (Y.pval r.p = .agg #[r.p.q, r.p.i, r.p.h, r.p.pair]) := Zh rfl
 have cp := zbe r.p true (decide_eq_true h1) w1
 unfold Y.pval at cp
 have HM2 := Zh h2
 clear h2
 have r0 := Y.cs9 KR1.out
 go_enter Tryz.func89, Tryz.ntmps89
 go_wp2_with fail
 try rw [hw1]
 refine (cp).mono ?_
 clear r0
 rintro e w2 ⟨rfl, hb⟩
 have HO2 := Zh (HO1.out.below hb)
 replace HS0 := Zh (HS0.out.below hb)
 have KR2 := Zk KR1 hb
 replace HB0 := Zt HB0 hb
 clear hb HO1 KR1
 have r0 := Y.cs9 KR2.out
 clear cp
 try clear hw1
 go_wp2_with fail
 refine (zag 1 _).mono ?_
 clear r0
 rintro e w3 ⟨rfl, hb⟩
 have HO3 := Zh (HO2.out.below hb)
 replace HS0 := Zh (HS0.out.below hb)
 have KR3 := Zk KR2 hb
 replace HB0 := Zt HB0 hb
 clear hb HO2 KR2
 have r0 := Y.cs9 KR3.out
 have KB := HO3.out.k
 have k8 := Zv KB 8 (.int .i64 s.p.q)
 have f8 := KB.frozen 8
 have k9 := Zv KB 9 (.int .i64 s.p.i)
 have f9 := KB.frozen 9
 have k10 := Zv KB 10 (.int .i64 s.p.h)
 have f10 := KB.frozen 10
 have k11 := Zv KB 11 (.bool s.p.pair)
 have f11 := KB.frozen 11
 clear KB
 have ho4 : Y.Own3 ((((w3.setCell ⟨b, 8, none⟩ (.int .i64 r.p.q)).setCell ⟨b, 9, none⟩ (.int .i64 r.p.i)).setCell ⟨b, 10, none⟩ (.int .i64 r.p.h)).setCell ⟨b, 11, none⟩ (.bool r.p.pair)) H0 b { s with p := r.p } ⟨ap, np, cp, al, nl, cl, ah, nh, ch⟩ := by
  have o := HO3.out
  have g1 := (((grown_set w3 b 8 (.int .i64 r.p.q)).trans (grown_set _ b 9 (.int .i64 r.p.i))).trans (grown_set _ b 10 (.int .i64 r.p.h))).trans (grown_set _ b 11 (.bool r.p.pair))
  exact ⟨Y.set_po o.k r.p, o.rp.kept g1 (.inr (fun e => za4 o.rp o.k (by decide) e rfl)), o.rl.kept g1 (.inr (fun e => za4 o.rl o.k (by decide) e rfl)), o.rh.kept g1 (.inr (fun e => za4 o.rh o.k (by decide) e rfl)), o.h0, o.np, o.nl, o.nh⟩
 have HO9 := Zh ho4
 have HB9 : Hid (Below H0 w ((((w3.setCell ⟨b, 8, none⟩ (.int .i64 r.p.q)).setCell ⟨b, 9, none⟩ (.int .i64 r.p.i)).setCell ⟨b, 10, none⟩ (.int .i64 r.p.h)).setCell ⟨b, 11, none⟩ (.bool r.p.pair))) := Zh (KpL.to_below (H := w3.heap.size) (b := b) (HB0.out.mono HH0.out) ((((KpL.set _ b 8 _ _).t (KpL.set _ b 9 _ _)).t (KpL.set _ b 10 _ _)).t (KpL.set _ b 11 _ _)) (Nat.le_trans HH0.out HB0.out.size) HW.out.h0)
 have KR9 : Hid (Blok ((((w3.setCell ⟨b, 8, none⟩ (.int .i64 r.p.q)).setCell ⟨b, 9, none⟩ (.int .i64 r.p.i)).setCell ⟨b, 10, none⟩ (.int .i64 r.p.h)).setCell ⟨b, 11, none⟩ (.bool r.p.pair)) w.heap.size 34 #[r.k, r.s, r.a, r.b, r.n, r.p.q, r.p.i, r.p.h, r.p.pair]) := Zh ((((KR3.out.far (by simp; omega) _).far (by simp; omega) _).far (by simp; omega) _).far (by simp; omega) _)
 obtain ⟨w9, hw9⟩ : ∃ W, (((w3.setCell ⟨b, 8, none⟩ (.int .i64 r.p.q)).setCell ⟨b, 9, none⟩ (.int .i64 r.p.i)).setCell ⟨b, 10, none⟩ (.int .i64 r.p.h)).setCell ⟨b, 11, none⟩ (.bool r.p.pair) = W := ⟨_, rfl⟩
 rw [hw9] at HO9 HB9 KR9
 clear ho4
 have cm := zbj { s with p := r.p } ⟨ap, np, cp, al, nl, cl, ah, nh, ch⟩ false (by first | exact decide_eq_true HM2.out | exact decide_eq_false HM2.out) w9 HO9.out.i ⟨hnp, hnl, hnh, HFF.out.sm, fb, fc⟩
 unfold Y.val at cm
 have d0 := Zv HO9.out.k 0 (.int .i64 s.d.b)
 have d1 := Zv HO9.out.k 1 (.int .i64 s.d.k)
 have d2 := Zv HO9.out.k 2 (.int .i64 s.d.c)
 have d3 := Zv HO9.out.k 3 (.int .i64 s.d.j)
 have d4 := Zv HO9.out.k 4 (.int .i64 s.d.lo)
 have d5 := Zv HO9.out.k 5 (.int .i64 s.d.hi)
 have d6 := Zv HO9.out.k 6 (.int .i64 s.d.dy)
 have d7 := Zv HO9.out.k 7 (.int .i64 s.d.bl)
 have d8 := Zv HO9.out.k 8 (.int .i64 r.p.q)
 have d9 := Zv HO9.out.k 9 (.int .i64 r.p.i)
 have d10 := Zv HO9.out.k 10 (.int .i64 r.p.h)
 have d11 := Zv HO9.out.k 11 (.bool r.p.pair)
 have d12 := Zv HO9.out.k 12 (.int .i64 s.now)
 have d13 := Zv HO9.out.k 13 (.slice ap np cp)
 have d14 := Zv HO9.out.k 14 (.slice al nl cl)
 have d15 := Zv HO9.out.k 15 (.slice ah nh ch)
 go_wp2_with fail
 try rw [hw9]
 refine cm.mono ?_
 clear r0 hw9 cm d0 d1 d2 d3 d4 d5 d6 d7 d8 d9 d10 d11 d12 d13 d14 d15 k8 f8 k9 f9 k10 f10 k11 f11
 rintro e w10 ⟨rfl, hb⟩
 have HO10 := Zh (HO9.out.below hb)
 have KR10 := Zk KR9 hb
 have HB10 := Zh (HB9.out.trans (hb.mono (Nat.le_trans HH0.out (HB9.out.size))))
 clear hb HO9 KR9 HB9
 go_wp2_with fail
 refine (za0 12 _).mono ?_
 rintro e w11 ⟨rfl, hb⟩
 go_wp2
 exact ⟨rfl, Y.Ends.no (by unfold Y.policy; rw [if_neg (by simpa using h1), if_pos HM2.out]) (by decide) (HB10.out.trans (hb.mono (Nat.le_trans HH0.out HB10.out.size)))⟩
theorem zgm (H0 b : Nat) (s : Y.St) (A : Y.A9) (r : Y.Rq) (w : World) (ho : Y.Own3 w H0 b s A) (hm : Y.May s) (fb : s.d.b <= 9223372036854775807) (fc : s.d.c <= 9223372036854775807) (h1 : Y.MayP r.p) (h2 : Y.May { s with p := r.p }) :
  Calls Tryz.prog 89 #[.pointer (some ⟨b, 0, none⟩), Y.rval r] w fun e w' => Y.Ends w H0 b (Y.policy s r.p) e w' := by
 have hff := ho.fits hm fb fc
 have hbl := ho.k.lt
 have HH0 : Hid (H0 <= w.heap.size) := Zh (by have := ho.h0; omega)
 obtain ⟨ap, np, cp, al, nl, cl, ah, nh, ch⟩ := A
 have hnp : np <= 600 := hff.p
 have hnl : nl <= 600 := hff.l
 have hnh : nh <= 600 := hff.h
 have HM := Zh hm
 have HFF := Zh hff
 have HW := Zh ho
 have HB0 := Zh (Below.refl w.heap.size w)
 have HO0 := Zh (ho)
 have HS0 := Zh (ho.win (H := w.heap.size) ho.k.lt (Nat.le_refl _))
 clear ho hm hff
 unfold Y.rval
 obtain ⟨w1, hw1, hb, hk⟩ := Zn w 34 #[r.k, r.s, r.a, r.b, r.n, r.p.q, r.p.i, r.p.h, r.p.pair]
 have HO1 := Zh (HO0.out.below hb)
 replace HS0 := Zh (HS0.out.below hb)
 replace HB0 := Zt HB0 hb
 have KR1 := Zh hk
 clear hb hk HO0
 have HR5 : Hid (Y.pval r.p = .agg #[r.p.q, r.p.i, r.p.h, r.p.pair]) := Zh rfl
 have cp := zbe r.p true (decide_eq_true h1) w1
 unfold Y.pval at cp
 have HM2 := Zh h2
 clear h2
 have r0 := Y.cs9 KR1.out
 go_enter Tryz.func89, Tryz.ntmps89
 go_wp2_with fail
 try rw [hw1]
 refine (cp).mono ?_
 clear r0
 rintro e w2 ⟨rfl, hb⟩
 have HO2 := Zh (HO1.out.below hb)
 replace HS0 := Zh (HS0.out.below hb)
 have KR2 := Zk KR1 hb
 replace HB0 := Zt HB0 hb
 clear hb HO1 KR1
 have r0 := Y.cs9 KR2.out
 clear cp
 try clear hw1
 go_wp2_with fail
 refine (zag 1 _).mono ?_
 clear r0
 rintro e w3 ⟨rfl, hb⟩
 have HO3 := Zh (HO2.out.below hb)
 replace HS0 := Zh (HS0.out.below hb)
 have KR3 := Zk KR2 hb
 replace HB0 := Zt HB0 hb
 clear hb HO2 KR2
 have r0 := Y.cs9 KR3.out
 have KB := HO3.out.k
 have k8 := Zv KB 8 (.int .i64 s.p.q)
 have f8 := KB.frozen 8
 have k9 := Zv KB 9 (.int .i64 s.p.i)
 have f9 := KB.frozen 9
 have k10 := Zv KB 10 (.int .i64 s.p.h)
 have f10 := KB.frozen 10
 have k11 := Zv KB 11 (.bool s.p.pair)
 have f11 := KB.frozen 11
 clear KB
 have ho4 : Y.Own3 ((((w3.setCell ⟨b, 8, none⟩ (.int .i64 r.p.q)).setCell ⟨b, 9, none⟩ (.int .i64 r.p.i)).setCell ⟨b, 10, none⟩ (.int .i64 r.p.h)).setCell ⟨b, 11, none⟩ (.bool r.p.pair)) H0 b { s with p := r.p } ⟨ap, np, cp, al, nl, cl, ah, nh, ch⟩ := by
  have o := HO3.out
  have g1 := (((grown_set w3 b 8 (.int .i64 r.p.q)).trans (grown_set _ b 9 (.int .i64 r.p.i))).trans (grown_set _ b 10 (.int .i64 r.p.h))).trans (grown_set _ b 11 (.bool r.p.pair))
  exact ⟨Y.set_po o.k r.p, o.rp.kept g1 (.inr (fun e => za4 o.rp o.k (by decide) e rfl)), o.rl.kept g1 (.inr (fun e => za4 o.rl o.k (by decide) e rfl)), o.rh.kept g1 (.inr (fun e => za4 o.rh o.k (by decide) e rfl)), o.h0, o.np, o.nl, o.nh⟩
 have HO9 := Zh ho4
 have HB9 : Hid (Below H0 w ((((w3.setCell ⟨b, 8, none⟩ (.int .i64 r.p.q)).setCell ⟨b, 9, none⟩ (.int .i64 r.p.i)).setCell ⟨b, 10, none⟩ (.int .i64 r.p.h)).setCell ⟨b, 11, none⟩ (.bool r.p.pair))) := Zh (KpL.to_below (H := w3.heap.size) (b := b) (HB0.out.mono HH0.out) ((((KpL.set _ b 8 _ _).t (KpL.set _ b 9 _ _)).t (KpL.set _ b 10 _ _)).t (KpL.set _ b 11 _ _)) (Nat.le_trans HH0.out HB0.out.size) HW.out.h0)
 have KR9 : Hid (Blok ((((w3.setCell ⟨b, 8, none⟩ (.int .i64 r.p.q)).setCell ⟨b, 9, none⟩ (.int .i64 r.p.i)).setCell ⟨b, 10, none⟩ (.int .i64 r.p.h)).setCell ⟨b, 11, none⟩ (.bool r.p.pair)) w.heap.size 34 #[r.k, r.s, r.a, r.b, r.n, r.p.q, r.p.i, r.p.h, r.p.pair]) := Zh ((((KR3.out.far (by simp; omega) _).far (by simp; omega) _).far (by simp; omega) _).far (by simp; omega) _)
 obtain ⟨w9, hw9⟩ : ∃ W, (((w3.setCell ⟨b, 8, none⟩ (.int .i64 r.p.q)).setCell ⟨b, 9, none⟩ (.int .i64 r.p.i)).setCell ⟨b, 10, none⟩ (.int .i64 r.p.h)).setCell ⟨b, 11, none⟩ (.bool r.p.pair) = W := ⟨_, rfl⟩
 rw [hw9] at HO9 HB9 KR9
 clear ho4
 have cm := zbj { s with p := r.p } ⟨ap, np, cp, al, nl, cl, ah, nh, ch⟩ true (by first | exact decide_eq_true HM2.out | exact decide_eq_false HM2.out) w9 HO9.out.i ⟨hnp, hnl, hnh, HFF.out.sm, fb, fc⟩
 unfold Y.val at cm
 have d0 := Zv HO9.out.k 0 (.int .i64 s.d.b)
 have d1 := Zv HO9.out.k 1 (.int .i64 s.d.k)
 have d2 := Zv HO9.out.k 2 (.int .i64 s.d.c)
 have d3 := Zv HO9.out.k 3 (.int .i64 s.d.j)
 have d4 := Zv HO9.out.k 4 (.int .i64 s.d.lo)
 have d5 := Zv HO9.out.k 5 (.int .i64 s.d.hi)
 have d6 := Zv HO9.out.k 6 (.int .i64 s.d.dy)
 have d7 := Zv HO9.out.k 7 (.int .i64 s.d.bl)
 have d8 := Zv HO9.out.k 8 (.int .i64 r.p.q)
 have d9 := Zv HO9.out.k 9 (.int .i64 r.p.i)
 have d10 := Zv HO9.out.k 10 (.int .i64 r.p.h)
 have d11 := Zv HO9.out.k 11 (.bool r.p.pair)
 have d12 := Zv HO9.out.k 12 (.int .i64 s.now)
 have d13 := Zv HO9.out.k 13 (.slice ap np cp)
 have d14 := Zv HO9.out.k 14 (.slice al nl cl)
 have d15 := Zv HO9.out.k 15 (.slice ah nh ch)
 go_wp2_with fail
 try rw [hw9]
 refine cm.mono ?_
 clear r0 hw9 cm d0 d1 d2 d3 d4 d5 d6 d7 d8 d9 d10 d11 d12 d13 d14 d15 k8 f8 k9 f9 k10 f10 k11 f11
 rintro e w10 ⟨rfl, hb⟩
 have HO10 := Zh (HO9.out.below hb)
 have KR10 := Zk KR9 hb
 have HB10 := Zh (HB9.out.trans (hb.mono (Nat.le_trans HH0.out (HB9.out.size))))
 clear hb HO9 KR9 HB9
 go_wp2_with fail
 refine (zag 12 _).mono ?_
 rintro e w11 ⟨rfl, hb⟩
 have HO11 := Zh (HO10.out.below hb)
 have KR11 := Zk KR10 hb
 have HB11 := Zh (HB10.out.trans (hb.mono (Nat.le_trans HH0.out (HB10.out.size))))
 clear hb HO10 KR10 HB10
 go_wp2_with fail
 refine Zd (fun w' => KpL w11.heap.size b w11 w' /\ w'.cell? ⟨b, 12, none⟩ = some (.int .i64 s.now)) (⟨KpL.of_below (zaa w11) (Nat.le_refl _), HO11.out.k.cell 12⟩) fun RS0 => ?_
 refine Zq 0 b 0 RS0 ?_
 refine Zq 1 b 0 RS0 ?_
 refine Zq 2 b 0 RS0 ?_
 refine Zq 3 b 0 RS0 ?_
 refine Zq 4 b 12 RS0 ?_
 refine Zl 5 (.int .i64 s.now) rfl (fun w9 hS => by
    have y12 := hS.2
    go_simp) RS0 ?_
 refine Zq 6 w.heap.size 5 RS0 ?_
 refine Zl 7 (.agg #[r.p.q, r.p.i, r.p.h, r.p.pair]) rfl (fun w9 hS => by
    have y5 : w9.cell? ⟨w.heap.size, 5, none⟩ = some (.int .i64 r.p.q) := zai (KR11.out.cell 5) hS.1 KR11.out.lt (by omega)
    have y6 : w9.cell? ⟨w.heap.size, 6, none⟩ = some (.int .i64 r.p.i) := zai (KR11.out.cell 6) hS.1 KR11.out.lt (by omega)
    have y7 : w9.cell? ⟨w.heap.size, 7, none⟩ = some (.int .i64 r.p.h) := zai (KR11.out.cell 7) hS.1 KR11.out.lt (by omega)
    have y8 : w9.cell? ⟨w.heap.size, 8, none⟩ = some (.bool r.p.pair) := zai (KR11.out.cell 8) hS.1 KR11.out.lt (by omega)
    go_simp) RS0 ?_
 refine tk 8 (.agg #[.int .i64 6, s.now, (), (), (), r.p.q, r.p.i, r.p.h, r.p.pair]) RS0 ?_
 refine Zc 9 137 #[.pointer (some ⟨b, 0, none⟩), .agg #[.int .i64 6, s.now, (), (), (), r.p.q, r.p.i, r.p.h, r.p.pair]] (zcu w11.heap.size b { s with p := r.p } ⟨ap, np, cp, al, nl, cl, ah, nh, ch⟩ [] (.slice none 0 0) 0 0 ⟨6, s.now, 0, 0, 0, r.p⟩ _ ((HO11.out.win HO11.out.k.lt (Nat.le_refl _)).below (zaa w11)) (by decide)) ?_
 rintro e w12 ⟨rfl, v2, hwn, hk⟩
 refine Zu (⟨(And.left RS0).t hk, hwn.k.cell 12⟩) fun RS1 => ?_
 refine wpAnyH_done (by kernel_rfl) ?_ _
 have HF := Zh hwn.fin
 have HB12 := Zh (KpL.to_below HB11.out (And.left RS1) (Nat.le_trans HH0.out HB11.out.size) HW.out.h0)
 clear hwn hk
 go_wp2
 first | go_end0 | skip
 exact Y.Ends.yes (by unfold Y.policy; rw [if_neg (by simpa using h1), if_neg (by simpa using HM2.out)]; rfl) HB12.out HF.out HW.out.up (.inr (Y.ev1 (show (6 : Int) ≠ 0 by decide)))
theorem zgn (H0 b : Nat) (s : Y.St) (A : Y.A9) (r : Y.Rq) (w : World) (ho : Y.Own3 w H0 b s A) (hm : Y.May s) (fb : s.d.b <= 9223372036854775807) (fc : s.d.c <= 9223372036854775807) :
  Calls Tryz.prog 89 #[.pointer (some ⟨b, 0, none⟩), Y.rval r] w fun e w' => Y.Ends w H0 b (Y.policy s r.p) e w' := by
 by_cases h1 : Y.MayP r.p
 ·by_cases h2 : Y.May { s with p := r.p }
  ·exact zgm H0 b s A r w ho hm fb fc h1 h2
  ·exact zfo H0 b s A r w ho hm fb fc h1 h2
 ·exact zgl H0 b s A r w ho hm fb fc h1
end Go.Proofs.YtonejangijkdmaaGreat
