import Derived.Test.YtonejangijkdmaaGreatQI
import Derived.Test.YtonejangijkdmaaGreatQYG
import Derived.Test.YtonejangijkdmaaGreatBB
namespace Go.Proofs.YtonejangijkdmaaGreat
set_option maxHeartbeats 1000000
set_option maxRecDepth 100000
open Go.RowKit
theorem zg2 {w : World} {a : Option Addr} {n c : Nat} {l : List Int} (h : RIn w a n c l) (hw : ∀ x ∈ l, (Lit.int .i64 x).wf = true) : BIn w a n c l := by
 refine ⟨h.1, ⟨by rw [h.1]; exact h.2.1.1, h.2.1.2⟩, hw, ?_⟩
 rcases h.2.2.2 with h0 | ⟨b, off, rfl, hlt, hc⟩
 ·exact .inl h0
 ·refine .inr ⟨b, off, rfl, hlt, fun i hi => ?_⟩
  have := hc i _ (List.getElem?_eq_getElem hi) 0 _ rfl
  rw [show off + i * L.Rec.k Int + 0 = off + i from by show off + i * 1 + 0 = off + i; omega] at this
  rw [this]
  simp [hi]
theorem Y.busy_wf {s : Y.St} (hm : Y.May s) : ∀ x ∈ L.busy s.l, (Lit.int .i64 x).wf = true := fun x hx => by
 obtain ⟨y, hy, rfl⟩ := L.busy_mem.1 hx
 have h1 := Y.blkB_in (hm.2.2.2.2.2.2.1 y hy).2.1
 have h2 := (E.fits_iff.1 hm.1).no
 simp [Lit.wf, IntKind.min, IntKind.max, IntKind.bits, IntKind.signed]; omega
theorem zlw (H0 b : Nat) (s : Y.St) (A : Y.A9) (r : Y.Rq) (w : World) (ho : Y.Own3 w H0 b s A) (hm : Y.May s) (fb : s.d.b <= 9223372036854775807) (fc : s.d.c <= 9223372036854775807) (ra : r.a <= 9223372036854775807) (he : (O.add s.ps (E.no s.d) r.a r.n).2 ≠ 0) :
  Calls Tryz.prog 85 #[.pointer (some ⟨b, 0, none⟩), Y.rval r] w fun e w' => Y.Ends w H0 b (Y.ofPools s (O.add s.ps (E.no s.d) r.a r.n) ⟨2, s.now, r.a, r.n, 0, Y.zp⟩) e w' := by
 have hff := ho.fits hm fb fc
 have hbl := ho.k.lt
 have HH0 : Hid (H0 <= w.heap.size) := Zh (by have := ho.h0; omega)
 obtain ⟨ap, np, cp, al, nl, cl, ah, nh, ch⟩ := A
 have hnp : np <= 600 := hff.p
 have hnl : nl <= 600 := hff.l
 have hnh : nh <= 600 := hff.h
 have HM := Zh hm
 have HFF := Zh hff
 have HW := Zh ho
 have HB0 := Zh (Below.refl w.heap.size w)
 have HO0 := Zh (ho)
 have HS0 := Zh (ho.win (H := w.heap.size) ho.k.lt (Nat.le_refl _))
 clear ho hm hff
 unfold Y.rval
 obtain ⟨w1, hw1, hb, hk⟩ := Zn w 34 #[r.k, r.s, r.a, r.b, r.n, r.p.q, r.p.i, r.p.h, r.p.pair]
 replace HO0 := Zh (HO0.out.below hb)
 replace HS0 := Zh (HS0.out.below hb)
 replace HB0 := Zt HB0 hb
 have KR1 := Zh hk
 clear hb hk
 obtain ⟨no, hno⟩ : ∃ v, E.no s.d = v := ⟨_, rfl⟩
 obtain ⟨l2, er, hres⟩ : ∃ l e, O.add s.ps (E.no s.d) r.a r.n = (l, e) := ⟨_, _, rfl⟩
 have HRES := Zh hres
 rw [hno] at hres
 obtain ⟨n2, hn2⟩ : ∃ n, l2.length = n := ⟨_, rfl⟩
 have hsm := HFF.out.sm
 have her : er ≠ 0 := by rw [HRES.out] at he; exact he
 clear he
 go_enter Tryz.func85, Tryz.ntmps85
 go_wp2_with fail
 try rw [hw1]
 clear hw1
 refine Zd (fun w' => Below w1.heap.size w1 w') (zaa w1) fun RS0 => ?_
 refine Zq 0 b 0 RS0 ?_
 refine Zq 1 b 0 RS0 ?_
 refine Zq 2 b 0 RS0 ?_
 refine Zq 3 b 13 RS0 ?_
 refine Zl 4 (.slice ap np cp) rfl (fun w9 hS => by
    have y13 := Zv (HO0.out.k.below hS HO0.out.k.lt) 13 (.slice ap np cp)
    go_simp) RS0 ?_
 refine Zq 5 b 0 RS0 ?_
 refine Zq 6 b 0 RS0 ?_
 refine Zq 7 b 0 RS0 ?_
 refine Zq 8 b 0 RS0 ?_
 refine Zl 9 (.agg #[s.d.b, s.d.k, s.d.c, s.d.j, s.d.lo, s.d.hi, s.d.dy, s.d.bl]) rfl (fun w9 hS => by
    have q := HO0.out.k.below hS HO0.out.k.lt
    have y0 := Zv q 0 (.int .i64 s.d.b)
    have y1 := Zv q 1 (.int .i64 s.d.k)
    have y2 := Zv q 2 (.int .i64 s.d.c)
    have y3 := Zv q 3 (.int .i64 s.d.j)
    have y4 := Zv q 4 (.int .i64 s.d.lo)
    have y5 := Zv q 5 (.int .i64 s.d.hi)
    have y6 := Zv q 6 (.int .i64 s.d.dy)
    have y7 := Zv q 7 (.int .i64 s.d.bl)
    go_simp) RS0 ?_
 refine Zq 11 w.heap.size 2 RS0 ?_
 refine Zl 12 (.int .i64 r.a) rfl (fun w9 hS => by
    have y2 := Zv (KR1.out.below hS KR1.out.lt) 2 (.int .i64 r.a)
    go_simp) RS0 ?_
 refine Zq 13 w.heap.size 4 RS0 ?_
 refine Zl 14 (.int .i64 r.n) rfl (fun w9 hS => by
    have y4 := Zv (KR1.out.below hS KR1.out.lt) 4 (.int .i64 r.n)
    go_simp) RS0 ?_
 refine Zc 10 57 #[.agg #[s.d.b, s.d.k, s.d.c, s.d.j, s.d.lo, s.d.hi, s.d.dy, s.d.bl]] (za3 s.d no hno _) ?_
 rintro e w2 ⟨rfl, hb⟩
 refine Zu (Zr RS0 hb) fun RS1 => ?_
 refine Zc 15 144 #[.slice ap np cp, no, r.a, r.n] (zk7 ap np cp s.ps no r.a r.n l2 n2 er _ ((HO0.out.i.p : QIn w1 ap np cp s.ps).below RS1) (by omega) hsm ra hres hn2) ?_
 rintro e w4 ⟨a2, c2, rfl, hq, hb⟩
 refine Zu (Zr RS1 hb) fun RS2 => ?_
 refine tk 16 (.tuple #[.slice a2 n2 c2, er]) RS2 ?_
 refine tk 17 (.slice a2 n2 c2) RS2 ?_
 refine tk 18 (.int .i64 er) RS2 ?_
 refine tk 19 (.slice a2 n2 c2) RS2 ?_
 refine tk 20 (.int .i64 er) RS2 ?_
 refine wpAnyH_done (by kernel_rfl) ?_ _
 have hB4 : Below w1.heap.size w1 w4 := RS2
 have HQ4 := Zh hq.out.1
 have HUP : Hid (∀ q, a2 = some q -> H0 <= q.block) := Zh (fun q hq' => Nat.le_trans HH0.out (Nat.le_trans HB0.out.size (Nat.le_trans (Below.size RS1) (hq.out.2 q hq'))))
 have HO4 := Zh (HO0.out.below hB4)
 have KR4 := Zh (KR1.out.below hB4 KR1.out.lt)
 have HB4 := Zt HB0 hB4
 clear hB4 hq hb
 go_wp2_with fail
 refine Zd (fun w' => KpL w4.heap.size b w4 w' /\ w'.cell? ⟨b, 12, none⟩ = some (.int .i64 s.now)) (⟨KpL.of_below (zaa w4) (Nat.le_refl _), HO4.out.k.cell 12⟩) fun RS0 => ?_
 refine Zq 0 b 0 RS0 ?_
 refine tk 1 (.slice a2 n2 c2) RS0 ?_
 refine tk 2 (.int .i64 er) RS0 ?_
 refine Zq 3 b 0 RS0 ?_
 refine Zq 4 b 0 RS0 ?_
 refine Zq 5 b 0 RS0 ?_
 refine Zq 6 b 12 RS0 ?_
 refine Zl 7 (.int .i64 s.now) rfl (fun w9 hS => by
    have y12 := hS.2
    go_simp) RS0 ?_
 refine Zq 8 w.heap.size 2 RS0 ?_
 refine Zl 9 (.int .i64 r.a) rfl (fun w9 hS => by
    have y2 : w9.cell? ⟨w.heap.size, 2, none⟩ = some (.int .i64 r.a) := zai (KR4.out.cell 2) hS.1 KR4.out.lt (by omega)
    go_simp) RS0 ?_
 refine Zq 10 w.heap.size 4 RS0 ?_
 refine Zl 11 (.int .i64 r.n) rfl (fun w9 hS => by
    have y4 : w9.cell? ⟨w.heap.size, 4, none⟩ = some (.int .i64 r.n) := zai (KR4.out.cell 4) hS.1 KR4.out.lt (by omega)
    go_simp) RS0 ?_
 refine tk 12 (.agg #[.int .i64 2, s.now, r.a, r.n, (), (), (), (), .bool false]) RS0 ?_
 refine zaj (i := 13) (f := 145) (args := #[.pointer (some ⟨b, 0, none⟩), .slice a2 n2 c2, er, .agg #[.int .i64 2, s.now, r.a, r.n, (), (), (), (), .bool false]]) (by kernel_rfl) rfl (by kernel_rfl) (by kernel_rfl) (zdf w4.heap.size b s ⟨ap, np, cp, al, nl, cl, ah, nh, ch⟩ 0 0 a2 n2 c2 l2 er ⟨2, s.now, r.a, r.n, 0, Y.zp⟩ _ ((⟨HO4.out.k, HO4.out.i, HO4.out.k.lt, Nat.le_refl _⟩ : Y.W0 w4 w4.heap.size b s ⟨ap, np, cp, al, nl, cl, ah, nh, ch⟩ 0 0).below (zaa w4)) (HQ4.out.below (zaa w4)) her) ?_
 rintro e w5 ⟨rfl, hb⟩
 refine ⟨_, rfl, ?_⟩
 exact ⟨rfl, Y.Ends.no (by unfold Y.ofPools; rw [HRES.out, if_neg her]) her ((HB4.out.trans (((zaa w4).trans hb).mono HB4.out.size)).mono HH0.out)⟩
theorem zkv (H0 b : Nat) (s : Y.St) (A : Y.A9) (r : Y.Rq) (w : World) (ho : Y.Own3 w H0 b s A) (hm : Y.May s) (fb : s.d.b <= 9223372036854775807) (fc : s.d.c <= 9223372036854775807) (ra : r.a <= 9223372036854775807) (he : (O.add s.ps (E.no s.d) r.a r.n).2 = 0) :
  Calls Tryz.prog 85 #[.pointer (some ⟨b, 0, none⟩), Y.rval r] w fun e w' => Y.Ends w H0 b (Y.ofPools s (O.add s.ps (E.no s.d) r.a r.n) ⟨2, s.now, r.a, r.n, 0, Y.zp⟩) e w' := by
 have hff := ho.fits hm fb fc
 have hbl := ho.k.lt
 have HH0 : Hid (H0 <= w.heap.size) := Zh (by have := ho.h0; omega)
 obtain ⟨ap, np, cp, al, nl, cl, ah, nh, ch⟩ := A
 have hnp : np <= 600 := hff.p
 have hnl : nl <= 600 := hff.l
 have hnh : nh <= 600 := hff.h
 have HM := Zh hm
 have HFF := Zh hff
 have HW := Zh ho
 have HB0 := Zh (Below.refl w.heap.size w)
 have HO0 := Zh (ho)
 have HS0 := Zh (ho.win (H := w.heap.size) ho.k.lt (Nat.le_refl _))
 clear ho hm hff
 unfold Y.rval
 obtain ⟨w1, hw1, hb, hk⟩ := Zn w 34 #[r.k, r.s, r.a, r.b, r.n, r.p.q, r.p.i, r.p.h, r.p.pair]
 replace HO0 := Zh (HO0.out.below hb)
 replace HS0 := Zh (HS0.out.below hb)
 replace HB0 := Zt HB0 hb
 have KR1 := Zh hk
 clear hb hk
 obtain ⟨no, hno⟩ : ∃ v, E.no s.d = v := ⟨_, rfl⟩
 obtain ⟨l2, er, hres⟩ : ∃ l e, O.add s.ps (E.no s.d) r.a r.n = (l, e) := ⟨_, _, rfl⟩
 have HRES := Zh hres
 rw [hno] at hres
 obtain ⟨n2, hn2⟩ : ∃ n, l2.length = n := ⟨_, rfl⟩
 have hsm := HFF.out.sm
 obtain rfl : er = 0 := by rw [HRES.out] at he; exact he
 clear he
 go_enter Tryz.func85, Tryz.ntmps85
 go_wp2_with fail
 try rw [hw1]
 clear hw1
 refine Zd (fun w' => Below w1.heap.size w1 w') (zaa w1) fun RS0 => ?_
 refine Zq 0 b 0 RS0 ?_
 refine Zq 1 b 0 RS0 ?_
 refine Zq 2 b 0 RS0 ?_
 refine Zq 3 b 13 RS0 ?_
 refine Zl 4 (.slice ap np cp) rfl (fun w9 hS => by
    have y13 := Zv (HO0.out.k.below hS HO0.out.k.lt) 13 (.slice ap np cp)
    go_simp) RS0 ?_
 refine Zq 5 b 0 RS0 ?_
 refine Zq 6 b 0 RS0 ?_
 refine Zq 7 b 0 RS0 ?_
 refine Zq 8 b 0 RS0 ?_
 refine Zl 9 (.agg #[s.d.b, s.d.k, s.d.c, s.d.j, s.d.lo, s.d.hi, s.d.dy, s.d.bl]) rfl (fun w9 hS => by
    have q := HO0.out.k.below hS HO0.out.k.lt
    have y0 := Zv q 0 (.int .i64 s.d.b)
    have y1 := Zv q 1 (.int .i64 s.d.k)
    have y2 := Zv q 2 (.int .i64 s.d.c)
    have y3 := Zv q 3 (.int .i64 s.d.j)
    have y4 := Zv q 4 (.int .i64 s.d.lo)
    have y5 := Zv q 5 (.int .i64 s.d.hi)
    have y6 := Zv q 6 (.int .i64 s.d.dy)
    have y7 := Zv q 7 (.int .i64 s.d.bl)
    go_simp) RS0 ?_
 refine Zq 11 w.heap.size 2 RS0 ?_
 refine Zl 12 (.int .i64 r.a) rfl (fun w9 hS => by
    have y2 := Zv (KR1.out.below hS KR1.out.lt) 2 (.int .i64 r.a)
    go_simp) RS0 ?_
 refine Zq 13 w.heap.size 4 RS0 ?_
 refine Zl 14 (.int .i64 r.n) rfl (fun w9 hS => by
    have y4 := Zv (KR1.out.below hS KR1.out.lt) 4 (.int .i64 r.n)
    go_simp) RS0 ?_
 refine Zc 10 57 #[.agg #[s.d.b, s.d.k, s.d.c, s.d.j, s.d.lo, s.d.hi, s.d.dy, s.d.bl]] (za3 s.d no hno _) ?_
 rintro e w2 ⟨rfl, hb⟩
 refine Zu (Zr RS0 hb) fun RS1 => ?_
 refine Zc 15 144 #[.slice ap np cp, no, r.a, r.n] (zk7 ap np cp s.ps no r.a r.n l2 n2 0 _ ((HO0.out.i.p : QIn w1 ap np cp s.ps).below RS1) (by omega) hsm ra hres hn2) ?_
 rintro e w4 ⟨a2, c2, rfl, hq, hb⟩
 refine Zu (Zr RS1 hb) fun RS2 => ?_
 refine tk 16 (.tuple #[.slice a2 n2 c2, ()]) RS2 ?_
 refine tk 17 (.slice a2 n2 c2) RS2 ?_
 refine tk 18 (.int .i64 0) RS2 ?_
 refine tk 19 (.slice a2 n2 c2) RS2 ?_
 refine tk 20 (.int .i64 0) RS2 ?_
 refine wpAnyH_done (by kernel_rfl) ?_ _
 have hB4 : Below w1.heap.size w1 w4 := RS2
 have HQ4 := Zh hq.out.1
 have HUP : Hid (∀ q, a2 = some q -> H0 <= q.block) := Zh (fun q hq' => Nat.le_trans HH0.out (Nat.le_trans HB0.out.size (Nat.le_trans (Below.size RS1) (hq.out.2 q hq'))))
 have HO4 := Zh (HO0.out.below hB4)
 have KR4 := Zh (KR1.out.below hB4 KR1.out.lt)
 have HB4 := Zt HB0 hB4
 clear hB4 hq hb
 go_wp2_with fail
 refine Zd (fun w' => KpL w4.heap.size b w4 w' /\ w'.cell? ⟨b, 12, none⟩ = some (.int .i64 s.now)) (⟨KpL.of_below (zaa w4) (Nat.le_refl _), HO4.out.k.cell 12⟩) fun RS0 => ?_
 refine Zq 0 b 0 RS0 ?_
 refine tk 1 (.slice a2 n2 c2) RS0 ?_
 refine tk 2 (.int .i64 0) RS0 ?_
 refine Zq 3 b 0 RS0 ?_
 refine Zq 4 b 0 RS0 ?_
 refine Zq 5 b 0 RS0 ?_
 refine Zq 6 b 12 RS0 ?_
 refine Zl 7 (.int .i64 s.now) rfl (fun w9 hS => by
    have y12 := hS.2
    go_simp) RS0 ?_
 refine Zq 8 w.heap.size 2 RS0 ?_
 refine Zl 9 (.int .i64 r.a) rfl (fun w9 hS => by
    have y2 : w9.cell? ⟨w.heap.size, 2, none⟩ = some (.int .i64 r.a) := zai (KR4.out.cell 2) hS.1 KR4.out.lt (by omega)
    go_simp) RS0 ?_
 refine Zq 10 w.heap.size 4 RS0 ?_
 refine Zl 11 (.int .i64 r.n) rfl (fun w9 hS => by
    have y4 : w9.cell? ⟨w.heap.size, 4, none⟩ = some (.int .i64 r.n) := zai (KR4.out.cell 4) hS.1 KR4.out.lt (by omega)
    go_simp) RS0 ?_
 refine tk 12 (.agg #[.int .i64 2, s.now, r.a, r.n, (), (), (), (), .bool false]) RS0 ?_
 refine Zc 13 145 #[.pointer (some ⟨b, 0, none⟩), .slice a2 n2 c2, (), .agg #[.int .i64 2, s.now, r.a, r.n, (), (), (), (), .bool false]] (zcv w4.heap.size b s ⟨ap, np, cp, al, nl, cl, ah, nh, ch⟩ 0 0 a2 n2 c2 l2 ⟨2, s.now, r.a, r.n, 0, Y.zp⟩ _ ((⟨HO4.out.k, HO4.out.i, HO4.out.k.lt, Nat.le_refl _⟩ : Y.W0 w4 w4.heap.size b s ⟨ap, np, cp, al, nl, cl, ah, nh, ch⟩ 0 0).below (zaa w4)) (HQ4.out.below (zaa w4))) ?_
 rintro e w5 ⟨rfl, v2, hf, hk⟩
 refine Zu (⟨(And.left RS0).t hk, hf.k.cell 12⟩) fun RS1 => ?_
 refine wpAnyH_done (by kernel_rfl) ?_ _
 have HF := Zh hf
 have HB5 := Zh (KpL.to_below (HB4.out.mono HH0.out) (And.left RS1) (Nat.le_trans HH0.out HB4.out.size) HW.out.h0)
 clear hf hk
 go_wp2
 first | go_end0 | skip
 exact Y.Ends.yes (by first | rfl | (unfold Y.ofPools; rw [HRES.out]; rfl)) HB5.out HF.out ⟨HUP.out, HW.out.up.2⟩ (.inr (Y.ev1 (show (2 : Int) ≠ 0 by decide)))
theorem zkw (H0 b : Nat) (s : Y.St) (A : Y.A9) (r : Y.Rq) (w : World) (ho : Y.Own3 w H0 b s A) (hm : Y.May s) (fb : s.d.b <= 9223372036854775807) (fc : s.d.c <= 9223372036854775807) (ra : r.a <= 9223372036854775807) :
  Calls Tryz.prog 85 #[.pointer (some ⟨b, 0, none⟩), Y.rval r] w fun e w' => Y.Ends w H0 b (Y.ofPools s (O.add s.ps (E.no s.d) r.a r.n) ⟨2, s.now, r.a, r.n, 0, Y.zp⟩) e w' := by
 by_cases he : (O.add s.ps (E.no s.d) r.a r.n).2 = 0
 ·exact zkv H0 b s A r w ho hm fb fc ra he
 ·exact zlw H0 b s A r w ho hm fb fc ra he
theorem zjf (H0 b : Nat) (s : Y.St) (A : Y.A9) (r : Y.Rq) (w : World) (ho : Y.Own3 w H0 b s A) (hm : Y.May s) (fb : s.d.b <= 9223372036854775807) (fc : s.d.c <= 9223372036854775807) (he : (O.drain s.ps (E.no s.d) r.n).2 ≠ 0) :
  Calls Tryz.prog 86 #[.pointer (some ⟨b, 0, none⟩), Y.rval r] w fun e w' => Y.Ends w H0 b (Y.ofPools s (O.drain s.ps (E.no s.d) r.n) ⟨3, s.now, r.n, 0, 0, Y.zp⟩) e w' := by
 have hff := ho.fits hm fb fc
 have hbl := ho.k.lt
 have HH0 : Hid (H0 <= w.heap.size) := Zh (by have := ho.h0; omega)
 obtain ⟨ap, np, cp, al, nl, cl, ah, nh, ch⟩ := A
 have hnp : np <= 600 := hff.p
 have hnl : nl <= 600 := hff.l
 have hnh : nh <= 600 := hff.h
 have HM := Zh hm
 have HFF := Zh hff
 have HW := Zh ho
 have HB0 := Zh (Below.refl w.heap.size w)
 have HO0 := Zh (ho)
 have HS0 := Zh (ho.win (H := w.heap.size) ho.k.lt (Nat.le_refl _))
 clear ho hm hff
 unfold Y.rval
 obtain ⟨w1, hw1, hb, hk⟩ := Zn w 34 #[r.k, r.s, r.a, r.b, r.n, r.p.q, r.p.i, r.p.h, r.p.pair]
 replace HO0 := Zh (HO0.out.below hb)
 replace HS0 := Zh (HS0.out.below hb)
 replace HB0 := Zt HB0 hb
 have KR1 := Zh hk
 clear hb hk
 obtain ⟨no, hno⟩ : ∃ v, E.no s.d = v := ⟨_, rfl⟩
 obtain ⟨l2, er, hres⟩ : ∃ l e, O.drain s.ps (E.no s.d) r.n = (l, e) := ⟨_, _, rfl⟩
 have HRES := Zh hres
 rw [hno] at hres
 obtain ⟨n2, hn2⟩ : ∃ n, l2.length = n := ⟨_, rfl⟩
 have hsm := HFF.out.sm
 have her : er ≠ 0 := by rw [HRES.out] at he; exact he
 clear he
 go_enter Tryz.func86, Tryz.ntmps86
 go_wp2_with fail
 try rw [hw1]
 clear hw1
 refine Zd (fun w' => Below w1.heap.size w1 w') (zaa w1) fun RS0 => ?_
 refine Zq 0 b 0 RS0 ?_
 refine Zq 1 b 0 RS0 ?_
 refine Zq 2 b 0 RS0 ?_
 refine Zq 3 b 13 RS0 ?_
 refine Zl 4 (.slice ap np cp) rfl (fun w9 hS => by
    have y13 := Zv (HO0.out.k.below hS HO0.out.k.lt) 13 (.slice ap np cp)
    go_simp) RS0 ?_
 refine Zq 5 b 0 RS0 ?_
 refine Zq 6 b 0 RS0 ?_
 refine Zq 7 b 0 RS0 ?_
 refine Zq 8 b 0 RS0 ?_
 refine Zl 9 (.agg #[s.d.b, s.d.k, s.d.c, s.d.j, s.d.lo, s.d.hi, s.d.dy, s.d.bl]) rfl (fun w9 hS => by
    have q := HO0.out.k.below hS HO0.out.k.lt
    have y0 := Zv q 0 (.int .i64 s.d.b)
    have y1 := Zv q 1 (.int .i64 s.d.k)
    have y2 := Zv q 2 (.int .i64 s.d.c)
    have y3 := Zv q 3 (.int .i64 s.d.j)
    have y4 := Zv q 4 (.int .i64 s.d.lo)
    have y5 := Zv q 5 (.int .i64 s.d.hi)
    have y6 := Zv q 6 (.int .i64 s.d.dy)
    have y7 := Zv q 7 (.int .i64 s.d.bl)
    go_simp) RS0 ?_
 refine Zq 11 w.heap.size 4 RS0 ?_
 refine Zl 12 (.int .i64 r.n) rfl (fun w9 hS => by
    have y4 := Zv (KR1.out.below hS KR1.out.lt) 4 (.int .i64 r.n)
    go_simp) RS0 ?_
 refine Zc 10 57 #[.agg #[s.d.b, s.d.k, s.d.c, s.d.j, s.d.lo, s.d.hi, s.d.dy, s.d.bl]] (za3 s.d no hno _) ?_
 rintro e w2 ⟨rfl, hb⟩
 refine Zu (Zr RS0 hb) fun RS1 => ?_
 refine Zc 13 146 #[.slice ap np cp, no, r.n] (zgy ap np cp s.ps no r.n l2 n2 er _ ((HO0.out.i.p : QIn w1 ap np cp s.ps).below RS1) (by omega) hsm hres hn2) ?_
 rintro e w4 ⟨a2, c2, rfl, hq, hb⟩
 refine Zu (Zr RS1 hb) fun RS2 => ?_
 refine tk 14 (.tuple #[.slice a2 n2 c2, er]) RS2 ?_
 refine tk 15 (.slice a2 n2 c2) RS2 ?_
 refine tk 16 (.int .i64 er) RS2 ?_
 refine tk 17 (.slice a2 n2 c2) RS2 ?_
 refine tk 18 (.int .i64 er) RS2 ?_
 refine wpAnyH_done (by kernel_rfl) ?_ _
 have hB4 : Below w1.heap.size w1 w4 := RS2
 have HQ4 := Zh hq.out.1
 have HUP : Hid (∀ q, a2 = some q -> H0 <= q.block) := Zh (fun q hq' => Nat.le_trans HH0.out (Nat.le_trans HB0.out.size (Nat.le_trans (Below.size RS1) (hq.out.2 q hq'))))
 have HO4 := Zh (HO0.out.below hB4)
 have KR4 := Zh (KR1.out.below hB4 KR1.out.lt)
 have HB4 := Zt HB0 hB4
 clear hB4 hq hb
 go_wp2_with fail
 refine Zd (fun w' => KpL w4.heap.size b w4 w' /\ w'.cell? ⟨b, 12, none⟩ = some (.int .i64 s.now)) (⟨KpL.of_below (zaa w4) (Nat.le_refl _), HO4.out.k.cell 12⟩) fun RS0 => ?_
 refine Zq 0 b 0 RS0 ?_
 refine tk 1 (.slice a2 n2 c2) RS0 ?_
 refine tk 2 (.int .i64 er) RS0 ?_
 refine Zq 3 b 0 RS0 ?_
 refine Zq 4 b 0 RS0 ?_
 refine Zq 5 b 0 RS0 ?_
 refine Zq 6 b 12 RS0 ?_
 refine Zl 7 (.int .i64 s.now) rfl (fun w9 hS => by
    have y12 := hS.2
    go_simp) RS0 ?_
 refine Zq 8 w.heap.size 4 RS0 ?_
 refine Zl 9 (.int .i64 r.n) rfl (fun w9 hS => by
    have y4 : w9.cell? ⟨w.heap.size, 4, none⟩ = some (.int .i64 r.n) := zai (KR4.out.cell 4) hS.1 KR4.out.lt (by omega)
    go_simp) RS0 ?_
 refine tk 10 (.agg #[.int .i64 3, s.now, r.n, (), (), (), (), (), .bool false]) RS0 ?_
 refine zaj (i := 11) (f := 145) (args := #[.pointer (some ⟨b, 0, none⟩), .slice a2 n2 c2, er, .agg #[.int .i64 3, s.now, r.n, (), (), (), (), (), .bool false]]) (by kernel_rfl) rfl (by kernel_rfl) (by kernel_rfl) (zdf w4.heap.size b s ⟨ap, np, cp, al, nl, cl, ah, nh, ch⟩ 0 0 a2 n2 c2 l2 er ⟨3, s.now, r.n, 0, 0, Y.zp⟩ _ ((⟨HO4.out.k, HO4.out.i, HO4.out.k.lt, Nat.le_refl _⟩ : Y.W0 w4 w4.heap.size b s ⟨ap, np, cp, al, nl, cl, ah, nh, ch⟩ 0 0).below (zaa w4)) (HQ4.out.below (zaa w4)) her) ?_
 rintro e w5 ⟨rfl, hb⟩
 refine ⟨_, rfl, ?_⟩
 exact ⟨rfl, Y.Ends.no (by unfold Y.ofPools; rw [HRES.out, if_neg her]) her ((HB4.out.trans (((zaa w4).trans hb).mono HB4.out.size)).mono HH0.out)⟩
theorem zho (H0 b : Nat) (s : Y.St) (A : Y.A9) (r : Y.Rq) (w : World) (ho : Y.Own3 w H0 b s A) (hm : Y.May s) (fb : s.d.b <= 9223372036854775807) (fc : s.d.c <= 9223372036854775807) (he : (O.drain s.ps (E.no s.d) r.n).2 = 0) :
  Calls Tryz.prog 86 #[.pointer (some ⟨b, 0, none⟩), Y.rval r] w fun e w' => Y.Ends w H0 b (Y.ofPools s (O.drain s.ps (E.no s.d) r.n) ⟨3, s.now, r.n, 0, 0, Y.zp⟩) e w' := by
 have hff := ho.fits hm fb fc
 have hbl := ho.k.lt
 have HH0 : Hid (H0 <= w.heap.size) := Zh (by have := ho.h0; omega)
 obtain ⟨ap, np, cp, al, nl, cl, ah, nh, ch⟩ := A
 have hnp : np <= 600 := hff.p
 have hnl : nl <= 600 := hff.l
 have hnh : nh <= 600 := hff.h
 have HM := Zh hm
 have HFF := Zh hff
 have HW := Zh ho
 have HB0 := Zh (Below.refl w.heap.size w)
 have HO0 := Zh (ho)
 have HS0 := Zh (ho.win (H := w.heap.size) ho.k.lt (Nat.le_refl _))
 clear ho hm hff
 unfold Y.rval
 obtain ⟨w1, hw1, hb, hk⟩ := Zn w 34 #[r.k, r.s, r.a, r.b, r.n, r.p.q, r.p.i, r.p.h, r.p.pair]
 replace HO0 := Zh (HO0.out.below hb)
 replace HS0 := Zh (HS0.out.below hb)
 replace HB0 := Zt HB0 hb
 have KR1 := Zh hk
 clear hb hk
 obtain ⟨no, hno⟩ : ∃ v, E.no s.d = v := ⟨_, rfl⟩
 obtain ⟨l2, er, hres⟩ : ∃ l e, O.drain s.ps (E.no s.d) r.n = (l, e) := ⟨_, _, rfl⟩
 have HRES := Zh hres
 rw [hno] at hres
 obtain ⟨n2, hn2⟩ : ∃ n, l2.length = n := ⟨_, rfl⟩
 have hsm := HFF.out.sm
 obtain rfl : er = 0 := by rw [HRES.out] at he; exact he
 clear he
 go_enter Tryz.func86, Tryz.ntmps86
 go_wp2_with fail
 try rw [hw1]
 clear hw1
 refine Zd (fun w' => Below w1.heap.size w1 w') (zaa w1) fun RS0 => ?_
 refine Zq 0 b 0 RS0 ?_
 refine Zq 1 b 0 RS0 ?_
 refine Zq 2 b 0 RS0 ?_
 refine Zq 3 b 13 RS0 ?_
 refine Zl 4 (.slice ap np cp) rfl (fun w9 hS => by
    have y13 := Zv (HO0.out.k.below hS HO0.out.k.lt) 13 (.slice ap np cp)
    go_simp) RS0 ?_
 refine Zq 5 b 0 RS0 ?_
 refine Zq 6 b 0 RS0 ?_
 refine Zq 7 b 0 RS0 ?_
 refine Zq 8 b 0 RS0 ?_
 refine Zl 9 (.agg #[s.d.b, s.d.k, s.d.c, s.d.j, s.d.lo, s.d.hi, s.d.dy, s.d.bl]) rfl (fun w9 hS => by
    have q := HO0.out.k.below hS HO0.out.k.lt
    have y0 := Zv q 0 (.int .i64 s.d.b)
    have y1 := Zv q 1 (.int .i64 s.d.k)
    have y2 := Zv q 2 (.int .i64 s.d.c)
    have y3 := Zv q 3 (.int .i64 s.d.j)
    have y4 := Zv q 4 (.int .i64 s.d.lo)
    have y5 := Zv q 5 (.int .i64 s.d.hi)
    have y6 := Zv q 6 (.int .i64 s.d.dy)
    have y7 := Zv q 7 (.int .i64 s.d.bl)
    go_simp) RS0 ?_
 refine Zq 11 w.heap.size 4 RS0 ?_
 refine Zl 12 (.int .i64 r.n) rfl (fun w9 hS => by
    have y4 := Zv (KR1.out.below hS KR1.out.lt) 4 (.int .i64 r.n)
    go_simp) RS0 ?_
 refine Zc 10 57 #[.agg #[s.d.b, s.d.k, s.d.c, s.d.j, s.d.lo, s.d.hi, s.d.dy, s.d.bl]] (za3 s.d no hno _) ?_
 rintro e w2 ⟨rfl, hb⟩
 refine Zu (Zr RS0 hb) fun RS1 => ?_
 refine Zc 13 146 #[.slice ap np cp, no, r.n] (zgy ap np cp s.ps no r.n l2 n2 0 _ ((HO0.out.i.p : QIn w1 ap np cp s.ps).below RS1) (by omega) hsm hres hn2) ?_
 rintro e w4 ⟨a2, c2, rfl, hq, hb⟩
 refine Zu (Zr RS1 hb) fun RS2 => ?_
 refine tk 14 (.tuple #[.slice a2 n2 c2, ()]) RS2 ?_
 refine tk 15 (.slice a2 n2 c2) RS2 ?_
 refine tk 16 (.int .i64 0) RS2 ?_
 refine tk 17 (.slice a2 n2 c2) RS2 ?_
 refine tk 18 (.int .i64 0) RS2 ?_
 refine wpAnyH_done (by kernel_rfl) ?_ _
 have hB4 : Below w1.heap.size w1 w4 := RS2
 have HQ4 := Zh hq.out.1
 have HUP : Hid (∀ q, a2 = some q -> H0 <= q.block) := Zh (fun q hq' => Nat.le_trans HH0.out (Nat.le_trans HB0.out.size (Nat.le_trans (Below.size RS1) (hq.out.2 q hq'))))
 have HO4 := Zh (HO0.out.below hB4)
 have KR4 := Zh (KR1.out.below hB4 KR1.out.lt)
 have HB4 := Zt HB0 hB4
 clear hB4 hq hb
 go_wp2_with fail
 refine Zd (fun w' => KpL w4.heap.size b w4 w' /\ w'.cell? ⟨b, 12, none⟩ = some (.int .i64 s.now)) (⟨KpL.of_below (zaa w4) (Nat.le_refl _), HO4.out.k.cell 12⟩) fun RS0 => ?_
 refine Zq 0 b 0 RS0 ?_
 refine tk 1 (.slice a2 n2 c2) RS0 ?_
 refine tk 2 (.int .i64 0) RS0 ?_
 refine Zq 3 b 0 RS0 ?_
 refine Zq 4 b 0 RS0 ?_
 refine Zq 5 b 0 RS0 ?_
 refine Zq 6 b 12 RS0 ?_
 refine Zl 7 (.int .i64 s.now) rfl (fun w9 hS => by
    have y12 := hS.2
    go_simp) RS0 ?_
 refine Zq 8 w.heap.size 4 RS0 ?_
 refine Zl 9 (.int .i64 r.n) rfl (fun w9 hS => by
    have y4 : w9.cell? ⟨w.heap.size, 4, none⟩ = some (.int .i64 r.n) := zai (KR4.out.cell 4) hS.1 KR4.out.lt (by omega)
    go_simp) RS0 ?_
 refine tk 10 (.agg #[.int .i64 3, s.now, r.n, (), (), (), (), (), .bool false]) RS0 ?_
 refine Zc 11 145 #[.pointer (some ⟨b, 0, none⟩), .slice a2 n2 c2, (), .agg #[.int .i64 3, s.now, r.n, (), (), (), (), (), .bool false]] (zcv w4.heap.size b s ⟨ap, np, cp, al, nl, cl, ah, nh, ch⟩ 0 0 a2 n2 c2 l2 ⟨3, s.now, r.n, 0, 0, Y.zp⟩ _ ((⟨HO4.out.k, HO4.out.i, HO4.out.k.lt, Nat.le_refl _⟩ : Y.W0 w4 w4.heap.size b s ⟨ap, np, cp, al, nl, cl, ah, nh, ch⟩ 0 0).below (zaa w4)) (HQ4.out.below (zaa w4))) ?_
 rintro e w5 ⟨rfl, v2, hf, hk⟩
 refine Zu (⟨(And.left RS0).t hk, hf.k.cell 12⟩) fun RS1 => ?_
 refine wpAnyH_done (by kernel_rfl) ?_ _
 have HF := Zh hf
 have HB5 := Zh (KpL.to_below (HB4.out.mono HH0.out) (And.left RS1) (Nat.le_trans HH0.out HB4.out.size) HW.out.h0)
 clear hf hk
 go_wp2
 first | go_end0 | skip
 exact Y.Ends.yes (by first | rfl | (unfold Y.ofPools; rw [HRES.out]; rfl)) HB5.out HF.out ⟨HUP.out, HW.out.up.2⟩ (.inr (Y.ev1 (show (3 : Int) ≠ 0 by decide)))
theorem zhp (H0 b : Nat) (s : Y.St) (A : Y.A9) (r : Y.Rq) (w : World) (ho : Y.Own3 w H0 b s A) (hm : Y.May s) (fb : s.d.b <= 9223372036854775807) (fc : s.d.c <= 9223372036854775807) :
  Calls Tryz.prog 86 #[.pointer (some ⟨b, 0, none⟩), Y.rval r] w fun e w' => Y.Ends w H0 b (Y.ofPools s (O.drain s.ps (E.no s.d) r.n) ⟨3, s.now, r.n, 0, 0, Y.zp⟩) e w' := by
 by_cases he : (O.drain s.ps (E.no s.d) r.n).2 = 0
 ·exact zho H0 b s A r w ho hm fb fc he
 ·exact zjf H0 b s A r w ho hm fb fc he
theorem zkx (H0 b : Nat) (s : Y.St) (A : Y.A9) (r : Y.Rq) (w : World) (ho : Y.Own3 w H0 b s A) (hm : Y.May s) (fb : s.d.b <= 9223372036854775807) (fc : s.d.c <= 9223372036854775807) (he : (O.size s.ps (E.no s.d) r.a r.n (L.busy s.l)).2 ≠ 0) :
  Calls Tryz.prog 87 #[.pointer (some ⟨b, 0, none⟩), Y.rval r] w fun e w' => Y.Ends w H0 b (Y.ofPools s (O.size s.ps (E.no s.d) r.a r.n (L.busy s.l)) ⟨4, s.now, r.a, r.n, 0, Y.zp⟩) e w' := by
 have hff := ho.fits hm fb fc
 have hbl := ho.k.lt
 have HH0 : Hid (H0 <= w.heap.size) := Zh (by have := ho.h0; omega)
 obtain ⟨ap, np, cp, al, nl, cl, ah, nh, ch⟩ := A
 have hnp : np <= 600 := hff.p
 have hnl : nl <= 600 := hff.l
 have hnh : nh <= 600 := hff.h
 have HM := Zh hm
 have HFF := Zh hff
 have HW := Zh ho
 have HB0 := Zh (Below.refl w.heap.size w)
 have HO0 := Zh (ho)
 have HS0 := Zh (ho.win (H := w.heap.size) ho.k.lt (Nat.le_refl _))
 clear ho hm hff
 unfold Y.rval
 obtain ⟨w1, hw1, hb, hk⟩ := Zn w 34 #[r.k, r.s, r.a, r.b, r.n, r.p.q, r.p.i, r.p.h, r.p.pair]
 replace HO0 := Zh (HO0.out.below hb)
 replace HS0 := Zh (HS0.out.below hb)
 replace HB0 := Zt HB0 hb
 have KR1 := Zh hk
 clear hb hk
 obtain ⟨no, hno⟩ : ∃ v, E.no s.d = v := ⟨_, rfl⟩
 obtain ⟨l2, er, hres⟩ : ∃ l e, O.size s.ps (E.no s.d) r.a r.n (L.busy s.l) = (l, e) := ⟨_, _, rfl⟩
 have HRES := Zh hres
 rw [hno] at hres
 obtain ⟨n2, hn2⟩ : ∃ n, l2.length = n := ⟨_, rfl⟩
 have hsm := HFF.out.sm
 obtain ⟨bu, hbu⟩ : ∃ v, L.busy s.l = v := ⟨_, rfl⟩
 rw [hbu] at hres
 have hbw := Y.busy_wf HM.out
 rw [hbu] at hbw
 have hbul : bu.length <= nl := by rw [<- hbu]; have := L.busy_len s.l; have h2 : s.l.length = nl := HW.out.nl; omega
 have her : er ≠ 0 := by rw [HRES.out] at he; exact he
 clear he
 go_enter Tryz.func87, Tryz.ntmps87
 go_wp2_with fail
 try rw [hw1]
 clear hw1
 refine Zd (fun w' => Below w1.heap.size w1 w') (zaa w1) fun RS0 => ?_
 refine Zq 0 b 0 RS0 ?_
 refine Zq 1 b 0 RS0 ?_
 refine Zq 2 b 0 RS0 ?_
 refine Zq 3 b 13 RS0 ?_
 refine Zl 4 (.slice ap np cp) rfl (fun w9 hS => by
    have y13 := Zv (HO0.out.k.below hS HO0.out.k.lt) 13 (.slice ap np cp)
    go_simp) RS0 ?_
 refine Zq 5 b 0 RS0 ?_
 refine Zq 6 b 0 RS0 ?_
 refine Zq 7 b 0 RS0 ?_
 refine Zq 8 b 0 RS0 ?_
 refine Zl 9 (.agg #[s.d.b, s.d.k, s.d.c, s.d.j, s.d.lo, s.d.hi, s.d.dy, s.d.bl]) rfl (fun w9 hS => by
    have q := HO0.out.k.below hS HO0.out.k.lt
    have y0 := Zv q 0 (.int .i64 s.d.b)
    have y1 := Zv q 1 (.int .i64 s.d.k)
    have y2 := Zv q 2 (.int .i64 s.d.c)
    have y3 := Zv q 3 (.int .i64 s.d.j)
    have y4 := Zv q 4 (.int .i64 s.d.lo)
    have y5 := Zv q 5 (.int .i64 s.d.hi)
    have y6 := Zv q 6 (.int .i64 s.d.dy)
    have y7 := Zv q 7 (.int .i64 s.d.bl)
    go_simp) RS0 ?_
 refine Zq 11 w.heap.size 2 RS0 ?_
 refine Zl 12 (.int .i64 r.a) rfl (fun w9 hS => by
    have y2 := Zv (KR1.out.below hS KR1.out.lt) 2 (.int .i64 r.a)
    go_simp) RS0 ?_
 refine Zq 13 w.heap.size 4 RS0 ?_
 refine Zl 14 (.int .i64 r.n) rfl (fun w9 hS => by
    have y4 := Zv (KR1.out.below hS KR1.out.lt) 4 (.int .i64 r.n)
    go_simp) RS0 ?_
 refine Zq 15 b 0 RS0 ?_
 refine Zq 16 b 0 RS0 ?_
 refine Zq 17 b 0 RS0 ?_
 refine Zq 18 b 14 RS0 ?_
 refine Zl 19 (.slice al nl cl) rfl (fun w9 hS => by
    have y14 := Zv (HO0.out.k.below hS HO0.out.k.lt) 14 (.slice al nl cl)
    go_simp) RS0 ?_
 refine Zc 10 57 #[.agg #[s.d.b, s.d.k, s.d.c, s.d.j, s.d.lo, s.d.hi, s.d.dy, s.d.bl]] (za3 s.d no hno _) ?_
 rintro e w2 ⟨rfl, hb⟩
 refine Zu (Zr RS0 hb) fun RS1 => ?_
 refine Zc 20 148 #[.slice al nl cl] (zdc al nl cl s.l bu hbu _ ((HO0.out.i.l : RIn w1 al nl cl s.l).below RS1) (by omega)) ?_
 rintro e w3 ⟨ab, cb, rfl, hrb, hb⟩
 refine Zu (Zr RS1 hb) fun RS2 => ?_
 refine Zc 21 147 #[.slice ap np cp, no, r.a, r.n, .slice ab bu.length cb] (zix ap np cp s.ps no r.a r.n ab bu.length cb bu l2 n2 er _ ((HO0.out.i.p : QIn w1 ap np cp s.ps).below RS2) (by omega) hsm (zg2 hrb.out hbw) (by omega) hres hn2) ?_
 rintro e w4 ⟨a2, c2, rfl, hq, hb⟩
 refine Zu (Zr RS2 hb) fun RS3 => ?_
 refine tk 22 (.tuple #[.slice a2 n2 c2, er]) RS3 ?_
 refine tk 23 (.slice a2 n2 c2) RS3 ?_
 refine tk 24 (.int .i64 er) RS3 ?_
 refine tk 25 (.slice a2 n2 c2) RS3 ?_
 refine tk 26 (.int .i64 er) RS3 ?_
 refine wpAnyH_done (by kernel_rfl) ?_ _
 have hB4 : Below w1.heap.size w1 w4 := RS3
 have HQ4 := Zh hq.out.1
 have HUP : Hid (∀ q, a2 = some q -> H0 <= q.block) := Zh (fun q hq' => Nat.le_trans HH0.out (Nat.le_trans HB0.out.size (Nat.le_trans (Below.size RS2) (hq.out.2 q hq'))))
 have HO4 := Zh (HO0.out.below hB4)
 have KR4 := Zh (KR1.out.below hB4 KR1.out.lt)
 have HB4 := Zt HB0 hB4
 clear hB4 hq hb
 go_wp2_with fail
 refine Zd (fun w' => KpL w4.heap.size b w4 w' /\ w'.cell? ⟨b, 12, none⟩ = some (.int .i64 s.now)) (⟨KpL.of_below (zaa w4) (Nat.le_refl _), HO4.out.k.cell 12⟩) fun RS0 => ?_
 refine Zq 0 b 0 RS0 ?_
 refine tk 1 (.slice a2 n2 c2) RS0 ?_
 refine tk 2 (.int .i64 er) RS0 ?_
 refine Zq 3 b 0 RS0 ?_
 refine Zq 4 b 0 RS0 ?_
 refine Zq 5 b 0 RS0 ?_
 refine Zq 6 b 12 RS0 ?_
 refine Zl 7 (.int .i64 s.now) rfl (fun w9 hS => by
    have y12 := hS.2
    go_simp) RS0 ?_
 refine Zq 8 w.heap.size 2 RS0 ?_
 refine Zl 9 (.int .i64 r.a) rfl (fun w9 hS => by
    have y2 : w9.cell? ⟨w.heap.size, 2, none⟩ = some (.int .i64 r.a) := zai (KR4.out.cell 2) hS.1 KR4.out.lt (by omega)
    go_simp) RS0 ?_
 refine Zq 10 w.heap.size 4 RS0 ?_
 refine Zl 11 (.int .i64 r.n) rfl (fun w9 hS => by
    have y4 : w9.cell? ⟨w.heap.size, 4, none⟩ = some (.int .i64 r.n) := zai (KR4.out.cell 4) hS.1 KR4.out.lt (by omega)
    go_simp) RS0 ?_
 refine tk 12 (.agg #[.int .i64 4, s.now, r.a, r.n, (), (), (), (), .bool false]) RS0 ?_
 refine zaj (i := 13) (f := 145) (args := #[.pointer (some ⟨b, 0, none⟩), .slice a2 n2 c2, er, .agg #[.int .i64 4, s.now, r.a, r.n, (), (), (), (), .bool false]]) (by kernel_rfl) rfl (by kernel_rfl) (by kernel_rfl) (zdf w4.heap.size b s ⟨ap, np, cp, al, nl, cl, ah, nh, ch⟩ 0 0 a2 n2 c2 l2 er ⟨4, s.now, r.a, r.n, 0, Y.zp⟩ _ ((⟨HO4.out.k, HO4.out.i, HO4.out.k.lt, Nat.le_refl _⟩ : Y.W0 w4 w4.heap.size b s ⟨ap, np, cp, al, nl, cl, ah, nh, ch⟩ 0 0).below (zaa w4)) (HQ4.out.below (zaa w4)) her) ?_
 rintro e w5 ⟨rfl, hb⟩
 refine ⟨_, rfl, ?_⟩
 exact ⟨rfl, Y.Ends.no (by unfold Y.ofPools; rw [HRES.out, if_neg her]) her ((HB4.out.trans (((zaa w4).trans hb).mono HB4.out.size)).mono HH0.out)⟩
theorem zjg (H0 b : Nat) (s : Y.St) (A : Y.A9) (r : Y.Rq) (w : World) (ho : Y.Own3 w H0 b s A) (hm : Y.May s) (fb : s.d.b <= 9223372036854775807) (fc : s.d.c <= 9223372036854775807) (he : (O.size s.ps (E.no s.d) r.a r.n (L.busy s.l)).2 = 0) :
  Calls Tryz.prog 87 #[.pointer (some ⟨b, 0, none⟩), Y.rval r] w fun e w' => Y.Ends w H0 b (Y.ofPools s (O.size s.ps (E.no s.d) r.a r.n (L.busy s.l)) ⟨4, s.now, r.a, r.n, 0, Y.zp⟩) e w' := by
 have hff := ho.fits hm fb fc
 have hbl := ho.k.lt
 have HH0 : Hid (H0 <= w.heap.size) := Zh (by have := ho.h0; omega)
 obtain ⟨ap, np, cp, al, nl, cl, ah, nh, ch⟩ := A
 have hnp : np <= 600 := hff.p
 have hnl : nl <= 600 := hff.l
 have hnh : nh <= 600 := hff.h
 have HM := Zh hm
 have HFF := Zh hff
 have HW := Zh ho
 have HB0 := Zh (Below.refl w.heap.size w)
 have HO0 := Zh (ho)
 have HS0 := Zh (ho.win (H := w.heap.size) ho.k.lt (Nat.le_refl _))
 clear ho hm hff
 unfold Y.rval
 obtain ⟨w1, hw1, hb, hk⟩ := Zn w 34 #[r.k, r.s, r.a, r.b, r.n, r.p.q, r.p.i, r.p.h, r.p.pair]
 replace HO0 := Zh (HO0.out.below hb)
 replace HS0 := Zh (HS0.out.below hb)
 replace HB0 := Zt HB0 hb
 have KR1 := Zh hk
 clear hb hk
 obtain ⟨no, hno⟩ : ∃ v, E.no s.d = v := ⟨_, rfl⟩
 obtain ⟨l2, er, hres⟩ : ∃ l e, O.size s.ps (E.no s.d) r.a r.n (L.busy s.l) = (l, e) := ⟨_, _, rfl⟩
 have HRES := Zh hres
 rw [hno] at hres
 obtain ⟨n2, hn2⟩ : ∃ n, l2.length = n := ⟨_, rfl⟩
 have hsm := HFF.out.sm
 obtain ⟨bu, hbu⟩ : ∃ v, L.busy s.l = v := ⟨_, rfl⟩
 rw [hbu] at hres
 have hbw := Y.busy_wf HM.out
 rw [hbu] at hbw
 have hbul : bu.length <= nl := by rw [<- hbu]; have := L.busy_len s.l; have h2 : s.l.length = nl := HW.out.nl; omega
 obtain rfl : er = 0 := by rw [HRES.out] at he; exact he
 clear he
 go_enter Tryz.func87, Tryz.ntmps87
 go_wp2_with fail
 try rw [hw1]
 clear hw1
 refine Zd (fun w' => Below w1.heap.size w1 w') (zaa w1) fun RS0 => ?_
 refine Zq 0 b 0 RS0 ?_
 refine Zq 1 b 0 RS0 ?_
 refine Zq 2 b 0 RS0 ?_
 refine Zq 3 b 13 RS0 ?_
 refine Zl 4 (.slice ap np cp) rfl (fun w9 hS => by
    have y13 := Zv (HO0.out.k.below hS HO0.out.k.lt) 13 (.slice ap np cp)
    go_simp) RS0 ?_
 refine Zq 5 b 0 RS0 ?_
 refine Zq 6 b 0 RS0 ?_
 refine Zq 7 b 0 RS0 ?_
 refine Zq 8 b 0 RS0 ?_
 refine Zl 9 (.agg #[s.d.b, s.d.k, s.d.c, s.d.j, s.d.lo, s.d.hi, s.d.dy, s.d.bl]) rfl (fun w9 hS => by
    have q := HO0.out.k.below hS HO0.out.k.lt
    have y0 := Zv q 0 (.int .i64 s.d.b)
    have y1 := Zv q 1 (.int .i64 s.d.k)
    have y2 := Zv q 2 (.int .i64 s.d.c)
    have y3 := Zv q 3 (.int .i64 s.d.j)
    have y4 := Zv q 4 (.int .i64 s.d.lo)
    have y5 := Zv q 5 (.int .i64 s.d.hi)
    have y6 := Zv q 6 (.int .i64 s.d.dy)
    have y7 := Zv q 7 (.int .i64 s.d.bl)
    go_simp) RS0 ?_
 refine Zq 11 w.heap.size 2 RS0 ?_
 refine Zl 12 (.int .i64 r.a) rfl (fun w9 hS => by
    have y2 := Zv (KR1.out.below hS KR1.out.lt) 2 (.int .i64 r.a)
    go_simp) RS0 ?_
 refine Zq 13 w.heap.size 4 RS0 ?_
 refine Zl 14 (.int .i64 r.n) rfl (fun w9 hS => by
    have y4 := Zv (KR1.out.below hS KR1.out.lt) 4 (.int .i64 r.n)
    go_simp) RS0 ?_
 refine Zq 15 b 0 RS0 ?_
 refine Zq 16 b 0 RS0 ?_
 refine Zq 17 b 0 RS0 ?_
 refine Zq 18 b 14 RS0 ?_
 refine Zl 19 (.slice al nl cl) rfl (fun w9 hS => by
    have y14 := Zv (HO0.out.k.below hS HO0.out.k.lt) 14 (.slice al nl cl)
    go_simp) RS0 ?_
 refine Zc 10 57 #[.agg #[s.d.b, s.d.k, s.d.c, s.d.j, s.d.lo, s.d.hi, s.d.dy, s.d.bl]] (za3 s.d no hno _) ?_
 rintro e w2 ⟨rfl, hb⟩
 refine Zu (Zr RS0 hb) fun RS1 => ?_
 refine Zc 20 148 #[.slice al nl cl] (zdc al nl cl s.l bu hbu _ ((HO0.out.i.l : RIn w1 al nl cl s.l).below RS1) (by omega)) ?_
 rintro e w3 ⟨ab, cb, rfl, hrb, hb⟩
 refine Zu (Zr RS1 hb) fun RS2 => ?_
 refine Zc 21 147 #[.slice ap np cp, no, r.a, r.n, .slice ab bu.length cb] (zix ap np cp s.ps no r.a r.n ab bu.length cb bu l2 n2 0 _ ((HO0.out.i.p : QIn w1 ap np cp s.ps).below RS2) (by omega) hsm (zg2 hrb.out hbw) (by omega) hres hn2) ?_
 rintro e w4 ⟨a2, c2, rfl, hq, hb⟩
 refine Zu (Zr RS2 hb) fun RS3 => ?_
 refine tk 22 (.tuple #[.slice a2 n2 c2, ()]) RS3 ?_
 refine tk 23 (.slice a2 n2 c2) RS3 ?_
 refine tk 24 (.int .i64 0) RS3 ?_
 refine tk 25 (.slice a2 n2 c2) RS3 ?_
 refine tk 26 (.int .i64 0) RS3 ?_
 refine wpAnyH_done (by kernel_rfl) ?_ _
 have hB4 : Below w1.heap.size w1 w4 := RS3
 have HQ4 := Zh hq.out.1
 have HUP : Hid (∀ q, a2 = some q -> H0 <= q.block) := Zh (fun q hq' => Nat.le_trans HH0.out (Nat.le_trans HB0.out.size (Nat.le_trans (Below.size RS2) (hq.out.2 q hq'))))
 have HO4 := Zh (HO0.out.below hB4)
 have KR4 := Zh (KR1.out.below hB4 KR1.out.lt)
 have HB4 := Zt HB0 hB4
 clear hB4 hq hb
 go_wp2_with fail
 refine Zd (fun w' => KpL w4.heap.size b w4 w' /\ w'.cell? ⟨b, 12, none⟩ = some (.int .i64 s.now)) (⟨KpL.of_below (zaa w4) (Nat.le_refl _), HO4.out.k.cell 12⟩) fun RS0 => ?_
 refine Zq 0 b 0 RS0 ?_
 refine tk 1 (.slice a2 n2 c2) RS0 ?_
 refine tk 2 (.int .i64 0) RS0 ?_
 refine Zq 3 b 0 RS0 ?_
 refine Zq 4 b 0 RS0 ?_
 refine Zq 5 b 0 RS0 ?_
 refine Zq 6 b 12 RS0 ?_
 refine Zl 7 (.int .i64 s.now) rfl (fun w9 hS => by
    have y12 := hS.2
    go_simp) RS0 ?_
 refine Zq 8 w.heap.size 2 RS0 ?_
 refine Zl 9 (.int .i64 r.a) rfl (fun w9 hS => by
    have y2 : w9.cell? ⟨w.heap.size, 2, none⟩ = some (.int .i64 r.a) := zai (KR4.out.cell 2) hS.1 KR4.out.lt (by omega)
    go_simp) RS0 ?_
 refine Zq 10 w.heap.size 4 RS0 ?_
 refine Zl 11 (.int .i64 r.n) rfl (fun w9 hS => by
    have y4 : w9.cell? ⟨w.heap.size, 4, none⟩ = some (.int .i64 r.n) := zai (KR4.out.cell 4) hS.1 KR4.out.lt (by omega)
    go_simp) RS0 ?_
 refine tk 12 (.agg #[.int .i64 4, s.now, r.a, r.n, (), (), (), (), .bool false]) RS0 ?_
 refine Zc 13 145 #[.pointer (some ⟨b, 0, none⟩), .slice a2 n2 c2, (), .agg #[.int .i64 4, s.now, r.a, r.n, (), (), (), (), .bool false]] (zcv w4.heap.size b s ⟨ap, np, cp, al, nl, cl, ah, nh, ch⟩ 0 0 a2 n2 c2 l2 ⟨4, s.now, r.a, r.n, 0, Y.zp⟩ _ ((⟨HO4.out.k, HO4.out.i, HO4.out.k.lt, Nat.le_refl _⟩ : Y.W0 w4 w4.heap.size b s ⟨ap, np, cp, al, nl, cl, ah, nh, ch⟩ 0 0).below (zaa w4)) (HQ4.out.below (zaa w4))) ?_
 rintro e w5 ⟨rfl, v2, hf, hk⟩
 refine Zu (⟨(And.left RS0).t hk, hf.k.cell 12⟩) fun RS1 => ?_
 refine wpAnyH_done (by kernel_rfl) ?_ _
 have HF := Zh hf
 have HB5 := Zh (KpL.to_below (HB4.out.mono HH0.out) (And.left RS1) (Nat.le_trans HH0.out HB4.out.size) HW.out.h0)
 clear hf hk
 go_wp2
 first | go_end0 | skip
 exact Y.Ends.yes (by first | rfl | (unfold Y.ofPools; rw [HRES.out]; rfl)) HB5.out HF.out ⟨HUP.out, HW.out.up.2⟩ (.inr (Y.ev1 (show (4 : Int) ≠ 0 by decide)))
theorem zjh (H0 b : Nat) (s : Y.St) (A : Y.A9) (r : Y.Rq) (w : World) (ho : Y.Own3 w H0 b s A) (hm : Y.May s) (fb : s.d.b <= 9223372036854775807) (fc : s.d.c <= 9223372036854775807) :
  Calls Tryz.prog 87 #[.pointer (some ⟨b, 0, none⟩), Y.rval r] w fun e w' => Y.Ends w H0 b (Y.ofPools s (O.size s.ps (E.no s.d) r.a r.n (L.busy s.l)) ⟨4, s.now, r.a, r.n, 0, Y.zp⟩) e w' := by
 by_cases he : (O.size s.ps (E.no s.d) r.a r.n (L.busy s.l)).2 = 0
 ·exact zjg H0 b s A r w ho hm fb fc he
 ·exact zkx H0 b s A r w ho hm fb fc he
theorem zky (H0 b : Nat) (s : Y.St) (A : Y.A9) (r : Y.Rq) (w : World) (ho : Y.Own3 w H0 b s A) (hm : Y.May s) (fb : s.d.b <= 9223372036854775807) (fc : s.d.c <= 9223372036854775807) (he : (O.gone s.ps (E.no s.d) r.n (L.busy s.l)).2 ≠ 0) :
  Calls Tryz.prog 88 #[.pointer (some ⟨b, 0, none⟩), Y.rval r] w fun e w' => Y.Ends w H0 b (Y.ofPools s (O.gone s.ps (E.no s.d) r.n (L.busy s.l)) ⟨5, s.now, r.n, 0, 0, Y.zp⟩) e w' := by
 have hff := ho.fits hm fb fc
 have hbl := ho.k.lt
 have HH0 : Hid (H0 <= w.heap.size) := Zh (by have := ho.h0; omega)
 obtain ⟨ap, np, cp, al, nl, cl, ah, nh, ch⟩ := A
 have hnp : np <= 600 := hff.p
 have hnl : nl <= 600 := hff.l
 have hnh : nh <= 600 := hff.h
 have HM := Zh hm
 have HFF := Zh hff
 have HW := Zh ho
 have HB0 := Zh (Below.refl w.heap.size w)
 have HO0 := Zh (ho)
 have HS0 := Zh (ho.win (H := w.heap.size) ho.k.lt (Nat.le_refl _))
 clear ho hm hff
 unfold Y.rval
 obtain ⟨w1, hw1, hb, hk⟩ := Zn w 34 #[r.k, r.s, r.a, r.b, r.n, r.p.q, r.p.i, r.p.h, r.p.pair]
 replace HO0 := Zh (HO0.out.below hb)
 replace HS0 := Zh (HS0.out.below hb)
 replace HB0 := Zt HB0 hb
 have KR1 := Zh hk
 clear hb hk
 obtain ⟨no, hno⟩ : ∃ v, E.no s.d = v := ⟨_, rfl⟩
 obtain ⟨l2, er, hres⟩ : ∃ l e, O.gone s.ps (E.no s.d) r.n (L.busy s.l) = (l, e) := ⟨_, _, rfl⟩
 have HRES := Zh hres
 rw [hno] at hres
 obtain ⟨n2, hn2⟩ : ∃ n, l2.length = n := ⟨_, rfl⟩
 have hsm := HFF.out.sm
 obtain ⟨bu, hbu⟩ : ∃ v, L.busy s.l = v := ⟨_, rfl⟩
 rw [hbu] at hres
 have hbw := Y.busy_wf HM.out
 rw [hbu] at hbw
 have hbul : bu.length <= nl := by rw [<- hbu]; have := L.busy_len s.l; have h2 : s.l.length = nl := HW.out.nl; omega
 have her : er ≠ 0 := by rw [HRES.out] at he; exact he
 clear he
 go_enter Tryz.func88, Tryz.ntmps88
 go_wp2_with fail
 try rw [hw1]
 clear hw1
 refine Zd (fun w' => Below w1.heap.size w1 w') (zaa w1) fun RS0 => ?_
 refine Zq 0 b 0 RS0 ?_
 refine Zq 1 b 0 RS0 ?_
 refine Zq 2 b 0 RS0 ?_
 refine Zq 3 b 13 RS0 ?_
 refine Zl 4 (.slice ap np cp) rfl (fun w9 hS => by
    have y13 := Zv (HO0.out.k.below hS HO0.out.k.lt) 13 (.slice ap np cp)
    go_simp) RS0 ?_
 refine Zq 5 b 0 RS0 ?_
 refine Zq 6 b 0 RS0 ?_
 refine Zq 7 b 0 RS0 ?_
 refine Zq 8 b 0 RS0 ?_
 refine Zl 9 (.agg #[s.d.b, s.d.k, s.d.c, s.d.j, s.d.lo, s.d.hi, s.d.dy, s.d.bl]) rfl (fun w9 hS => by
    have q := HO0.out.k.below hS HO0.out.k.lt
    have y0 := Zv q 0 (.int .i64 s.d.b)
    have y1 := Zv q 1 (.int .i64 s.d.k)
    have y2 := Zv q 2 (.int .i64 s.d.c)
    have y3 := Zv q 3 (.int .i64 s.d.j)
    have y4 := Zv q 4 (.int .i64 s.d.lo)
    have y5 := Zv q 5 (.int .i64 s.d.hi)
    have y6 := Zv q 6 (.int .i64 s.d.dy)
    have y7 := Zv q 7 (.int .i64 s.d.bl)
    go_simp) RS0 ?_
 refine Zq 11 w.heap.size 4 RS0 ?_
 refine Zl 12 (.int .i64 r.n) rfl (fun w9 hS => by
    have y4 := Zv (KR1.out.below hS KR1.out.lt) 4 (.int .i64 r.n)
    go_simp) RS0 ?_
 refine Zq 13 b 0 RS0 ?_
 refine Zq 14 b 0 RS0 ?_
 refine Zq 15 b 0 RS0 ?_
 refine Zq 16 b 14 RS0 ?_
 refine Zl 17 (.slice al nl cl) rfl (fun w9 hS => by
    have y14 := Zv (HO0.out.k.below hS HO0.out.k.lt) 14 (.slice al nl cl)
    go_simp) RS0 ?_
 refine Zc 10 57 #[.agg #[s.d.b, s.d.k, s.d.c, s.d.j, s.d.lo, s.d.hi, s.d.dy, s.d.bl]] (za3 s.d no hno _) ?_
 rintro e w2 ⟨rfl, hb⟩
 refine Zu (Zr RS0 hb) fun RS1 => ?_
 refine Zc 18 148 #[.slice al nl cl] (zdc al nl cl s.l bu hbu _ ((HO0.out.i.l : RIn w1 al nl cl s.l).below RS1) (by omega)) ?_
 rintro e w3 ⟨ab, cb, rfl, hrb, hb⟩
 refine Zu (Zr RS1 hb) fun RS2 => ?_
 refine Zc 19 149 #[.slice ap np cp, no, r.n, .slice ab bu.length cb] (ziy ap np cp s.ps no r.n ab bu.length cb bu l2 n2 er _ ((HO0.out.i.p : QIn w1 ap np cp s.ps).below RS2) (by omega) hsm (zg2 hrb.out hbw) (by omega) hres hn2) ?_
 rintro e w4 ⟨a2, c2, rfl, hq, hb⟩
 refine Zu (Zr RS2 hb) fun RS3 => ?_
 refine tk 20 (.tuple #[.slice a2 n2 c2, er]) RS3 ?_
 refine tk 21 (.slice a2 n2 c2) RS3 ?_
 refine tk 22 (.int .i64 er) RS3 ?_
 refine tk 23 (.slice a2 n2 c2) RS3 ?_
 refine tk 24 (.int .i64 er) RS3 ?_
 refine wpAnyH_done (by kernel_rfl) ?_ _
 have hB4 : Below w1.heap.size w1 w4 := RS3
 have HQ4 := Zh hq.out.1
 have HUP : Hid (∀ q, a2 = some q -> H0 <= q.block) := Zh (fun q hq' => Nat.le_trans HH0.out (Nat.le_trans HB0.out.size (Nat.le_trans (Below.size RS2) (hq.out.2 q hq'))))
 have HO4 := Zh (HO0.out.below hB4)
 have KR4 := Zh (KR1.out.below hB4 KR1.out.lt)
 have HB4 := Zt HB0 hB4
 clear hB4 hq hb
 go_wp2_with fail
 refine Zd (fun w' => KpL w4.heap.size b w4 w' /\ w'.cell? ⟨b, 12, none⟩ = some (.int .i64 s.now)) (⟨KpL.of_below (zaa w4) (Nat.le_refl _), HO4.out.k.cell 12⟩) fun RS0 => ?_
 refine Zq 0 b 0 RS0 ?_
 refine tk 1 (.slice a2 n2 c2) RS0 ?_
 refine tk 2 (.int .i64 er) RS0 ?_
 refine Zq 3 b 0 RS0 ?_
 refine Zq 4 b 0 RS0 ?_
 refine Zq 5 b 0 RS0 ?_
 refine Zq 6 b 12 RS0 ?_
 refine Zl 7 (.int .i64 s.now) rfl (fun w9 hS => by
    have y12 := hS.2
    go_simp) RS0 ?_
 refine Zq 8 w.heap.size 4 RS0 ?_
 refine Zl 9 (.int .i64 r.n) rfl (fun w9 hS => by
    have y4 : w9.cell? ⟨w.heap.size, 4, none⟩ = some (.int .i64 r.n) := zai (KR4.out.cell 4) hS.1 KR4.out.lt (by omega)
    go_simp) RS0 ?_
 refine tk 10 (.agg #[.int .i64 5, s.now, r.n, (), (), (), (), (), .bool false]) RS0 ?_
 refine zaj (i := 11) (f := 145) (args := #[.pointer (some ⟨b, 0, none⟩), .slice a2 n2 c2, er, .agg #[.int .i64 5, s.now, r.n, (), (), (), (), (), .bool false]]) (by kernel_rfl) rfl (by kernel_rfl) (by kernel_rfl) (zdf w4.heap.size b s ⟨ap, np, cp, al, nl, cl, ah, nh, ch⟩ 0 0 a2 n2 c2 l2 er ⟨5, s.now, r.n, 0, 0, Y.zp⟩ _ ((⟨HO4.out.k, HO4.out.i, HO4.out.k.lt, Nat.le_refl _⟩ : Y.W0 w4 w4.heap.size b s ⟨ap, np, cp, al, nl, cl, ah, nh, ch⟩ 0 0).below (zaa w4)) (HQ4.out.below (zaa w4)) her) ?_
 rintro e w5 ⟨rfl, hb⟩
 refine ⟨_, rfl, ?_⟩
 exact ⟨rfl, Y.Ends.no (by unfold Y.ofPools; rw [HRES.out, if_neg her]) her ((HB4.out.trans (((zaa w4).trans hb).mono HB4.out.size)).mono HH0.out)⟩
theorem zji (H0 b : Nat) (s : Y.St) (A : Y.A9) (r : Y.Rq) (w : World) (ho : Y.Own3 w H0 b s A) (hm : Y.May s) (fb : s.d.b <= 9223372036854775807) (fc : s.d.c <= 9223372036854775807) (he : (O.gone s.ps (E.no s.d) r.n (L.busy s.l)).2 = 0) :
  Calls Tryz.prog 88 #[.pointer (some ⟨b, 0, none⟩), Y.rval r] w fun e w' => Y.Ends w H0 b (Y.ofPools s (O.gone s.ps (E.no s.d) r.n (L.busy s.l)) ⟨5, s.now, r.n, 0, 0, Y.zp⟩) e w' := by
 have hff := ho.fits hm fb fc
 have hbl := ho.k.lt
 have HH0 : Hid (H0 <= w.heap.size) := Zh (by have := ho.h0; omega)
 obtain ⟨ap, np, cp, al, nl, cl, ah, nh, ch⟩ := A
 have hnp : np <= 600 := hff.p
 have hnl : nl <= 600 := hff.l
 have hnh : nh <= 600 := hff.h
 have HM := Zh hm
 have HFF := Zh hff
 have HW := Zh ho
 have HB0 := Zh (Below.refl w.heap.size w)
 have HO0 := Zh (ho)
 have HS0 := Zh (ho.win (H := w.heap.size) ho.k.lt (Nat.le_refl _))
 clear ho hm hff
 unfold Y.rval
 obtain ⟨w1, hw1, hb, hk⟩ := Zn w 34 #[r.k, r.s, r.a, r.b, r.n, r.p.q, r.p.i, r.p.h, r.p.pair]
 replace HO0 := Zh (HO0.out.below hb)
 replace HS0 := Zh (HS0.out.below hb)
 replace HB0 := Zt HB0 hb
 have KR1 := Zh hk
 clear hb hk
 obtain ⟨no, hno⟩ : ∃ v, E.no s.d = v := ⟨_, rfl⟩
 obtain ⟨l2, er, hres⟩ : ∃ l e, O.gone s.ps (E.no s.d) r.n (L.busy s.l) = (l, e) := ⟨_, _, rfl⟩
 have HRES := Zh hres
 rw [hno] at hres
 obtain ⟨n2, hn2⟩ : ∃ n, l2.length = n := ⟨_, rfl⟩
 have hsm := HFF.out.sm
 obtain ⟨bu, hbu⟩ : ∃ v, L.busy s.l = v := ⟨_, rfl⟩
 rw [hbu] at hres
 have hbw := Y.busy_wf HM.out
 rw [hbu] at hbw
 have hbul : bu.length <= nl := by rw [<- hbu]; have := L.busy_len s.l; have h2 : s.l.length = nl := HW.out.nl; omega
 obtain rfl : er = 0 := by rw [HRES.out] at he; exact he
 clear he
 go_enter Tryz.func88, Tryz.ntmps88
 go_wp2_with fail
 try rw [hw1]
 clear hw1
 refine Zd (fun w' => Below w1.heap.size w1 w') (zaa w1) fun RS0 => ?_
 refine Zq 0 b 0 RS0 ?_
 refine Zq 1 b 0 RS0 ?_
 refine Zq 2 b 0 RS0 ?_
 refine Zq 3 b 13 RS0 ?_
 refine Zl 4 (.slice ap np cp) rfl (fun w9 hS => by
    have y13 := Zv (HO0.out.k.below hS HO0.out.k.lt) 13 (.slice ap np cp)
    go_simp) RS0 ?_
 refine Zq 5 b 0 RS0 ?_
 refine Zq 6 b 0 RS0 ?_
 refine Zq 7 b 0 RS0 ?_
 refine Zq 8 b 0 RS0 ?_
 refine Zl 9 (.agg #[s.d.b, s.d.k, s.d.c, s.d.j, s.d.lo, s.d.hi, s.d.dy, s.d.bl]) rfl (fun w9 hS => by
    have q := HO0.out.k.below hS HO0.out.k.lt
    have y0 := Zv q 0 (.int .i64 s.d.b)
    have y1 := Zv q 1 (.int .i64 s.d.k)
    have y2 := Zv q 2 (.int .i64 s.d.c)
    have y3 := Zv q 3 (.int .i64 s.d.j)
    have y4 := Zv q 4 (.int .i64 s.d.lo)
    have y5 := Zv q 5 (.int .i64 s.d.hi)
    have y6 := Zv q 6 (.int .i64 s.d.dy)
    have y7 := Zv q 7 (.int .i64 s.d.bl)
    go_simp) RS0 ?_
 refine Zq 11 w.heap.size 4 RS0 ?_
 refine Zl 12 (.int .i64 r.n) rfl (fun w9 hS => by
    have y4 := Zv (KR1.out.below hS KR1.out.lt) 4 (.int .i64 r.n)
    go_simp) RS0 ?_
 refine Zq 13 b 0 RS0 ?_
 refine Zq 14 b 0 RS0 ?_
 refine Zq 15 b 0 RS0 ?_
 refine Zq 16 b 14 RS0 ?_
 refine Zl 17 (.slice al nl cl) rfl (fun w9 hS => by
    have y14 := Zv (HO0.out.k.below hS HO0.out.k.lt) 14 (.slice al nl cl)
    go_simp) RS0 ?_
 refine Zc 10 57 #[.agg #[s.d.b, s.d.k, s.d.c, s.d.j, s.d.lo, s.d.hi, s.d.dy, s.d.bl]] (za3 s.d no hno _) ?_
 rintro e w2 ⟨rfl, hb⟩
 refine Zu (Zr RS0 hb) fun RS1 => ?_
 refine Zc 18 148 #[.slice al nl cl] (zdc al nl cl s.l bu hbu _ ((HO0.out.i.l : RIn w1 al nl cl s.l).below RS1) (by omega)) ?_
 rintro e w3 ⟨ab, cb, rfl, hrb, hb⟩
 refine Zu (Zr RS1 hb) fun RS2 => ?_
 refine Zc 19 149 #[.slice ap np cp, no, r.n, .slice ab bu.length cb] (ziy ap np cp s.ps no r.n ab bu.length cb bu l2 n2 0 _ ((HO0.out.i.p : QIn w1 ap np cp s.ps).below RS2) (by omega) hsm (zg2 hrb.out hbw) (by omega) hres hn2) ?_
 rintro e w4 ⟨a2, c2, rfl, hq, hb⟩
 refine Zu (Zr RS2 hb) fun RS3 => ?_
 refine tk 20 (.tuple #[.slice a2 n2 c2, ()]) RS3 ?_
 refine tk 21 (.slice a2 n2 c2) RS3 ?_
 refine tk 22 (.int .i64 0) RS3 ?_
 refine tk 23 (.slice a2 n2 c2) RS3 ?_
 refine tk 24 (.int .i64 0) RS3 ?_
 refine wpAnyH_done (by kernel_rfl) ?_ _
 have hB4 : Below w1.heap.size w1 w4 := RS3
 have HQ4 := Zh hq.out.1
 have HUP : Hid (∀ q, a2 = some q -> H0 <= q.block) := Zh (fun q hq' => Nat.le_trans HH0.out (Nat.le_trans HB0.out.size (Nat.le_trans (Below.size RS2) (hq.out.2 q hq'))))
 have HO4 := Zh (HO0.out.below hB4)
 have KR4 := Zh (KR1.out.below hB4 KR1.out.lt)
 have HB4 := Zt HB0 hB4
 clear hB4 hq hb
 go_wp2_with fail
 refine Zd (fun w' => KpL w4.heap.size b w4 w' /\ w'.cell? ⟨b, 12, none⟩ = some (.int .i64 s.now)) (⟨KpL.of_below (zaa w4) (Nat.le_refl _), HO4.out.k.cell 12⟩) fun RS0 => ?_
 refine Zq 0 b 0 RS0 ?_
 refine tk 1 (.slice a2 n2 c2) RS0 ?_
 refine tk 2 (.int .i64 0) RS0 ?_
 refine Zq 3 b 0 RS0 ?_
 refine Zq 4 b 0 RS0 ?_
 refine Zq 5 b 0 RS0 ?_
 refine Zq 6 b 12 RS0 ?_
 refine Zl 7 (.int .i64 s.now) rfl (fun w9 hS => by
    have y12 := hS.2
    go_simp) RS0 ?_
 refine Zq 8 w.heap.size 4 RS0 ?_
 refine Zl 9 (.int .i64 r.n) rfl (fun w9 hS => by
    have y4 : w9.cell? ⟨w.heap.size, 4, none⟩ = some (.int .i64 r.n) := zai (KR4.out.cell 4) hS.1 KR4.out.lt (by omega)
    go_simp) RS0 ?_
 refine tk 10 (.agg #[.int .i64 5, s.now, r.n, (), (), (), (), (), .bool false]) RS0 ?_
 refine Zc 11 145 #[.pointer (some ⟨b, 0, none⟩), .slice a2 n2 c2, (), .agg #[.int .i64 5, s.now, r.n, (), (), (), (), (), .bool false]] (zcv w4.heap.size b s ⟨ap, np, cp, al, nl, cl, ah, nh, ch⟩ 0 0 a2 n2 c2 l2 ⟨5, s.now, r.n, 0, 0, Y.zp⟩ _ ((⟨HO4.out.k, HO4.out.i, HO4.out.k.lt, Nat.le_refl _⟩ : Y.W0 w4 w4.heap.size b s ⟨ap, np, cp, al, nl, cl, ah, nh, ch⟩ 0 0).below (zaa w4)) (HQ4.out.below (zaa w4))) ?_
 rintro e w5 ⟨rfl, v2, hf, hk⟩
 refine Zu (⟨(And.left RS0).t hk, hf.k.cell 12⟩) fun RS1 => ?_
 refine wpAnyH_done (by kernel_rfl) ?_ _
 have HF := Zh hf
 have HB5 := Zh (KpL.to_below (HB4.out.mono HH0.out) (And.left RS1) (Nat.le_trans HH0.out HB4.out.size) HW.out.h0)
 clear hf hk
 go_wp2
 first | go_end0 | skip
 exact Y.Ends.yes (by first | rfl | (unfold Y.ofPools; rw [HRES.out]; rfl)) HB5.out HF.out ⟨HUP.out, HW.out.up.2⟩ (.inr (Y.ev1 (show (5 : Int) ≠ 0 by decide)))
theorem zjj (H0 b : Nat) (s : Y.St) (A : Y.A9) (r : Y.Rq) (w : World) (ho : Y.Own3 w H0 b s A) (hm : Y.May s) (fb : s.d.b <= 9223372036854775807) (fc : s.d.c <= 9223372036854775807) :
  Calls Tryz.prog 88 #[.pointer (some ⟨b, 0, none⟩), Y.rval r] w fun e w' => Y.Ends w H0 b (Y.ofPools s (O.gone s.ps (E.no s.d) r.n (L.busy s.l)) ⟨5, s.now, r.n, 0, 0, Y.zp⟩) e w' := by
 by_cases he : (O.gone s.ps (E.no s.d) r.n (L.busy s.l)).2 = 0
 ·exact zji H0 b s A r w ho hm fb fc he
 ·exact zky H0 b s A r w ho hm fb fc he
end Go.Proofs.YtonejangijkdmaaGreat
