import Derived.Test.YtonejangijkdmaaGreatQI
import Derived.Test.YtonejangijkdmaaGreatQYPA
import Derived.Test.YtonejangijkdmaaGreatQYG
namespace Go.Proofs.YtonejangijkdmaaGreat
set_option maxHeartbeats 2000000
set_option maxRecDepth 100000
open Go.RowKit
theorem zhr (H0 b : Nat) (s : Y.St) (A : Y.A9) (r : Y.Rq) (w : World) (ho : Y.Own3 w H0 b s A) (hm : Y.May s) (fb : s.d.b <= 9223372036854775807) (fc : s.d.c <= 9223372036854775807) (h1 : E.baseB s.d r.s = true) (h2 : ¬ s.p.q <= (Y.cnt s.l r.s : Nat)) (at' bk : Int) (h3 : Y.pk s (E.baseA s.d r.s) = (0, at', bk)) (hbk : ¬ bk = -1) :
  Calls Tryz.prog 81 #[.pointer (some ⟨b, 0, none⟩), Y.rval r] w fun e w' => Y.Ends w H0 b (Y.grant s r.s) e w' := by
 have hff := ho.fits hm fb fc
 have hbl := ho.k.lt
 have HH0 : Hid (H0 <= w.heap.size) := Zh (by have := ho.h0; omega)
 obtain ⟨ap, np, cp, al, nl, cl, ah, nh, ch⟩ := A
 have hnp : np <= 600 := hff.p
 have hnl : nl <= 600 := hff.l
 have hnh : nh <= 600 := hff.h
 have HM := Zh hm
 have HFF := Zh hff
 have HW := Zh ho
 have HB0 := Zh (Below.refl w.heap.size w)
 have HO0 := Zh (ho)
 have HS0 := Zh (ho.win (H := w.heap.size) ho.k.lt (Nat.le_refl _))
 clear ho hm hff
 unfold Y.rval
 obtain ⟨w1, hw1, hb, hk⟩ := Zn w 34 #[r.k, r.s, r.a, r.b, r.n, r.p.q, r.p.i, r.p.h, r.p.pair]
 have HO1 := Zh (HO0.out.below hb)
 replace HS0 := Zh (HS0.out.below hb)
 have HB1 := Zt HB0 hb
 have KR1 := Zh hk
 clear hb hk HO0 HB0
 have HGP := Zh (Y.grant_pk s r.s)
 obtain ⟨ba, hba⟩ : ∃ v, E.baseA s.d r.s = v := ⟨_, rfl⟩
 obtain ⟨bf, hbf⟩ : ∃ v, E.baseF s.d r.s = v := ⟨_, rfl⟩
 obtain ⟨bt, hbt⟩ : ∃ v, E.baseT s.d r.s = v := ⟨_, rfl⟩
 rw [hba] at HGP
 have cb := fun W => zcb s.d r.s ba bf bt true W h1 hba hbf hbt fb fc
 clear hbf hbt
 have HQ := Zh h2
 clear h2
 rw [hba] at h3
 have HPK := Zh h3
 clear h3
 clear hba
 have HBK := Zh hbk
 clear hbk
 go_enter Tryz.func81, Tryz.ntmps81
 go_wp2_with fail
 try rw [hw1]
 clear hw1
 refine Zd (fun w' => Below w1.heap.size w1 w') (zaa w1) fun RS0 => ?_
 refine Zq 0 b 0 RS0 ?_
 refine Zq 1 b 0 RS0 ?_
 refine Zq 2 b 0 RS0 ?_
 refine Zq 3 b 0 RS0 ?_
 refine Zl 4 (.agg #[s.d.b, s.d.k, s.d.c, s.d.j, s.d.lo, s.d.hi, s.d.dy, s.d.bl]) rfl (fun w9 hS => by
    have q := HO1.out.k.below hS HO1.out.k.lt
    have y0 := Zv q 0 (.int .i64 s.d.b)
    have y1 := Zv q 1 (.int .i64 s.d.k)
    have y2 := Zv q 2 (.int .i64 s.d.c)
    have y3 := Zv q 3 (.int .i64 s.d.j)
    have y4 := Zv q 4 (.int .i64 s.d.lo)
    have y5 := Zv q 5 (.int .i64 s.d.hi)
    have y6 := Zv q 6 (.int .i64 s.d.dy)
    have y7 := Zv q 7 (.int .i64 s.d.bl)
    go_simp) RS0 ?_
 refine Zq 5 w.heap.size 1 RS0 ?_
 refine Zl 6 (.int .i64 r.s) rfl (fun w9 hS => by
    have y1 := Zv (KR1.out.below hS KR1.out.lt) 1 (.int .i64 r.s)
    go_simp) RS0 ?_
 refine za8 (i := 7) (j := 11) (by kernel_rfl) ?_ ?_
 ·skip
  refine zbo (f := 27) (args := #[.agg #[s.d.b, s.d.k, s.d.c, s.d.j, s.d.lo, s.d.hi, s.d.dy, s.d.bl], r.s]) rfl (by kernel_rfl) (by kernel_rfl) (cb _) ?_
  rintro e w2 ⟨rfl, hb⟩
  refine Zu (Zr RS0 hb) fun RS1 => ?_
  refine tk 8 (.tuple #[.agg #[ba, bf, bt], .bool true]) RS1 ?_
  refine tk 9 (.agg #[ba, bf, bt]) RS1 ?_
  refine tk 10 (.bool true) RS1 ?_
  have RA : (fun w' => Below w1.heap.size w1 w') (w2.alloc (.cells #[(), (), ()] 54)) := Below.alloc RS1 (Below.size RS1) _
  refine zaf (i := 11) (by kernel_rfl) (zam (v := .pointer (some ⟨w2.heap.size, 0, none⟩)) (w' := w2.alloc (.cells #[(), (), ()] 54)) rfl (by kernel_rfl) (by kernel_rfl) ⟨RA, ?_⟩)
  have KA : Blok (w2.alloc (.cells #[(), (), ()] 54)) w2.heap.size 54 #[(), (), ()] := Blok.new w2 _ _
  obtain ⟨sb, hsb⟩ : ∃ n, w2.heap.size = n := ⟨_, rfl⟩
  have hsbw : w1.heap.size <= sb := by rw [<- hsb]; exact Below.size RS1
  obtain ⟨w3, hw3⟩ : ∃ W, w2.alloc (.cells #[(), (), ()] 54) = W := ⟨_, rfl⟩
  rw [hsb, hw3] at KA
  rw [hw3] at RA
  rw [hsb, hw3]
  clear hw3
  have z0 := (Y.cb3 KA).1
  have z1 := (Y.cb3 KA).2.1
  have z2 := (Y.cb3 KA).2.2
  have zf0 := KA.frozen 0
  have zf1 := KA.frozen 1
  have zf2 := KA.frozen 2
  have RS2 : (fun w' => Below w1.heap.size w1 w') (((w3.setCell ⟨sb, 0, none⟩ (.int .i64 ba)).setCell ⟨sb, 1, none⟩ (.int .i64 bf)).setCell ⟨sb, 2, none⟩ (.int .i64 bt)) := Y.below3 RA hsbw _ _ _
  refine zaf (i := 12) (by kernel_rfl) (zah (w' := ((w3.setCell ⟨sb, 0, none⟩ (.int .i64 ba)).setCell ⟨sb, 1, none⟩ (.int .i64 bf)).setCell ⟨sb, 2, none⟩ (.int .i64 bt)) rfl (by kernel_rfl) (by go_simp) ⟨RS2, ?_⟩)
  refine tk 13 (.bool true) RS2 ?_
  refine wpAnyH_done (by kernel_rfl) ?_ _
  have KB4 := Zh (Y.set3b KA ba bf bt)
  have hb4 : Below w1.heap.size w1 (((w3.setCell ⟨sb, 0, none⟩ (.int .i64 ba)).setCell ⟨sb, 1, none⟩ (.int .i64 bf)).setCell ⟨sb, 2, none⟩ (.int .i64 bt)) := RS2
  obtain ⟨w4, hw4⟩ : ∃ W, ((w3.setCell ⟨sb, 0, none⟩ (.int .i64 ba)).setCell ⟨sb, 1, none⟩ (.int .i64 bf)).setCell ⟨sb, 2, none⟩ (.int .i64 bt) = W := ⟨_, rfl⟩
  rw [hw4] at KB4 hb4 ⊢
  clear hw4 KA z0 z1 z2 zf0 zf1 zf2 cb
  have HO4 := Zh (HO1.out.below hb4)
  have KR4 := Zh (KR1.out.below hb4 KR1.out.lt)
  have HB4 := Zt HB1 hb4
  clear hb4
  go_wp2_with fail
  refine (zag 5 _).mono ?_
  rintro e w5 ⟨rfl, hb⟩
  have HO5 := Zh (HO4.out.below hb)
  have KR5 := Zk KR4 hb
  replace KB4 := Zk KB4 hb
  have HB5 := Zt HB4 hb
  clear hb HO4 KR4 HB4
  obtain ⟨k, hk⟩ : ∃ k, L.of s.l r.s = k := ⟨_, rfl⟩
  have HK := Zh hk
  clear hk
  go_wp2_with fail
  refine Zd (fun w' => Below w5.heap.size w5 w') (zaa w5) fun RS0 => ?_
  refine Zq 0 b 0 RS0 ?_
  refine Zq 1 b 0 RS0 ?_
  refine Zq 2 b 0 RS0 ?_
  refine Zq 3 b 14 RS0 ?_
  refine Zl 4 (.slice al nl cl) rfl (fun w9 hS => by
     have y14 := Zv (HO5.out.k.below hS HO5.out.k.lt) 14 (.slice al nl cl)
     go_simp) RS0 ?_
  refine Zq 5 w.heap.size 1 RS0 ?_
  refine Zl 6 (.int .i64 r.s) rfl (fun w9 hS => by
     have y1 := Zv (KR5.out.below hS KR5.out.lt) 1 (.int .i64 r.s)
     go_simp) RS0 ?_
  refine Zq 9 b 0 RS0 ?_
  refine Zq 10 b 0 RS0 ?_
  refine Zq 11 b 0 RS0 ?_
  refine Zq 12 b 8 RS0 ?_
  refine Zq 13 b 8 RS0 ?_
  refine Zl 14 (.int .i64 s.p.q) rfl (fun w9 hS => by
     have y8 := Zv (HO5.out.k.below hS HO5.out.k.lt) 8 (.int .i64 s.p.q)
     go_simp) RS0 ?_
  refine Zc 7 29 #[.slice al nl cl, r.s] (zcp al nl cl s.l r.s k HK.out _ ((HO5.out.i.l : RIn w5 al nl cl s.l).below RS0) (by omega)) ?_
  rintro e w6 ⟨a5, c5, n5, rfl, hn5, -, hb⟩
  refine Zu (Zr RS0 hb) fun RS1 => ?_
  have HC : Hid ((n5 : Int) = (Y.cnt s.l r.s : Nat)) := Zh (by have := hn5.out; rw [<- this, <- HK.out, Y.of_len])
  clear hn5
  refine tk 8 (.int .i64 n5) RS1 ?_
  have d7 : decide ((n5 : Int) < s.p.q) = true := decide_eq_true (by rw [HC.out]; have := HQ.out; omega)
  refine wpAnyH_take (i := 15) (v := .bool true) rfl (by kernel_rfl) (by kernel_rfl) (by kernel_rfl) (fun _ _ _ h => h) (.inl ⟨by kernel_rfl, fun w9 hS => by go_simp⟩) RS1 ?_
  refine Zc 16 39 #[.bool true, .int .i64 6] (zag 6 _) ?_
  rintro e w7 ⟨rfl, hb⟩
  refine Zu (Zr RS1 hb) fun RS2 => ?_
  refine wpAnyH_done (by kernel_rfl) ?_ _
  have hb7 : Below w5.heap.size w5 w7 := RS2
  have HO7 := Zh (HO5.out.below hb7)
  have KR7 := Zh (KR5.out.below hb7 KR5.out.lt)
  have KB7 := Zh (KB4.out.below hb7 KB4.out.lt)
  have HB7 := Zt HB5 hb7
  clear hb7
  have s0 := (Y.cb3 KB7.out).1
  go_wp2_with fail
  refine (zdg w7.heap.size b s ⟨ap, np, cp, al, nl, cl, ah, nh, ch⟩ [] (.slice none 0 0) 0 0 ba w7 (HO7.out.win HO7.out.k.lt (Nat.le_refl _)) HM.out HFF.out at' bk HPK.out).mono ?_
  clear s0
  rintro e w8 ⟨rfl, hb⟩
  have HO8 := Zh (HO7.out.below hb)
  have KR8 := Zk KR7 hb
  have HB8 := Zt HB7 hb
  clear hb
  have HBQ : Hid (b < w8.heap.size) := Zh HO8.out.k.lt
  obtain ⟨w9, hw9, hb, hk⟩ := Zn w8 140 #[at', bk]
  have HO9 := Zh (HO8.out.below hb)
  have KR9 := Zk KR8 hb
  have HB9 := Zt HB8 hb
  have KQ9 := Zh hk
  clear hb hk HO8 KR8 HB8
  have q1 := (Y.cb2 KQ9.out).2
  have e1 : (bk != -1) = true := by simpa using HBK.out
  go_wp2_with fail
  try rw [hw9]
  refine (zag 7 _).mono ?_
  clear q1 e1 hw9
  rintro e w10 ⟨rfl, hb⟩
  have HO10 := Zh (HO9.out.below hb)
  have KR10 := Zk KR9 hb
  have KQ10 := Zk KQ9 hb
  have HB10 := Zt HB9 hb
  clear hb
  obtain ⟨l2, bb, hpu⟩ : ∃ l b, L.put s.l ⟨r.s, at', bk, s.now, s.now⟩ = (l, b) := ⟨_, _, rfl⟩
  obtain ⟨n2, hn2⟩ : ∃ n, l2.length = n := ⟨_, rfl⟩
  go_wp2_with fail
  refine Zd (fun w' => (Blok w' w.heap.size 34 #[r.k, r.s, r.a, r.b, r.n, r.p.q, r.p.i, r.p.h, r.p.pair] /\ Blok w' w8.heap.size 140 #[at', bk]) /\ w'.cell? ⟨b, 12, none⟩ = some (.int .i64 s.now)) (⟨⟨KR10.out.drew, KQ10.out.drew⟩, HO10.out.k.cell 12⟩) fun RS0 => ?_
  refine Zq 0 b 0 RS0 ?_
  refine Zq 1 b 0 RS0 ?_
  refine Zq 2 b 0 RS0 ?_
  refine Zq 3 b 0 RS0 ?_
  refine Zq 4 b 14 RS0 ?_
  refine Zq 6 w.heap.size 1 RS0 ?_
  refine Zl 7 (.int .i64 r.s) rfl (fun w9 hS => by
     have y1 := Zv hS.1.1 1 (.int .i64 r.s)
     go_simp) RS0 ?_
  refine Zq 8 w8.heap.size 0 RS0 ?_
  refine Zl 9 (.int .i64 at') rfl (fun w9 hS => by
     have y0 := Zv hS.1.2 0 (.int .i64 at')
     go_simp) RS0 ?_
  refine Zq 10 w8.heap.size 1 RS0 ?_
  refine Zl 11 (.int .i64 bk) rfl (fun w9 hS => by
     have y1 := Zv hS.1.2 1 (.int .i64 bk)
     go_simp) RS0 ?_
  refine Zq 12 b 0 RS0 ?_
  refine Zq 13 b 0 RS0 ?_
  refine Zq 14 b 0 RS0 ?_
  refine Zq 15 b 12 RS0 ?_
  refine Zl 16 (.int .i64 s.now) rfl (fun w9 hS => by
     have y12 := hS.2
     go_simp) RS0 ?_
  refine Zq 17 b 0 RS0 ?_
  refine Zq 18 b 0 RS0 ?_
  refine Zq 19 b 0 RS0 ?_
  refine Zq 20 b 12 RS0 ?_
  refine Zl 21 (.int .i64 s.now) rfl (fun w9 hS => by
     have y12 := hS.2
     go_simp) RS0 ?_
  refine tk 22 (.agg #[r.s, at', bk, s.now, s.now]) RS0 ?_
  have c14 : (World.drew w10).cell? ⟨b, 14, none⟩ = some (.slice al nl cl) := HO10.out.k.cell 14
  refine zat (i := 5) (v := .slice al nl cl) (by kernel_rfl) rfl (by kernel_rfl) (by go_simp) RS0 ?_
  clear c14
  refine Zc 23 135 #[.slice al nl cl, .agg #[r.s, at', bk, s.now, s.now]] (zin al nl cl s.l l2 ⟨r.s, at', bk, s.now, s.now⟩ bb n2 hpu hn2 _ ((HO10.out.i.l : RIn w10 al nl cl s.l).below (zaa w10)) (by omega)) ?_
  rintro e w11 ⟨v11, rfl, ho11, hb⟩
  have HU11 : Hid (∀ q, v11.ownBlock = some q -> w10.heap.size <= q) := Zh (fun q hq => (ho11.out.lt q hq).1)
  obtain ⟨a2, c2, rfl, hr0⟩ := zcn ho11.out hn2
  have hr := Zh hr0
  clear ho11 hr0
  have hb2 : Below w10.heap.size w10 w11 := (zaa w10).trans hb
  refine Zu (⟨⟨Blok.below (And.left (And.left RS0)) hb (Blok.lt (And.left (And.left RS0))), Blok.below (And.right (And.left RS0)) hb (Blok.lt (And.right (And.left RS0)))⟩, zap (And.right RS0) hb⟩) fun RS1 => ?_
  refine tk 24 (.tuple #[.slice a2 n2 c2, bb]) RS1 ?_
  refine tk 25 (.slice a2 n2 c2) RS1 ?_
  refine tk 26 (.bool bb) RS1 ?_
  refine Zq 27 b 0 RS1 ?_
  refine Zq 28 b 0 RS1 ?_
  refine Zq 29 b 14 RS1 ?_
  have hbw : b < w10.heap.size := HO10.out.k.lt
  obtain ⟨hwn, kw⟩ := (HO10.out.win (H := w10.heap.size) hbw (Nat.le_refl _)).l hb2 hr.out (fun g e => by cases e)
  have c14 : w11.cell? ⟨b, 14, none⟩ = some (.slice al nl cl) := zap (HO10.out.k.cell 14) hb2
  have f14 : w11.frozen? ⟨b, 14, none⟩ = false := (HO10.out.below hb2).k.frozen 14
  have hbq : b < w8.heap.size := HBQ.out
  have RS2 : (fun w' => (Blok w' w.heap.size 34 #[r.k, r.s, r.a, r.b, r.n, r.p.q, r.p.i, r.p.h, r.p.pair] /\ Blok w' w8.heap.size 140 #[at', bk]) /\ w'.cell? ⟨b, 12, none⟩ = some (.int .i64 s.now)) (w11.setCell ⟨b, 14, none⟩ (.slice a2 n2 c2)) := ⟨⟨Blok.far (And.left (And.left RS1)) (by simp; omega) _, Blok.far (And.right (And.left RS1)) (by simp; omega) _⟩, by rw [World.cell?_setCell_other]; exact And.right RS1; simp⟩
  refine zaf (i := 30) (by kernel_rfl) (zah (w' := w11.setCell ⟨b, 14, none⟩ (.slice a2 n2 c2)) rfl (by kernel_rfl) (by go_simp) ⟨RS2, ?_⟩)
  refine wpAnyH_done (by kernel_rfl) ?_ _
  have HN12 := Zh hwn
  have HK12 := Zh kw
  have KR12 := Zh (And.left (And.left RS2))
  have KQ12 := Zh (And.right (And.left RS2))
  obtain ⟨w12, hw12⟩ : ∃ W, w11.setCell ⟨b, 14, none⟩ (.slice a2 n2 c2) = W := ⟨_, rfl⟩
  rw [hw12] at HN12 HK12 KR12 KQ12 ⊢
  have HPU := Zh hpu
  clear hw12 hwn kw hr hb hb2 c14 f14 hpu
  have q0 := (Y.cb2 KQ12.out).1
  have q1 := (Y.cb2 KQ12.out).2
  go_wp2_with fail
  refine (zd6 w10.heap.size b _ _ _ _ 0 0 at' bk w12 HN12.out).mono ?_
  clear q0 q1
  rintro e w13 ⟨rfl, hwn, hk⟩
  have HN13 := Zh hwn
  have HK13 := Zh (HK12.out.t hk)
  have KR13 := Zh (hk.blok KR12.out (by have := KR10.out.lt; omega) (by omega))
  have KQ13 := Zh (hk.blok KQ12.out (by have := KQ10.out.lt; omega) (by omega))
  clear hwn hk
  go_wp2_with fail
  refine Zd (fun w' => KpL w10.heap.size b w13 w' /\ w'.cell? ⟨b, 12, none⟩ = some (.int .i64 s.now)) (⟨KpL.of_below (zaa w13) HN13.out.hh, HN13.out.k.cell 12⟩) fun RS0 => ?_
  refine Zq 0 b 0 RS0 ?_
  refine Zq 1 b 0 RS0 ?_
  refine Zq 2 b 0 RS0 ?_
  refine Zq 3 b 0 RS0 ?_
  refine Zq 4 b 12 RS0 ?_
  refine Zl 5 (.int .i64 s.now) rfl (fun w9 hS => by
     have y12 := hS.2
     go_simp) RS0 ?_
  refine Zq 6 w.heap.size 1 RS0 ?_
  refine Zl 7 (.int .i64 r.s) rfl (fun w9 hS => by
     have y1 : w9.cell? ⟨w.heap.size, 1, none⟩ = some (.int .i64 r.s) := zai (KR13.out.cell 1) hS.1 (by have := KR10.out.lt; omega) (by omega)
     go_simp) RS0 ?_
  refine Zq 8 w8.heap.size 0 RS0 ?_
  refine Zl 9 (.int .i64 at') rfl (fun w9 hS => by
     have y0 : w9.cell? ⟨w8.heap.size, 0, none⟩ = some (.int .i64 at') := zai (KQ13.out.cell 0) hS.1 (by have := KQ10.out.lt; omega) (by omega)
     go_simp) RS0 ?_
  refine Zq 10 w8.heap.size 1 RS0 ?_
  refine Zl 11 (.int .i64 bk) rfl (fun w9 hS => by
     have y1 : w9.cell? ⟨w8.heap.size, 1, none⟩ = some (.int .i64 bk) := zai (KQ13.out.cell 1) hS.1 (by have := KQ10.out.lt; omega) (by omega)
     go_simp) RS0 ?_
  refine tk 12 (.agg #[(), s.now, r.s, at', bk, (), (), (), .bool false]) RS0 ?_
  refine Zc 13 137 #[.pointer (some ⟨b, 0, none⟩), .agg #[(), s.now, r.s, at', bk, (), (), (), .bool false]] (zcu w10.heap.size b _ _ _ _ at' bk ⟨0, s.now, r.s, at', bk, Y.zp⟩ _ (HN13.out.below (zaa w13)) (by decide)) ?_
  rintro e w14 ⟨rfl, v2, hwn, hk⟩
  refine Zu (⟨(And.left RS0).t hk, hwn.k.cell 12⟩) fun RS1 => ?_
  refine wpAnyH_done (by kernel_rfl) ?_ _
  have HV14 : Hid (∀ q, v2.ownBlock = some q -> H0 <= q) := Zh (fun q hq => Nat.le_trans HH0.out (Nat.le_trans HB10.out.size (hwn.ev.lt q hq).1))
  have HF := Zh hwn.fin
  have HB14 := Zh (KpL.to_below (HB10.out.mono HH0.out) (HK13.out.t (And.left RS1)) (Nat.le_trans HH0.out HB10.out.size) HW.out.h0)
  clear hwn hk
  go_wp2
  first | go_end0 | skip
  refine Y.Ends.yes (s := { s with l := l2 }) (evs := [⟨0, s.now, r.s, at', bk, Y.zp⟩]) (x := at') (y := bk) ?_ HB14.out HF.out ⟨HW.out.up.1, fun q hq => Nat.le_trans HH0.out (Nat.le_trans HB10.out.size (HU11.out q.block (by rw [show a2 = some q from hq]; rfl))), HW.out.up.2.2⟩ (.inl HV14.out)
  rw [HGP.out, if_neg (by rw [h1]; simp), if_neg (by have := HQ.out; omega), HPK.out, if_neg (by simp), if_neg HBK.out, HPU.out]
 ·skip
  have RA : (fun w' => Below w1.heap.size w1 w') ((World.drew w1).alloc (.cells #[(), (), ()] 54)) := Below.alloc RS0 (Below.size RS0) _
  refine zam (v := .pointer (some ⟨w1.heap.size, 0, none⟩)) (w' := (World.drew w1).alloc (.cells #[(), (), ()] 54)) rfl (by kernel_rfl) (by kernel_rfl) ⟨RA, ?_⟩
  have KA : Blok ((World.drew w1).alloc (.cells #[(), (), ()] 54)) w1.heap.size 54 #[(), (), ()] := Blok.new (World.drew w1) _ _
  have hsbw : w1.heap.size <= w1.heap.size := Nat.le_refl _
  obtain ⟨w2, hw2⟩ : ∃ W, (World.drew w1).alloc (.cells #[(), (), ()] 54) = W := ⟨_, rfl⟩
  rw [hw2] at KA RA ⊢
  clear hw2
  refine Zc 7 27 #[.agg #[s.d.b, s.d.k, s.d.c, s.d.j, s.d.lo, s.d.hi, s.d.dy, s.d.bl], r.s] (cb _) ?_
  rintro e w3 ⟨rfl, hb⟩
  refine Zu (Zr RA hb) fun RS1 => ?_
  have KA := KA.below hb KA.lt
  refine tk 8 (.tuple #[.agg #[ba, bf, bt], .bool true]) RS1 ?_
  refine tk 9 (.agg #[ba, bf, bt]) RS1 ?_
  refine tk 10 (.bool true) RS1 ?_
  have z0 := (Y.cb3 KA).1
  have z1 := (Y.cb3 KA).2.1
  have z2 := (Y.cb3 KA).2.2
  have zf0 := KA.frozen 0
  have zf1 := KA.frozen 1
  have zf2 := KA.frozen 2
  have RS2 : (fun w' => Below w1.heap.size w1 w') (((w3.setCell ⟨w1.heap.size, 0, none⟩ (.int .i64 ba)).setCell ⟨w1.heap.size, 1, none⟩ (.int .i64 bf)).setCell ⟨w1.heap.size, 2, none⟩ (.int .i64 bt)) := Y.below3 RS1 hsbw _ _ _
  refine zaf (i := 12) (by kernel_rfl) (zah (w' := ((w3.setCell ⟨w1.heap.size, 0, none⟩ (.int .i64 ba)).setCell ⟨w1.heap.size, 1, none⟩ (.int .i64 bf)).setCell ⟨w1.heap.size, 2, none⟩ (.int .i64 bt)) rfl (by kernel_rfl) (by go_simp) ⟨RS2, ?_⟩)
  refine tk 13 (.bool true) RS2 ?_
  refine wpAnyH_done (by kernel_rfl) ?_ _
  have KB4 := Zh (Y.set3b KA ba bf bt)
  have hb4 : Below w1.heap.size w1 (((w3.setCell ⟨w1.heap.size, 0, none⟩ (.int .i64 ba)).setCell ⟨w1.heap.size, 1, none⟩ (.int .i64 bf)).setCell ⟨w1.heap.size, 2, none⟩ (.int .i64 bt)) := RS2
  obtain ⟨w4, hw4⟩ : ∃ W, ((w3.setCell ⟨w1.heap.size, 0, none⟩ (.int .i64 ba)).setCell ⟨w1.heap.size, 1, none⟩ (.int .i64 bf)).setCell ⟨w1.heap.size, 2, none⟩ (.int .i64 bt) = W := ⟨_, rfl⟩
  rw [hw4] at KB4 hb4 ⊢
  clear hw4 KA z0 z1 z2 zf0 zf1 zf2 cb
  have HO4 := Zh (HO1.out.below hb4)
  have KR4 := Zh (KR1.out.below hb4 KR1.out.lt)
  have HB4 := Zt HB1 hb4
  clear hb4
  go_wp2_with fail
  refine (zag 5 _).mono ?_
  rintro e w5 ⟨rfl, hb⟩
  have HO5 := Zh (HO4.out.below hb)
  have KR5 := Zk KR4 hb
  replace KB4 := Zk KB4 hb
  have HB5 := Zt HB4 hb
  clear hb HO4 KR4 HB4
  obtain ⟨k, hk⟩ : ∃ k, L.of s.l r.s = k := ⟨_, rfl⟩
  have HK := Zh hk
  clear hk
  go_wp2_with fail
  refine Zd (fun w' => Below w5.heap.size w5 w') (zaa w5) fun RS0 => ?_
  refine Zq 0 b 0 RS0 ?_
  refine Zq 1 b 0 RS0 ?_
  refine Zq 2 b 0 RS0 ?_
  refine Zq 3 b 14 RS0 ?_
  refine Zl 4 (.slice al nl cl) rfl (fun w9 hS => by
     have y14 := Zv (HO5.out.k.below hS HO5.out.k.lt) 14 (.slice al nl cl)
     go_simp) RS0 ?_
  refine Zq 5 w.heap.size 1 RS0 ?_
  refine Zl 6 (.int .i64 r.s) rfl (fun w9 hS => by
     have y1 := Zv (KR5.out.below hS KR5.out.lt) 1 (.int .i64 r.s)
     go_simp) RS0 ?_
  refine Zq 9 b 0 RS0 ?_
  refine Zq 10 b 0 RS0 ?_
  refine Zq 11 b 0 RS0 ?_
  refine Zq 12 b 8 RS0 ?_
  refine Zq 13 b 8 RS0 ?_
  refine Zl 14 (.int .i64 s.p.q) rfl (fun w9 hS => by
     have y8 := Zv (HO5.out.k.below hS HO5.out.k.lt) 8 (.int .i64 s.p.q)
     go_simp) RS0 ?_
  refine Zc 7 29 #[.slice al nl cl, r.s] (zcp al nl cl s.l r.s k HK.out _ ((HO5.out.i.l : RIn w5 al nl cl s.l).below RS0) (by omega)) ?_
  rintro e w6 ⟨a5, c5, n5, rfl, hn5, -, hb⟩
  refine Zu (Zr RS0 hb) fun RS1 => ?_
  have HC : Hid ((n5 : Int) = (Y.cnt s.l r.s : Nat)) := Zh (by have := hn5.out; rw [<- this, <- HK.out, Y.of_len])
  clear hn5
  refine tk 8 (.int .i64 n5) RS1 ?_
  have d7 : decide ((n5 : Int) < s.p.q) = true := decide_eq_true (by rw [HC.out]; have := HQ.out; omega)
  refine wpAnyH_take (i := 15) (v := .bool true) rfl (by kernel_rfl) (by kernel_rfl) (by kernel_rfl) (fun _ _ _ h => h) (.inl ⟨by kernel_rfl, fun w9 hS => by go_simp⟩) RS1 ?_
  refine Zc 16 39 #[.bool true, .int .i64 6] (zag 6 _) ?_
  rintro e w7 ⟨rfl, hb⟩
  refine Zu (Zr RS1 hb) fun RS2 => ?_
  refine wpAnyH_done (by kernel_rfl) ?_ _
  have hb7 : Below w5.heap.size w5 w7 := RS2
  have HO7 := Zh (HO5.out.below hb7)
  have KR7 := Zh (KR5.out.below hb7 KR5.out.lt)
  have KB7 := Zh (KB4.out.below hb7 KB4.out.lt)
  have HB7 := Zt HB5 hb7
  clear hb7
  have s0 := (Y.cb3 KB7.out).1
  go_wp2_with fail
  refine (zdg w7.heap.size b s ⟨ap, np, cp, al, nl, cl, ah, nh, ch⟩ [] (.slice none 0 0) 0 0 ba w7 (HO7.out.win HO7.out.k.lt (Nat.le_refl _)) HM.out HFF.out at' bk HPK.out).mono ?_
  clear s0
  rintro e w8 ⟨rfl, hb⟩
  have HO8 := Zh (HO7.out.below hb)
  have KR8 := Zk KR7 hb
  have HB8 := Zt HB7 hb
  clear hb
  have HBQ : Hid (b < w8.heap.size) := Zh HO8.out.k.lt
  obtain ⟨w9, hw9, hb, hk⟩ := Zn w8 140 #[at', bk]
  have HO9 := Zh (HO8.out.below hb)
  have KR9 := Zk KR8 hb
  have HB9 := Zt HB8 hb
  have KQ9 := Zh hk
  clear hb hk HO8 KR8 HB8
  have q1 := (Y.cb2 KQ9.out).2
  have e1 : (bk != -1) = true := by simpa using HBK.out
  go_wp2_with fail
  try rw [hw9]
  refine (zag 7 _).mono ?_
  clear q1 e1 hw9
  rintro e w10 ⟨rfl, hb⟩
  have HO10 := Zh (HO9.out.below hb)
  have KR10 := Zk KR9 hb
  have KQ10 := Zk KQ9 hb
  have HB10 := Zt HB9 hb
  clear hb
  obtain ⟨l2, bb, hpu⟩ : ∃ l b, L.put s.l ⟨r.s, at', bk, s.now, s.now⟩ = (l, b) := ⟨_, _, rfl⟩
  obtain ⟨n2, hn2⟩ : ∃ n, l2.length = n := ⟨_, rfl⟩
  go_wp2_with fail
  refine Zd (fun w' => (Blok w' w.heap.size 34 #[r.k, r.s, r.a, r.b, r.n, r.p.q, r.p.i, r.p.h, r.p.pair] /\ Blok w' w8.heap.size 140 #[at', bk]) /\ w'.cell? ⟨b, 12, none⟩ = some (.int .i64 s.now)) (⟨⟨KR10.out.drew, KQ10.out.drew⟩, HO10.out.k.cell 12⟩) fun RS0 => ?_
  refine Zq 0 b 0 RS0 ?_
  refine Zq 1 b 0 RS0 ?_
  refine Zq 2 b 0 RS0 ?_
  refine Zq 3 b 0 RS0 ?_
  refine Zq 4 b 14 RS0 ?_
  refine Zq 6 w.heap.size 1 RS0 ?_
  refine Zl 7 (.int .i64 r.s) rfl (fun w9 hS => by
     have y1 := Zv hS.1.1 1 (.int .i64 r.s)
     go_simp) RS0 ?_
  refine Zq 8 w8.heap.size 0 RS0 ?_
  refine Zl 9 (.int .i64 at') rfl (fun w9 hS => by
     have y0 := Zv hS.1.2 0 (.int .i64 at')
     go_simp) RS0 ?_
  refine Zq 10 w8.heap.size 1 RS0 ?_
  refine Zl 11 (.int .i64 bk) rfl (fun w9 hS => by
     have y1 := Zv hS.1.2 1 (.int .i64 bk)
     go_simp) RS0 ?_
  refine Zq 12 b 0 RS0 ?_
  refine Zq 13 b 0 RS0 ?_
  refine Zq 14 b 0 RS0 ?_
  refine Zq 15 b 12 RS0 ?_
  refine Zl 16 (.int .i64 s.now) rfl (fun w9 hS => by
     have y12 := hS.2
     go_simp) RS0 ?_
  refine Zq 17 b 0 RS0 ?_
  refine Zq 18 b 0 RS0 ?_
  refine Zq 19 b 0 RS0 ?_
  refine Zq 20 b 12 RS0 ?_
  refine Zl 21 (.int .i64 s.now) rfl (fun w9 hS => by
     have y12 := hS.2
     go_simp) RS0 ?_
  refine tk 22 (.agg #[r.s, at', bk, s.now, s.now]) RS0 ?_
  have c14 : (World.drew w10).cell? ⟨b, 14, none⟩ = some (.slice al nl cl) := HO10.out.k.cell 14
  refine zat (i := 5) (v := .slice al nl cl) (by kernel_rfl) rfl (by kernel_rfl) (by go_simp) RS0 ?_
  clear c14
  refine Zc 23 135 #[.slice al nl cl, .agg #[r.s, at', bk, s.now, s.now]] (zin al nl cl s.l l2 ⟨r.s, at', bk, s.now, s.now⟩ bb n2 hpu hn2 _ ((HO10.out.i.l : RIn w10 al nl cl s.l).below (zaa w10)) (by omega)) ?_
  rintro e w11 ⟨v11, rfl, ho11, hb⟩
  have HU11 : Hid (∀ q, v11.ownBlock = some q -> w10.heap.size <= q) := Zh (fun q hq => (ho11.out.lt q hq).1)
  obtain ⟨a2, c2, rfl, hr0⟩ := zcn ho11.out hn2
  have hr := Zh hr0
  clear ho11 hr0
  have hb2 : Below w10.heap.size w10 w11 := (zaa w10).trans hb
  refine Zu (⟨⟨Blok.below (And.left (And.left RS0)) hb (Blok.lt (And.left (And.left RS0))), Blok.below (And.right (And.left RS0)) hb (Blok.lt (And.right (And.left RS0)))⟩, zap (And.right RS0) hb⟩) fun RS1 => ?_
  refine tk 24 (.tuple #[.slice a2 n2 c2, bb]) RS1 ?_
  refine tk 25 (.slice a2 n2 c2) RS1 ?_
  refine tk 26 (.bool bb) RS1 ?_
  refine Zq 27 b 0 RS1 ?_
  refine Zq 28 b 0 RS1 ?_
  refine Zq 29 b 14 RS1 ?_
  have hbw : b < w10.heap.size := HO10.out.k.lt
  obtain ⟨hwn, kw⟩ := (HO10.out.win (H := w10.heap.size) hbw (Nat.le_refl _)).l hb2 hr.out (fun g e => by cases e)
  have c14 : w11.cell? ⟨b, 14, none⟩ = some (.slice al nl cl) := zap (HO10.out.k.cell 14) hb2
  have f14 : w11.frozen? ⟨b, 14, none⟩ = false := (HO10.out.below hb2).k.frozen 14
  have hbq : b < w8.heap.size := HBQ.out
  have RS2 : (fun w' => (Blok w' w.heap.size 34 #[r.k, r.s, r.a, r.b, r.n, r.p.q, r.p.i, r.p.h, r.p.pair] /\ Blok w' w8.heap.size 140 #[at', bk]) /\ w'.cell? ⟨b, 12, none⟩ = some (.int .i64 s.now)) (w11.setCell ⟨b, 14, none⟩ (.slice a2 n2 c2)) := ⟨⟨Blok.far (And.left (And.left RS1)) (by simp; omega) _, Blok.far (And.right (And.left RS1)) (by simp; omega) _⟩, by rw [World.cell?_setCell_other]; exact And.right RS1; simp⟩
  refine zaf (i := 30) (by kernel_rfl) (zah (w' := w11.setCell ⟨b, 14, none⟩ (.slice a2 n2 c2)) rfl (by kernel_rfl) (by go_simp) ⟨RS2, ?_⟩)
  refine wpAnyH_done (by kernel_rfl) ?_ _
  have HN12 := Zh hwn
  have HK12 := Zh kw
  have KR12 := Zh (And.left (And.left RS2))
  have KQ12 := Zh (And.right (And.left RS2))
  obtain ⟨w12, hw12⟩ : ∃ W, w11.setCell ⟨b, 14, none⟩ (.slice a2 n2 c2) = W := ⟨_, rfl⟩
  rw [hw12] at HN12 HK12 KR12 KQ12 ⊢
  have HPU := Zh hpu
  clear hw12 hwn kw hr hb hb2 c14 f14 hpu
  have q0 := (Y.cb2 KQ12.out).1
  have q1 := (Y.cb2 KQ12.out).2
  go_wp2_with fail
  refine (zd6 w10.heap.size b _ _ _ _ 0 0 at' bk w12 HN12.out).mono ?_
  clear q0 q1
  rintro e w13 ⟨rfl, hwn, hk⟩
  have HN13 := Zh hwn
  have HK13 := Zh (HK12.out.t hk)
  have KR13 := Zh (hk.blok KR12.out (by have := KR10.out.lt; omega) (by omega))
  have KQ13 := Zh (hk.blok KQ12.out (by have := KQ10.out.lt; omega) (by omega))
  clear hwn hk
  go_wp2_with fail
  refine Zd (fun w' => KpL w10.heap.size b w13 w' /\ w'.cell? ⟨b, 12, none⟩ = some (.int .i64 s.now)) (⟨KpL.of_below (zaa w13) HN13.out.hh, HN13.out.k.cell 12⟩) fun RS0 => ?_
  refine Zq 0 b 0 RS0 ?_
  refine Zq 1 b 0 RS0 ?_
  refine Zq 2 b 0 RS0 ?_
  refine Zq 3 b 0 RS0 ?_
  refine Zq 4 b 12 RS0 ?_
  refine Zl 5 (.int .i64 s.now) rfl (fun w9 hS => by
     have y12 := hS.2
     go_simp) RS0 ?_
  refine Zq 6 w.heap.size 1 RS0 ?_
  refine Zl 7 (.int .i64 r.s) rfl (fun w9 hS => by
     have y1 : w9.cell? ⟨w.heap.size, 1, none⟩ = some (.int .i64 r.s) := zai (KR13.out.cell 1) hS.1 (by have := KR10.out.lt; omega) (by omega)
     go_simp) RS0 ?_
  refine Zq 8 w8.heap.size 0 RS0 ?_
  refine Zl 9 (.int .i64 at') rfl (fun w9 hS => by
     have y0 : w9.cell? ⟨w8.heap.size, 0, none⟩ = some (.int .i64 at') := zai (KQ13.out.cell 0) hS.1 (by have := KQ10.out.lt; omega) (by omega)
     go_simp) RS0 ?_
  refine Zq 10 w8.heap.size 1 RS0 ?_
  refine Zl 11 (.int .i64 bk) rfl (fun w9 hS => by
     have y1 : w9.cell? ⟨w8.heap.size, 1, none⟩ = some (.int .i64 bk) := zai (KQ13.out.cell 1) hS.1 (by have := KQ10.out.lt; omega) (by omega)
     go_simp) RS0 ?_
  refine tk 12 (.agg #[(), s.now, r.s, at', bk, (), (), (), .bool false]) RS0 ?_
  refine Zc 13 137 #[.pointer (some ⟨b, 0, none⟩), .agg #[(), s.now, r.s, at', bk, (), (), (), .bool false]] (zcu w10.heap.size b _ _ _ _ at' bk ⟨0, s.now, r.s, at', bk, Y.zp⟩ _ (HN13.out.below (zaa w13)) (by decide)) ?_
  rintro e w14 ⟨rfl, v2, hwn, hk⟩
  refine Zu (⟨(And.left RS0).t hk, hwn.k.cell 12⟩) fun RS1 => ?_
  refine wpAnyH_done (by kernel_rfl) ?_ _
  have HV14 : Hid (∀ q, v2.ownBlock = some q -> H0 <= q) := Zh (fun q hq => Nat.le_trans HH0.out (Nat.le_trans HB10.out.size (hwn.ev.lt q hq).1))
  have HF := Zh hwn.fin
  have HB14 := Zh (KpL.to_below (HB10.out.mono HH0.out) (HK13.out.t (And.left RS1)) (Nat.le_trans HH0.out HB10.out.size) HW.out.h0)
  clear hwn hk
  go_wp2
  first | go_end0 | skip
  refine Y.Ends.yes (s := { s with l := l2 }) (evs := [⟨0, s.now, r.s, at', bk, Y.zp⟩]) (x := at') (y := bk) ?_ HB14.out HF.out ⟨HW.out.up.1, fun q hq => Nat.le_trans HH0.out (Nat.le_trans HB10.out.size (HU11.out q.block (by rw [show a2 = some q from hq]; rfl))), HW.out.up.2.2⟩ (.inl HV14.out)
  rw [HGP.out, if_neg (by rw [h1]; simp), if_neg (by have := HQ.out; omega), HPK.out, if_neg (by simp), if_neg HBK.out, HPU.out]
theorem zhs (H0 b : Nat) (s : Y.St) (A : Y.A9) (r : Y.Rq) (w : World) (ho : Y.Own3 w H0 b s A) (hm : Y.May s) (fb : s.d.b <= 9223372036854775807) (fc : s.d.c <= 9223372036854775807) :
  Calls Tryz.prog 81 #[.pointer (some ⟨b, 0, none⟩), Y.rval r] w fun e w' => Y.Ends w H0 b (Y.grant s r.s) e w' := by
 cases h1 : E.baseB s.d r.s with
 | false => exact zhq H0 b s A r w ho hm fb fc h1
 | true =>
  by_cases h2 : s.p.q <= (Y.cnt s.l r.s : Nat)
  ·exact zfp H0 b s A r w ho hm fb fc h1 h2
  ·by_cases h3 : (Y.pk s (E.baseA s.d r.s)).1 = 0
   ·obtain ⟨at', bk, h4⟩ : ∃ a c, Y.pk s (E.baseA s.d r.s) = (0, a, c) := ⟨_, _, by rw [<- h3]⟩
    by_cases h5 : bk = -1
    ·exact zfq H0 b s A r w ho hm fb fc h1 h2 at' bk h4 h5
    ·exact zhr H0 b s A r w ho hm fb fc h1 h2 at' bk h4 h5
   ·exact zgo H0 b s A r w ho hm fb fc h1 h2 h3
end Go.Proofs.YtonejangijkdmaaGreat
