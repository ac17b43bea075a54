import Derived.Test.YtonejangijkdmaaGreatYG
namespace Go.Proofs.YtonejangijkdmaaGreat
set_option maxHeartbeats 1000000
set_option maxRecDepth 100000
open Go.RowKit
theorem Y.row_apart {w : World} {B B' k k' n n' g m c : Nat} {t t' : TypeId} {v : Value} {xs ys : List Value} (h : w.ownsRow B t k v n xs) (h' : w.ownsRow B' t' k' (.slice (some ⟨g, 0, none⟩) m c) n' ys) (ht : t ≠ t') : v.ownBlock = none \/ v.ownBlock ≠ some g := by
 refine .inr fun e => ?_
 rcases h'.2 with ⟨h0, _⟩ | ⟨q, cap, cur, h1, _, hq, _⟩
 ·cases h0
 ·simp only [Value.slice.injEq, Option.some.injEq, Addr.mk.injEq, and_true] at h1
  obtain ⟨rfl, -⟩ := h1
  exact za4 h hq (fun e => ht e.symm) e rfl
theorem zfm (H0 b : Nat) (s : Y.St) (A : Y.A9) (r : Y.Rq) (w : World) (ho : Y.Own3 w H0 b s A) (hm : Y.May s) (fb : s.d.b <= 9223372036854775807) (fc : s.d.c <= 9223372036854775807) :
  Calls Tryz.prog 82 #[.pointer (some ⟨b, 0, none⟩), Y.rval r] w fun e w' => Y.Ends w H0 b (Y.refresh s r.s r.a r.b) e w' := by
 have hff := ho.fits hm fb fc
 have hbl := ho.k.lt
 have HH0 : Hid (H0 <= w.heap.size) := Zh (by have := ho.h0; omega)
 obtain ⟨ap, np, cp, al, nl, cl, ah, nh, ch⟩ := A
 have hnp : np <= 600 := hff.p
 have hnl : nl <= 600 := hff.l
 have hnh : nh <= 600 := hff.h
 have HM := Zh hm
 have HFF := Zh hff
 have HW := Zh ho
 have HB0 := Zh (Below.refl w.heap.size w)
 have HO0 := Zh (ho)
 have HS0 := Zh (ho.win (H := w.heap.size) ho.k.lt (Nat.le_refl _))
 clear ho hm hff
 unfold Y.rval
 obtain ⟨w1, hw1, hb, hk⟩ := Zn w 34 #[.int .i64 r.k, .int .i64 r.s, .int .i64 r.a, .int .i64 r.b, .int .i64 r.n, .int .i64 r.p.q, .int .i64 r.p.i, .int .i64 r.p.h, .bool r.p.pair]
 replace HO0 := Zh (HO0.out.below hb)
 replace HS0 := Zh (HS0.out.below hb)
 replace HB0 := Zt HB0 hb
 have KR1 := Zh hk
 clear hb hk
 have hsrt := HM.out.2.2.2.2.2.1
 rcases L.find_cases s.l r.a r.b with ⟨hfd, _⟩ | ⟨i, z, hfd, hz, hza, hzb, _⟩
 rotate_left
 by_cases hs : z.s = r.s
 rotate_left
 ·skip
  go_enter Tryz.func82, Tryz.ntmps82
  go_wp2_with fail
  try rw [hw1]
  clear hw1
  refine Zd (fun w' => Below w1.heap.size w1 w') (zaa w1) fun RS0 => ?_
  refine Zq 0 b 0 RS0 ?_
  refine Zq 1 b 0 RS0 ?_
  refine Zq 2 b 0 RS0 ?_
  refine Zq 3 b 14 RS0 ?_
  refine Zl 4 (.slice al nl cl) rfl (fun w9 hS => by
     have y14 := Zv (HO0.out.k.below hS HO0.out.k.lt) 14 (.slice al nl cl)
     go_simp) RS0 ?_
  refine Zq 5 b 0 RS0 ?_
  refine Zl 6 (.agg #[.int .i64 r.k, .int .i64 r.s, .int .i64 r.a, .int .i64 r.b, .int .i64 r.n, .int .i64 r.p.q, .int .i64 r.p.i, .int .i64 r.p.h, .bool r.p.pair]) rfl (fun w9 hS => by
     have q := KR1.out.below hS KR1.out.lt
     have y0 := Zv q 0 (.int .i64 r.k)
     have y1 := Zv q 1 (.int .i64 r.s)
     have y2 := Zv q 2 (.int .i64 r.a)
     have y3 := Zv q 3 (.int .i64 r.b)
     have y4 := Zv q 4 (.int .i64 r.n)
     have y5 := Zv q 5 (.int .i64 r.p.q)
     have y6 := Zv q 6 (.int .i64 r.p.i)
     have y7 := Zv q 7 (.int .i64 r.p.h)
     have y8 := Zv q 8 (.bool r.p.pair)
     go_simp) RS0 ?_
  refine Zq 8 b 0 RS0 ?_
  refine Zq 9 b 0 RS0 ?_
  refine Zq 10 b 0 RS0 ?_
  refine Zq 11 b 12 RS0 ?_
  refine Zl 12 (.int .i64 s.now) rfl (fun w9 hS => by
     have y12 := Zv (HO0.out.k.below hS HO0.out.k.lt) 12 (.int .i64 s.now)
     go_simp) RS0 ?_
  refine zaj (i := 7) (f := 138) (args := #[.pointer (some ⟨b, 0, none⟩), .agg #[.int .i64 r.k, .int .i64 r.s, .int .i64 r.a, .int .i64 r.b, .int .i64 r.n, .int .i64 r.p.q, .int .i64 r.p.i, .int .i64 r.p.h, .bool r.p.pair]]) (by kernel_rfl) rfl (by kernel_rfl) (by kernel_rfl) (zjc w.heap.size b s ⟨ap, np, cp, al, nl, cl, ah, nh, ch⟩ [] (.slice none 0 0) 0 0 r _ (HS0.out.below RS0) (by show nl <= 600; omega) i z hfd hz hs) ?_
  rintro e w2 ⟨rfl, hb⟩
  refine ⟨_, rfl, ?_⟩
  exact ⟨rfl, Y.Ends.no (Y.use_no hsrt (.inr ⟨i, z, hz, hza, hzb, hs⟩)).1 (by decide) ((HB0.out.trans ((Below.trans RS0 (hb.mono (Below.size RS0))).mono HB0.out.size)).mono HH0.out)⟩
 ·skip
  go_enter Tryz.func82, Tryz.ntmps82
  go_wp2_with fail
  try rw [hw1]
  clear hw1
  refine Zd (fun w' => Below w1.heap.size w1 w') (zaa w1) fun RS0 => ?_
  refine Zq 0 b 0 RS0 ?_
  refine Zq 1 b 0 RS0 ?_
  refine Zq 2 b 0 RS0 ?_
  refine Zq 3 b 14 RS0 ?_
  refine Zl 4 (.slice al nl cl) rfl (fun w9 hS => by
     have y14 := Zv (HO0.out.k.below hS HO0.out.k.lt) 14 (.slice al nl cl)
     go_simp) RS0 ?_
  refine Zq 5 b 0 RS0 ?_
  refine Zl 6 (.agg #[.int .i64 r.k, .int .i64 r.s, .int .i64 r.a, .int .i64 r.b, .int .i64 r.n, .int .i64 r.p.q, .int .i64 r.p.i, .int .i64 r.p.h, .bool r.p.pair]) rfl (fun w9 hS => by
     have q := KR1.out.below hS KR1.out.lt
     have y0 := Zv q 0 (.int .i64 r.k)
     have y1 := Zv q 1 (.int .i64 r.s)
     have y2 := Zv q 2 (.int .i64 r.a)
     have y3 := Zv q 3 (.int .i64 r.b)
     have y4 := Zv q 4 (.int .i64 r.n)
     have y5 := Zv q 5 (.int .i64 r.p.q)
     have y6 := Zv q 6 (.int .i64 r.p.i)
     have y7 := Zv q 7 (.int .i64 r.p.h)
     have y8 := Zv q 8 (.bool r.p.pair)
     go_simp) RS0 ?_
  refine Zq 8 b 0 RS0 ?_
  refine Zq 9 b 0 RS0 ?_
  refine Zq 10 b 0 RS0 ?_
  refine Zq 11 b 12 RS0 ?_
  refine Zl 12 (.int .i64 s.now) rfl (fun w9 hS => by
     have y12 := Zv (HO0.out.k.below hS HO0.out.k.lt) 12 (.int .i64 s.now)
     go_simp) RS0 ?_
  refine zaj (i := 7) (f := 138) (args := #[.pointer (some ⟨b, 0, none⟩), .agg #[.int .i64 r.k, .int .i64 r.s, .int .i64 r.a, .int .i64 r.b, .int .i64 r.n, .int .i64 r.p.q, .int .i64 r.p.i, .int .i64 r.p.h, .bool r.p.pair]]) (by kernel_rfl) rfl (by kernel_rfl) (by kernel_rfl) (zjb w.heap.size b s ⟨ap, np, cp, al, nl, cl, ah, nh, ch⟩ [] (.slice none 0 0) 0 0 r _ (HS0.out.below RS0) (by show nl <= 600; omega) hfd) ?_
  rintro e w2 ⟨rfl, hb⟩
  refine ⟨_, rfl, ?_⟩
  exact ⟨rfl, Y.Ends.no (Y.use_no hsrt (.inl hfd)).1 (by decide) ((HB0.out.trans ((Below.trans RS0 (hb.mono (Below.size RS0))).mono HB0.out.size)).mono HH0.out)⟩
 ·skip
  have hin : i < nl := by have := (List.getElem?_eq_some_iff.1 hz).1; have h2 : s.l.length = nl := HW.out.nl; omega
  have hcell := fun w9 (hS : Below w1.heap.size w1 w9) => ((HO0.out.below hS).rl : w9.ownsRow H0 58 5 (.slice al nl cl) nl (L.flat s.l))
  obtain ⟨g0, rfl, -⟩ : ∃ g0, al = some ⟨g0, 0, none⟩ /\ True := by
   rcases (HO0.out.rl : w1.ownsRow H0 58 5 (.slice al nl cl) nl (L.flat s.l)).2 with ⟨h0, h1⟩ | ⟨q, cap, cur, h1, _⟩
   ·have : nl = 0 := h1; omega
   ·simp only [Value.slice.injEq] at h1; exact ⟨q, h1.1, trivial⟩
  have i0 : (0 : Int) <= i := by omega
  have i1 : (i : Int) < nl := by omega
  go_enter Tryz.func82, Tryz.ntmps82
  go_wp2_with fail
  try rw [hw1]
  clear hw1
  refine Zd (fun w' => Blok w' b 84 (Y.ws s ⟨ap, np, cp, some ⟨g0, 0, none⟩, nl, cl, ah, nh, ch⟩ (.slice none 0 0) 0 0 0).toArray /\ Blok w' w.heap.size 34 #[.int .i64 r.k, .int .i64 r.s, .int .i64 r.a, .int .i64 r.b, .int .i64 r.n, .int .i64 r.p.q, .int .i64 r.p.i, .int .i64 r.p.h, .bool r.p.pair]) (⟨HO0.out.k.drew, KR1.out.drew⟩) fun RS0 => ?_
  refine Zq 0 b 0 RS0 ?_
  refine Zq 1 b 0 RS0 ?_
  refine Zq 2 b 0 RS0 ?_
  refine Zq 3 b 14 RS0 ?_
  refine Zl 4 (.slice (some ⟨g0, 0, none⟩) nl cl) rfl (fun w9 hS => by
     have y14 := Zv hS.1 14 (.slice (some ⟨g0, 0, none⟩) nl cl)
     go_simp) RS0 ?_
  refine Zq 5 b 0 RS0 ?_
  refine Zl 6 (.agg #[.int .i64 r.k, .int .i64 r.s, .int .i64 r.a, .int .i64 r.b, .int .i64 r.n, .int .i64 r.p.q, .int .i64 r.p.i, .int .i64 r.p.h, .bool r.p.pair]) rfl (fun w9 hS => by
     have y0 := Zv hS.2 0 (.int .i64 r.k)
     have y1 := Zv hS.2 1 (.int .i64 r.s)
     have y2 := Zv hS.2 2 (.int .i64 r.a)
     have y3 := Zv hS.2 3 (.int .i64 r.b)
     have y4 := Zv hS.2 4 (.int .i64 r.n)
     have y5 := Zv hS.2 5 (.int .i64 r.p.q)
     have y6 := Zv hS.2 6 (.int .i64 r.p.i)
     have y7 := Zv hS.2 7 (.int .i64 r.p.h)
     have y8 := Zv hS.2 8 (.bool r.p.pair)
     go_simp) RS0 ?_
  refine Zq 8 b 0 RS0 ?_
  refine Zq 9 b 0 RS0 ?_
  refine Zq 10 b 0 RS0 ?_
  refine Zq 11 b 12 RS0 ?_
  refine Zl 12 (.int .i64 s.now) rfl (fun w9 hS => by
     have y12 := Zv hS.1 12 (.int .i64 s.now)
     go_simp) RS0 ?_
  refine Zc 7 138 #[.pointer (some ⟨b, 0, none⟩), .agg #[.int .i64 r.k, .int .i64 r.s, .int .i64 r.a, .int .i64 r.b, .int .i64 r.n, .int .i64 r.p.q, .int .i64 r.p.i, .int .i64 r.p.h, .bool r.p.pair]] (zd7 w.heap.size b s ⟨ap, np, cp, some ⟨g0, 0, none⟩, nl, cl, ah, nh, ch⟩ [] (.slice none 0 0) 0 0 r _ (HS0.out.below (zaa w1)) (by show nl <= 600; omega) i z hfd hz hs) ?_
  rintro e w2 ⟨rfl, hb⟩
  refine Zu (⟨Blok.below (And.left RS0) hb (Blok.lt (And.left RS0)), Blok.below (And.right RS0) hb (Blok.lt (And.right RS0))⟩) fun RS1 => ?_
  refine wpAnyH_take (i := 13) (v := .pointer (some ⟨g0, i * 5, none⟩)) rfl (by kernel_rfl) (by kernel_rfl) (by kernel_rfl) (fun _ _ _ h => h) (.inl ⟨by kernel_rfl, fun w9 hS => by go_simp⟩) RS1 ?_
  refine Zq 14 g0 (i * 5 + 4) RS1 ?_
  have hb2 : Below w1.heap.size w1 w2 := (zaa w1).trans hb
  have hr2 := hcell w2 hb2
  have cst : w2.cell? ⟨g0, i * 5 + 4, none⟩ = some (.int .i64 z.t) := by
   rw [hr2.cellAt _ (by omega)]
   exact (L.flat_at s.l i z hz 4 (by decide)).trans rfl
  have fst := hr2.frozenAt (i * 5 + 4)
  have kb2 := (And.left RS1)
  have hgb : g0 ≠ b := za4 hr2 kb2 (by decide) rfl
  have hgr : g0 ≠ w.heap.size := za4 hr2 (And.right RS1) (by decide) rfl
  obtain ⟨hst, gst⟩ := hr2.stored (i * 5 + 4) (.int .i64 s.now)
  rw [Y.flat_set4 s.now s.l i z hz] at hst
  have RS2 : (fun w' => Blok w' b 84 (Y.ws s ⟨ap, np, cp, some ⟨g0, 0, none⟩, nl, cl, ah, nh, ch⟩ (.slice none 0 0) 0 0 0).toArray /\ Blok w' w.heap.size 34 #[.int .i64 r.k, .int .i64 r.s, .int .i64 r.a, .int .i64 r.b, .int .i64 r.n, .int .i64 r.p.q, .int .i64 r.p.i, .int .i64 r.p.h, .bool r.p.pair]) (w2.setCell ⟨g0, i * 5 + 4, none⟩ (.int .i64 s.now)) := ⟨Blok.far (And.left RS1) (by simpa using hgb.symm) _, Blok.far (And.right RS1) (by simpa using hgr.symm) _⟩
  refine zaf (i := 15) (by kernel_rfl) (zah (w' := w2.setCell ⟨g0, i * 5 + 4, none⟩ (.int .i64 s.now)) rfl (by kernel_rfl) (by go_simp) ⟨RS2, ?_⟩)
  refine wpAnyH_done (by kernel_rfl) ?_ _
  skip
  have o2 := HO0.out.below hb2
  have ho3 : Y.Own3 (w2.setCell ⟨g0, i * 5 + 4, none⟩ (.int .i64 s.now)) H0 b { s with l := s.l.set i { z with t := s.now } } ⟨ap, np, cp, some ⟨g0, 0, none⟩, nl, cl, ah, nh, ch⟩ :=
   ⟨And.left RS2, o2.rp.kept gst (Y.row_apart o2.rp hr2 (by decide)), hst, o2.rh.kept gst (Y.row_apart o2.rh hr2 (by decide)), o2.h0, o2.np, by rw [List.length_set]; exact o2.nl, o2.nh⟩
  have HR3 := Zh (And.right RS2)
  have HB3 : Hid (Below H0 w (w2.setCell ⟨g0, i * 5 + 4, none⟩ (.int .i64 s.now))) := Zh (((HB0.out.trans (hb2.mono HB0.out.size)).mono HH0.out).grown gst (Nat.le_trans HH0.out (Nat.le_trans HB0.out.size hb2.size)) (fun q hq => by cases hq; exact (hr2.lt g0 rfl).1))
  have HO3 := Zh ho3
  obtain ⟨w3, hw3⟩ : ∃ W, w2.setCell ⟨g0, i * 5 + 4, none⟩ (.int .i64 s.now) = W := ⟨_, rfl⟩
  rw [hw3] at HR3 HB3 HO3 ⊢
  clear hw3 ho3 o2 hst gst hgr hgb kb2 fst cst hr2 hb2 hb hcell
  have r0 := Zv HR3.out 0 (.int .i64 r.k)
  have r1 := Zv HR3.out 1 (.int .i64 r.s)
  have r2 := Zv HR3.out 2 (.int .i64 r.a)
  have r3 := Zv HR3.out 3 (.int .i64 r.b)
  have r4 := Zv HR3.out 4 (.int .i64 r.n)
  have r5 := Zv HR3.out 5 (.int .i64 r.p.q)
  have r6 := Zv HR3.out 6 (.int .i64 r.p.i)
  have r7 := Zv HR3.out 7 (.int .i64 r.p.h)
  have r8 := Zv HR3.out 8 (.bool r.p.pair)
  go_wp2_with fail
  refine (zd6 w3.heap.size b _ _ [] (.slice none 0 0) 0 0 r.a r.b w3 (HO3.out.win HO3.out.k.lt (Nat.le_refl _))).mono ?_
  clear r0 r1 r2 r3 r4 r5 r6 r7 r8
  rintro e w4 ⟨rfl, hwn, hk⟩
  have HF := Zh hwn.fin
  have HB4 := Zh (KpL.to_below HB3.out hk (Nat.le_trans HH0.out (Nat.le_trans HB3.out.size (Nat.le_refl _))) HO3.out.h0)
  clear hwn hk
  go_wp2
  first | go_end0 | skip
  have HF2 := HF.out
  rw [<- hza, <- hzb] at HF2 ⊢
  exact Y.Ends.yes (Y.refresh_is hsrt hz hs) HB4.out HF2 HW.out.up (.inr fun e he => by cases he)
open Go.RowKit
theorem zfn (H0 b : Nat) (s : Y.St) (A : Y.A9) (r : Y.Rq) (w : World) (ho : Y.Own3 w H0 b s A) (hm : Y.May s) (fb : s.d.b <= 9223372036854775807) (fc : s.d.c <= 9223372036854775807) :
  Calls Tryz.prog 83 #[.pointer (some ⟨b, 0, none⟩), Y.rval r] w fun e w' => Y.Ends w H0 b (Y.release s r.s r.a r.b) e w' := by
 have hff := ho.fits hm fb fc
 have hbl := ho.k.lt
 have HH0 : Hid (H0 <= w.heap.size) := Zh (by have := ho.h0; omega)
 obtain ⟨ap, np, cp, al, nl, cl, ah, nh, ch⟩ := A
 have hnp : np <= 600 := hff.p
 have hnl : nl <= 600 := hff.l
 have hnh : nh <= 600 := hff.h
 have HM := Zh hm
 have HFF := Zh hff
 have HW := Zh ho
 have HB0 := Zh (Below.refl w.heap.size w)
 have HO0 := Zh (ho)
 have HS0 := Zh (ho.win (H := w.heap.size) ho.k.lt (Nat.le_refl _))
 clear ho hm hff
 unfold Y.rval
 obtain ⟨w1, hw1, hb, hk⟩ := Zn w 34 #[.int .i64 r.k, .int .i64 r.s, .int .i64 r.a, .int .i64 r.b, .int .i64 r.n, .int .i64 r.p.q, .int .i64 r.p.i, .int .i64 r.p.h, .bool r.p.pair]
 replace HO0 := Zh (HO0.out.below hb)
 replace HS0 := Zh (HS0.out.below hb)
 replace HB0 := Zt HB0 hb
 have KR1 := Zh hk
 clear hb hk
 have hsrt := HM.out.2.2.2.2.2.1
 rcases L.find_cases s.l r.a r.b with ⟨hfd, _⟩ | ⟨i, z, hfd, hz, hza, hzb, _⟩
 rotate_left
 by_cases hs : z.s = r.s
 rotate_left
 ·skip
  go_enter Tryz.func83, Tryz.ntmps83
  go_wp2_with fail
  try rw [hw1]
  clear hw1
  refine Zd (fun w' => Below w1.heap.size w1 w') (zaa w1) fun RS0 => ?_
  refine Zq 0 b 0 RS0 ?_
  refine Zq 1 b 0 RS0 ?_
  refine Zq 2 b 0 RS0 ?_
  refine Zq 3 b 0 RS0 ?_
  refine Zq 4 b 14 RS0 ?_
  refine Zl 5 (.slice al nl cl) rfl (fun w9 hS => by
     have y14 := Zv (HO0.out.k.below hS HO0.out.k.lt) 14 (.slice al nl cl)
     go_simp) RS0 ?_
  refine Zq 6 b 0 RS0 ?_
  refine Zl 7 (.agg #[.int .i64 r.k, .int .i64 r.s, .int .i64 r.a, .int .i64 r.b, .int .i64 r.n, .int .i64 r.p.q, .int .i64 r.p.i, .int .i64 r.p.h, .bool r.p.pair]) rfl (fun w9 hS => by
     have q := KR1.out.below hS KR1.out.lt
     have y0 := Zv q 0 (.int .i64 r.k)
     have y1 := Zv q 1 (.int .i64 r.s)
     have y2 := Zv q 2 (.int .i64 r.a)
     have y3 := Zv q 3 (.int .i64 r.b)
     have y4 := Zv q 4 (.int .i64 r.n)
     have y5 := Zv q 5 (.int .i64 r.p.q)
     have y6 := Zv q 6 (.int .i64 r.p.i)
     have y7 := Zv q 7 (.int .i64 r.p.h)
     have y8 := Zv q 8 (.bool r.p.pair)
     go_simp) RS0 ?_
  refine Zq 11 b 0 RS0 ?_
  refine Zq 12 b 0 RS0 ?_
  refine Zq 13 b 0 RS0 ?_
  refine Zq 14 b 12 RS0 ?_
  refine Zl 15 (.int .i64 s.now) rfl (fun w9 hS => by
     have y12 := Zv (HO0.out.k.below hS HO0.out.k.lt) 12 (.int .i64 s.now)
     go_simp) RS0 ?_
  refine zaj (i := 8) (f := 138) (args := #[.pointer (some ⟨b, 0, none⟩), .agg #[.int .i64 r.k, .int .i64 r.s, .int .i64 r.a, .int .i64 r.b, .int .i64 r.n, .int .i64 r.p.q, .int .i64 r.p.i, .int .i64 r.p.h, .bool r.p.pair]]) (by kernel_rfl) rfl (by kernel_rfl) (by kernel_rfl) (zjc w.heap.size b s ⟨ap, np, cp, al, nl, cl, ah, nh, ch⟩ [] (.slice none 0 0) 0 0 r _ (HS0.out.below RS0) (by show nl <= 600; omega) i z hfd hz hs) ?_
  rintro e w2 ⟨rfl, hb⟩
  refine ⟨_, rfl, ?_⟩
  exact ⟨rfl, Y.Ends.no (Y.use_no hsrt (.inr ⟨i, z, hz, hza, hzb, hs⟩)).2 (by decide) ((HB0.out.trans ((Below.trans RS0 (hb.mono (Below.size RS0))).mono HB0.out.size)).mono HH0.out)⟩
 ·skip
  go_enter Tryz.func83, Tryz.ntmps83
  go_wp2_with fail
  try rw [hw1]
  clear hw1
  refine Zd (fun w' => Below w1.heap.size w1 w') (zaa w1) fun RS0 => ?_
  refine Zq 0 b 0 RS0 ?_
  refine Zq 1 b 0 RS0 ?_
  refine Zq 2 b 0 RS0 ?_
  refine Zq 3 b 0 RS0 ?_
  refine Zq 4 b 14 RS0 ?_
  refine Zl 5 (.slice al nl cl) rfl (fun w9 hS => by
     have y14 := Zv (HO0.out.k.below hS HO0.out.k.lt) 14 (.slice al nl cl)
     go_simp) RS0 ?_
  refine Zq 6 b 0 RS0 ?_
  refine Zl 7 (.agg #[.int .i64 r.k, .int .i64 r.s, .int .i64 r.a, .int .i64 r.b, .int .i64 r.n, .int .i64 r.p.q, .int .i64 r.p.i, .int .i64 r.p.h, .bool r.p.pair]) rfl (fun w9 hS => by
     have q := KR1.out.below hS KR1.out.lt
     have y0 := Zv q 0 (.int .i64 r.k)
     have y1 := Zv q 1 (.int .i64 r.s)
     have y2 := Zv q 2 (.int .i64 r.a)
     have y3 := Zv q 3 (.int .i64 r.b)
     have y4 := Zv q 4 (.int .i64 r.n)
     have y5 := Zv q 5 (.int .i64 r.p.q)
     have y6 := Zv q 6 (.int .i64 r.p.i)
     have y7 := Zv q 7 (.int .i64 r.p.h)
     have y8 := Zv q 8 (.bool r.p.pair)
     go_simp) RS0 ?_
  refine Zq 11 b 0 RS0 ?_
  refine Zq 12 b 0 RS0 ?_
  refine Zq 13 b 0 RS0 ?_
  refine Zq 14 b 12 RS0 ?_
  refine Zl 15 (.int .i64 s.now) rfl (fun w9 hS => by
     have y12 := Zv (HO0.out.k.below hS HO0.out.k.lt) 12 (.int .i64 s.now)
     go_simp) RS0 ?_
  refine zaj (i := 8) (f := 138) (args := #[.pointer (some ⟨b, 0, none⟩), .agg #[.int .i64 r.k, .int .i64 r.s, .int .i64 r.a, .int .i64 r.b, .int .i64 r.n, .int .i64 r.p.q, .int .i64 r.p.i, .int .i64 r.p.h, .bool r.p.pair]]) (by kernel_rfl) rfl (by kernel_rfl) (by kernel_rfl) (zjb w.heap.size b s ⟨ap, np, cp, al, nl, cl, ah, nh, ch⟩ [] (.slice none 0 0) 0 0 r _ (HS0.out.below RS0) (by show nl <= 600; omega) hfd) ?_
  rintro e w2 ⟨rfl, hb⟩
  refine ⟨_, rfl, ?_⟩
  exact ⟨rfl, Y.Ends.no (Y.use_no hsrt (.inl hfd)).2 (by decide) ((HB0.out.trans ((Below.trans RS0 (hb.mono (Below.size RS0))).mono HB0.out.size)).mono HH0.out)⟩
 ·skip
  have hin : i < nl := by have := (List.getElem?_eq_some_iff.1 hz).1; have h2 : s.l.length = nl := HW.out.nl; omega
  have hcell := fun w9 (hS : Below w1.heap.size w1 w9) => ((HO0.out.below hS).rl : w9.ownsRow H0 58 5 (.slice al nl cl) nl (L.flat s.l))
  obtain ⟨g0, rfl, -⟩ : ∃ g0, al = some ⟨g0, 0, none⟩ /\ True := by
   rcases (HO0.out.rl : w1.ownsRow H0 58 5 (.slice al nl cl) nl (L.flat s.l)).2 with ⟨h0, h1⟩ | ⟨q, cap, cur, h1, _⟩
   ·have : nl = 0 := h1; omega
   ·simp only [Value.slice.injEq] at h1; exact ⟨q, h1.1, trivial⟩
  have i0 : (0 : Int) <= i := by omega
  have i1 : (i : Int) < nl := by omega
  go_enter Tryz.func83, Tryz.ntmps83
  go_wp2_with fail
  try rw [hw1]
  clear hw1
  refine Zd (fun w' => KpL w1.heap.size b w1 w' /\ w'.cell? ⟨b, 12, none⟩ = some (.int .i64 s.now)) (⟨KpL.of_below (zaa w1) (Nat.le_refl _), HO0.out.k.cell 12⟩) fun RS0 => ?_
  refine Zq 0 b 0 RS0 ?_
  refine Zq 1 b 0 RS0 ?_
  refine Zq 2 b 0 RS0 ?_
  refine Zq 3 b 0 RS0 ?_
  refine Zq 4 b 14 RS0 ?_
  refine Zq 6 b 0 RS0 ?_
  refine Zl 7 (.agg #[.int .i64 r.k, .int .i64 r.s, .int .i64 r.a, .int .i64 r.b, .int .i64 r.n, .int .i64 r.p.q, .int .i64 r.p.i, .int .i64 r.p.h, .bool r.p.pair]) rfl (fun w9 hS => by
     have y0 : w9.cell? ⟨w.heap.size, 0, none⟩ = some (.int .i64 r.k) := zai (KR1.out.cell 0) hS.1 KR1.out.lt (by omega)
     have y1 : w9.cell? ⟨w.heap.size, 1, none⟩ = some (.int .i64 r.s) := zai (KR1.out.cell 1) hS.1 KR1.out.lt (by omega)
     have y2 : w9.cell? ⟨w.heap.size, 2, none⟩ = some (.int .i64 r.a) := zai (KR1.out.cell 2) hS.1 KR1.out.lt (by omega)
     have y3 : w9.cell? ⟨w.heap.size, 3, none⟩ = some (.int .i64 r.b) := zai (KR1.out.cell 3) hS.1 KR1.out.lt (by omega)
     have y4 : w9.cell? ⟨w.heap.size, 4, none⟩ = some (.int .i64 r.n) := zai (KR1.out.cell 4) hS.1 KR1.out.lt (by omega)
     have y5 : w9.cell? ⟨w.heap.size, 5, none⟩ = some (.int .i64 r.p.q) := zai (KR1.out.cell 5) hS.1 KR1.out.lt (by omega)
     have y6 : w9.cell? ⟨w.heap.size, 6, none⟩ = some (.int .i64 r.p.i) := zai (KR1.out.cell 6) hS.1 KR1.out.lt (by omega)
     have y7 : w9.cell? ⟨w.heap.size, 7, none⟩ = some (.int .i64 r.p.h) := zai (KR1.out.cell 7) hS.1 KR1.out.lt (by omega)
     have y8 : w9.cell? ⟨w.heap.size, 8, none⟩ = some (.bool r.p.pair) := zai (KR1.out.cell 8) hS.1 KR1.out.lt (by omega)
     go_simp) RS0 ?_
  refine Zq 11 b 0 RS0 ?_
  refine Zq 12 b 0 RS0 ?_
  refine Zq 13 b 0 RS0 ?_
  refine Zq 14 b 12 RS0 ?_
  refine Zl 15 (.int .i64 s.now) rfl (fun w9 hS => by
     have y12 := hS.2
     go_simp) RS0 ?_
  have hkL : ∀ w9, KpL w1.heap.size b w1 w9 -> RIn w9 (some ⟨g0, 0, none⟩) nl cl s.l := fun w9 hk => hk.rin (HO0.out.i.l : RIn w1 (some ⟨g0, 0, none⟩) nl cl s.l) (.inr fun q hq => by
   cases hq
   exact ⟨((HO0.out.rl : w1.ownsRow H0 58 5 (.slice (some ⟨g0, 0, none⟩) nl cl) nl (L.flat s.l)).lt g0 rfl).2, za4 (HO0.out.rl : w1.ownsRow H0 58 5 (.slice (some ⟨g0, 0, none⟩) nl cl) nl (L.flat s.l)) HO0.out.k (by decide) rfl⟩)
  refine za8 (i := 5) (j := 8) (by kernel_rfl) ?_ ?_
  ·skip
   have c14 : (World.drew w1).cell? ⟨b, 14, none⟩ = some (.slice (some ⟨g0, 0, none⟩) nl cl) := HO0.out.k.cell 14
   refine zam (v := .slice (some ⟨g0, 0, none⟩) nl cl) (w' := World.drew w1) rfl (by kernel_rfl) (by go_simp) ⟨RS0, ?_⟩
   clear c14
   refine Zc 8 138 #[.pointer (some ⟨b, 0, none⟩), .agg #[.int .i64 r.k, .int .i64 r.s, .int .i64 r.a, .int .i64 r.b, .int .i64 r.n, .int .i64 r.p.q, .int .i64 r.p.i, .int .i64 r.p.h, .bool r.p.pair]] (zd7 w.heap.size b s ⟨ap, np, cp, some ⟨g0, 0, none⟩, nl, cl, ah, nh, ch⟩ [] (.slice none 0 0) 0 0 r _ (HS0.out.below (zaa w1)) (by show nl <= 600; omega) i z hfd hz hs) ?_
   rintro e w2 ⟨rfl, hb⟩
   have hb2 : Below w1.heap.size w1 w2 := (zaa w1).trans hb
   refine Zu (⟨(And.left RS0).t (KpL.of_below hb (And.left RS0).1.size), zap (And.right RS0) hb⟩) fun RS1 => ?_
   refine wpAnyH_take (i := 9) (v := .pointer (some ⟨g0, i * 5, none⟩)) rfl (by kernel_rfl) (by kernel_rfl) (by kernel_rfl) (fun _ _ _ h => h) (.inl ⟨by kernel_rfl, fun w9 hS => by go_simp⟩) RS1 ?_
   refine Zl 10 (.agg #[.int .i64 z.s, .int .i64 z.a, .int .i64 z.b, .int .i64 z.f, .int .i64 z.t]) rfl (fun w9 hS => by
      obtain ⟨p0, p1, p2, p3, p4⟩ := Y.ls_at (hkL w9 hS.1) hz
      simp only [Nat.zero_add] at p0 p1 p2 p3 p4
      go_simp) RS1 ?_
   have ho2 := HO0.out.below hb2
   have hH : w1.heap.size <= w2.heap.size := hb2.size
   have hbw1 := HO0.out.k.lt
   refine Zc 16 139 #[.pointer (some ⟨b, 0, none⟩), .agg #[.int .i64 z.s, .int .i64 z.a, .int .i64 z.b, .int .i64 z.f, .int .i64 z.t], .int .i64 s.now] (zcw w1.heap.size b s ⟨ap, np, cp, some ⟨g0, 0, none⟩, nl, cl, ah, nh, ch⟩ [] (.slice none 0 0) 0 0 z s.now w2 (ho2.win hbw1 hH) ⟨by have h2 : s.l.length = nl := HW.out.nl; omega, by have h2 : s.h.length = nh := HW.out.nh; omega, by decide⟩ (by have := HM.out.2.2.2.1; omega) (by have := HM.out.2.1; unfold Y.MayP at this; omega)) ?_
   rintro e w3 ⟨rfl, A3, v3, hwn, hk3, hu3⟩
   refine Zu (⟨(And.left RS1).t hk3, hwn.k.cell 12⟩) fun RS2 => ?_
   refine wpAnyH_done (by kernel_rfl) ?_ _
   have HU3 : Hid (Y.Up H0 A3) := Zh ⟨fun q hq => HW.out.up.1 q (hu3.2.1.symm.trans hq), fun q hq => Nat.le_trans HH0.out (Nat.le_trans HB0.out.size (hu3.1 q hq)), fun q hq => hu3.2.2.elim (fun e => HW.out.up.2.2 q (e.symm.trans hq)) (fun e => Nat.le_trans HH0.out (Nat.le_trans HB0.out.size (e q hq)))⟩
   clear hu3
   have HN3 := Zh hwn
   have HR3 : Hid (Blok w3 w.heap.size 34 #[.int .i64 r.k, .int .i64 r.s, .int .i64 r.a, .int .i64 r.b, .int .i64 r.n, .int .i64 r.p.q, .int .i64 r.p.i, .int .i64 r.p.h, .bool r.p.pair]) := Zh ((And.left RS2).blok KR1.out KR1.out.lt (by omega))
   have HK3 := Zh (And.left RS2)
   clear hwn hk3 hb hb2 ho2 hkL hcell
   have r0 := Zv HR3.out 0 (.int .i64 r.k)
   have r1 := Zv HR3.out 1 (.int .i64 r.s)
   have r2 := Zv HR3.out 2 (.int .i64 r.a)
   have r3 := Zv HR3.out 3 (.int .i64 r.b)
   have r4 := Zv HR3.out 4 (.int .i64 r.n)
   have r5 := Zv HR3.out 5 (.int .i64 r.p.q)
   have r6 := Zv HR3.out 6 (.int .i64 r.p.i)
   have r7 := Zv HR3.out 7 (.int .i64 r.p.h)
   have r8 := Zv HR3.out 8 (.bool r.p.pair)
   go_wp2_with fail
   refine (zd6 w1.heap.size b _ _ _ _ 0 0 r.a r.b w3 HN3.out).mono ?_
   clear r0 r1 r2 r3 r4 r5 r6 r7 r8
   rintro e w4 ⟨rfl, hwn, hk⟩
   have HF2 := hwn.fin
   have HB4 := KpL.to_below (HB0.out.mono HH0.out) (HK3.out.t hk) (Nat.le_trans HH0.out HB0.out.size) HW.out.h0
   have HF := Zh HF2
   have HB5 := Zh HB4
   clear hwn hk HF2 HB4
   go_wp2
   first | go_end0 | skip
   have HF2 := HF.out
   rw [<- hza, <- hzb] at HF2 ⊢
   exact Y.Ends.yes (Y.release_is hsrt hz hs) HB5.out HF2 HU3.out (.inr (Y.ev1 (show (1 : Int) ≠ 0 by decide)))
  ·skip
   refine zbo (f := 138) (args := #[.pointer (some ⟨b, 0, none⟩), .agg #[.int .i64 r.k, .int .i64 r.s, .int .i64 r.a, .int .i64 r.b, .int .i64 r.n, .int .i64 r.p.q, .int .i64 r.p.i, .int .i64 r.p.h, .bool r.p.pair]]) rfl (by kernel_rfl) (by kernel_rfl) (zd7 w.heap.size b s ⟨ap, np, cp, some ⟨g0, 0, none⟩, nl, cl, ah, nh, ch⟩ [] (.slice none 0 0) 0 0 r _ (HS0.out.below (zaa w1)) (by show nl <= 600; omega) i z hfd hz hs) ?_
   rintro e w2 ⟨rfl, hb⟩
   have hb2 : Below w1.heap.size w1 w2 := (zaa w1).trans hb
   refine Zu (⟨(And.left RS0).t (KpL.of_below hb (And.left RS0).1.size), zap (And.right RS0) hb⟩) fun RS1 => ?_
   have c14 : w2.cell? ⟨b, 14, none⟩ = some (.slice (some ⟨g0, 0, none⟩) nl cl) := (HO0.out.below hb2).k.cell 14
   refine zat (i := 5) (v := .slice (some ⟨g0, 0, none⟩) nl cl) (by kernel_rfl) rfl (by kernel_rfl) (by go_simp) RS1 ?_
   clear c14
   refine wpAnyH_take (i := 9) (v := .pointer (some ⟨g0, i * 5, none⟩)) rfl (by kernel_rfl) (by kernel_rfl) (by kernel_rfl) (fun _ _ _ h => h) (.inl ⟨by kernel_rfl, fun w9 hS => by go_simp⟩) RS1 ?_
   refine Zl 10 (.agg #[.int .i64 z.s, .int .i64 z.a, .int .i64 z.b, .int .i64 z.f, .int .i64 z.t]) rfl (fun w9 hS => by
      obtain ⟨p0, p1, p2, p3, p4⟩ := Y.ls_at (hkL w9 hS.1) hz
      simp only [Nat.zero_add] at p0 p1 p2 p3 p4
      go_simp) RS1 ?_
   have ho2 := HO0.out.below hb2
   have hH : w1.heap.size <= w2.heap.size := hb2.size
   have hbw1 := HO0.out.k.lt
   refine Zc 16 139 #[.pointer (some ⟨b, 0, none⟩), .agg #[.int .i64 z.s, .int .i64 z.a, .int .i64 z.b, .int .i64 z.f, .int .i64 z.t], .int .i64 s.now] (zcw w1.heap.size b s ⟨ap, np, cp, some ⟨g0, 0, none⟩, nl, cl, ah, nh, ch⟩ [] (.slice none 0 0) 0 0 z s.now w2 (ho2.win hbw1 hH) ⟨by have h2 : s.l.length = nl := HW.out.nl; omega, by have h2 : s.h.length = nh := HW.out.nh; omega, by decide⟩ (by have := HM.out.2.2.2.1; omega) (by have := HM.out.2.1; unfold Y.MayP at this; omega)) ?_
   rintro e w3 ⟨rfl, A3, v3, hwn, hk3, hu3⟩
   refine Zu (⟨(And.left RS1).t hk3, hwn.k.cell 12⟩) fun RS2 => ?_
   refine wpAnyH_done (by kernel_rfl) ?_ _
   have HU3 : Hid (Y.Up H0 A3) := Zh ⟨fun q hq => HW.out.up.1 q (hu3.2.1.symm.trans hq), fun q hq => Nat.le_trans HH0.out (Nat.le_trans HB0.out.size (hu3.1 q hq)), fun q hq => hu3.2.2.elim (fun e => HW.out.up.2.2 q (e.symm.trans hq)) (fun e => Nat.le_trans HH0.out (Nat.le_trans HB0.out.size (e q hq)))⟩
   clear hu3
   have HN3 := Zh hwn
   have HR3 : Hid (Blok w3 w.heap.size 34 #[.int .i64 r.k, .int .i64 r.s, .int .i64 r.a, .int .i64 r.b, .int .i64 r.n, .int .i64 r.p.q, .int .i64 r.p.i, .int .i64 r.p.h, .bool r.p.pair]) := Zh ((And.left RS2).blok KR1.out KR1.out.lt (by omega))
   have HK3 := Zh (And.left RS2)
   clear hwn hk3 hb hb2 ho2 hkL hcell
   have r0 := Zv HR3.out 0 (.int .i64 r.k)
   have r1 := Zv HR3.out 1 (.int .i64 r.s)
   have r2 := Zv HR3.out 2 (.int .i64 r.a)
   have r3 := Zv HR3.out 3 (.int .i64 r.b)
   have r4 := Zv HR3.out 4 (.int .i64 r.n)
   have r5 := Zv HR3.out 5 (.int .i64 r.p.q)
   have r6 := Zv HR3.out 6 (.int .i64 r.p.i)
   have r7 := Zv HR3.out 7 (.int .i64 r.p.h)
   have r8 := Zv HR3.out 8 (.bool r.p.pair)
   go_wp2_with fail
   refine (zd6 w1.heap.size b _ _ _ _ 0 0 r.a r.b w3 HN3.out).mono ?_
   clear r0 r1 r2 r3 r4 r5 r6 r7 r8
   rintro e w4 ⟨rfl, hwn, hk⟩
   have HF2 := hwn.fin
   have HB4 := KpL.to_below (HB0.out.mono HH0.out) (HK3.out.t hk) (Nat.le_trans HH0.out HB0.out.size) HW.out.h0
   have HF := Zh HF2
   have HB5 := Zh HB4
   clear hwn hk HF2 HB4
   go_wp2
   first | go_end0 | skip
   have HF2 := HF.out
   rw [<- hza, <- hzb] at HF2 ⊢
   exact Y.Ends.yes (Y.release_is hsrt hz hs) HB5.out HF2 HU3.out (.inr (Y.ev1 (show (1 : Int) ≠ 0 by decide)))
end Go.Proofs.YtonejangijkdmaaGreat
