import Derived.Test.YtonejangijkdmaaGreatYP4
import Derived.Test.YtonejangijkdmaaGreatBP
namespace Go.Proofs.YtonejangijkdmaaGreat
set_option maxHeartbeats 2000000
set_option maxRecDepth 100000
open Go.RowKit
theorem Y.set3b {V : World} {g : Nat} {t : TypeId} {u v z : Value} (h : Blok V g t #[u, v, z]) (x y q : Int) : Blok (((V.setCell ⟨g, 0, none⟩ (.int .i64 x)).setCell ⟨g, 1, none⟩ (.int .i64 y)).setCell ⟨g, 2, none⟩ (.int .i64 q)) g t #[.int .i64 x, .int .i64 y, .int .i64 q] := by
 have := ((h.set 0 (.int .i64 x)).set 1 (.int .i64 y)).set 2 (.int .i64 q)
 simpa using this
theorem Y.below3 {V : World} {g n : Nat} {w : World} (h : Below n w V) (hg : n <= g) (x y q : Value) : Below n w (((V.setCell ⟨g, 0, none⟩ x).setCell ⟨g, 1, none⟩ y).setCell ⟨g, 2, none⟩ q) :=
 ((h.setCell (p := ⟨g, 0, none⟩) hg _).setCell (p := ⟨g, 1, none⟩) hg _).setCell (p := ⟨g, 2, none⟩) hg _
theorem zdg (H b : Nat) (s : Y.St) (A : Y.A9) (evs : List Y.Ev) (ve : Value) (x y : Int) (own : Int) (w : World) (h : Y.WIn w H b s A evs ve x y) (hm : Y.May s) (hf : Y.Fits A s) (a c : Int) (hp : Y.pk s own = (0, a, c)) :
  Calls Tryz.prog 134 #[.pointer (some ⟨b, 0, none⟩), .int .i64 own] w fun e w' => e = .returned (.agg #[.int .i64 a, .int .i64 c]) /\ Below w.heap.size w w' := by
 unfold Y.pk at hp
 by_cases h1 : s.p.pair = true
 ·rw [if_pos h1] at hp
  by_cases h2 : O.of s.ps own < 0
  ·rw [if_pos h2] at hp; simp at hp
  rw [if_neg h2] at hp
  by_cases h3 : O.gives s.ps own = false
  ·rw [if_pos h3] at hp; simp at hp
  rw [if_neg h3] at hp
  simp only [Prod.mk.injEq, true_and] at hp
  obtain ⟨rfl, rfl⟩ := hp
  exact zje H b s A evs ve x y own w h hm hf h1 (by omega) (by simpa using h3)
 ·rw [if_neg h1] at hp
  simp only [Prod.mk.injEq, true_and] at hp
  obtain ⟨rfl, rfl⟩ := hp
  exact zgk H b s A evs ve x y own w h hm hf (by simpa using h1)
theorem zg3 (H b : Nat) (s : Y.St) (A : Y.A9) (evs : List Y.Ev) (ve : Value) (x y : Int) (own : Int) (w : World) (h : Y.WIn w H b s A evs ve x y) (hm : Y.May s) (hf : Y.Fits A s) (er : Int) (hp : (Y.pk s own).1 = er) (he : er ≠ 0) :
  Calls Tryz.prog 134 #[.pointer (some ⟨b, 0, none⟩), .int .i64 own] w fun e w' => e = .panicked (Y.pan er) /\ Below w.heap.size w w' := by
 unfold Y.pk at hp
 by_cases h1 : s.p.pair = true
 ·rw [if_pos h1] at hp
  by_cases h2 : O.of s.ps own < 0
  ·rw [if_pos h2] at hp
   obtain rfl : 7 = er := hp
   exact zhn H b s A evs ve x y own w h hm hf h1 h2
  rw [if_neg h2] at hp
  by_cases h3 : O.gives s.ps own = false
  ·rw [if_pos h3] at hp
   obtain rfl : 8 = er := hp
   exact zgj H b s A evs ve x y own w h hm hf h1 (by omega) h3
  rw [if_neg h3] at hp
  exact absurd hp.symm he
 ·rw [if_neg h1] at hp
  exact absurd hp.symm he
theorem zhq (H0 b : Nat) (s : Y.St) (A : Y.A9) (r : Y.Rq) (w : World) (ho : Y.Own3 w H0 b s A) (hm : Y.May s) (fb : s.d.b <= 9223372036854775807) (fc : s.d.c <= 9223372036854775807) (h1 : E.baseB s.d r.s = false) :
  Calls Tryz.prog 81 #[.pointer (some ⟨b, 0, none⟩), Y.rval r] w fun e w' => Y.Ends w H0 b (Y.grant s r.s) e w' := by
 have hff := ho.fits hm fb fc
 have hbl := ho.k.lt
 have HH0 : Hid (H0 <= w.heap.size) := Zh (by have := ho.h0; omega)
 obtain ⟨ap, np, cp, al, nl, cl, ah, nh, ch⟩ := A
 have hnp : np <= 600 := hff.p
 have hnl : nl <= 600 := hff.l
 have hnh : nh <= 600 := hff.h
 have HM := Zh hm
 have HFF := Zh hff
 have HW := Zh ho
 have HB0 := Zh (Below.refl w.heap.size w)
 have HO0 := Zh (ho)
 have HS0 := Zh (ho.win (H := w.heap.size) ho.k.lt (Nat.le_refl _))
 clear ho hm hff
 unfold Y.rval
 obtain ⟨w1, hw1, hb, hk⟩ := Zn w 34 #[.int .i64 r.k, .int .i64 r.s, .int .i64 r.a, .int .i64 r.b, .int .i64 r.n, .int .i64 r.p.q, .int .i64 r.p.i, .int .i64 r.p.h, .bool r.p.pair]
 have HO1 := Zh (HO0.out.below hb)
 replace HS0 := Zh (HS0.out.below hb)
 have HB1 := Zt HB0 hb
 have KR1 := Zh hk
 clear hb hk HO0 HB0
 have HGP := Zh (Y.grant_pk s r.s)
 obtain ⟨ba, hba⟩ : ∃ v, E.baseA s.d r.s = v := ⟨_, rfl⟩
 obtain ⟨bf, hbf⟩ : ∃ v, E.baseF s.d r.s = v := ⟨_, rfl⟩
 obtain ⟨bt, hbt⟩ : ∃ v, E.baseT s.d r.s = v := ⟨_, rfl⟩
 rw [hba] at HGP
 have cb := fun W => zcb s.d r.s ba bf bt false W h1 hba hbf hbt fb fc
 clear hbf hbt
 clear hba
 go_enter Tryz.func81, Tryz.ntmps81
 go_wp2_with fail
 try rw [hw1]
 clear hw1
 refine Zd (fun w' => Below w1.heap.size w1 w') (zaa w1) fun RS0 => ?_
 refine Zq 0 b 0 RS0 ?_
 refine Zq 1 b 0 RS0 ?_
 refine Zq 2 b 0 RS0 ?_
 refine Zq 3 b 0 RS0 ?_
 refine Zl 4 (.agg #[.int .i64 s.d.b, .int .i64 s.d.k, .int .i64 s.d.c, .int .i64 s.d.j, .int .i64 s.d.lo, .int .i64 s.d.hi, .int .i64 s.d.dy, .int .i64 s.d.bl]) rfl (fun w9 hS => by
    have q := HO1.out.k.below hS HO1.out.k.lt
    have y0 := Zv q 0 (.int .i64 s.d.b)
    have y1 := Zv q 1 (.int .i64 s.d.k)
    have y2 := Zv q 2 (.int .i64 s.d.c)
    have y3 := Zv q 3 (.int .i64 s.d.j)
    have y4 := Zv q 4 (.int .i64 s.d.lo)
    have y5 := Zv q 5 (.int .i64 s.d.hi)
    have y6 := Zv q 6 (.int .i64 s.d.dy)
    have y7 := Zv q 7 (.int .i64 s.d.bl)
    go_simp) RS0 ?_
 refine Zq 5 w.heap.size 1 RS0 ?_
 refine Zl 6 (.int .i64 r.s) rfl (fun w9 hS => by
    have y1 := Zv (KR1.out.below hS KR1.out.lt) 1 (.int .i64 r.s)
    go_simp) RS0 ?_
 refine za8 (i := 7) (j := 11) (by kernel_rfl) ?_ ?_
 ·skip
  refine zbo (f := 27) (args := #[.agg #[.int .i64 s.d.b, .int .i64 s.d.k, .int .i64 s.d.c, .int .i64 s.d.j, .int .i64 s.d.lo, .int .i64 s.d.hi, .int .i64 s.d.dy, .int .i64 s.d.bl], .int .i64 r.s]) rfl (by kernel_rfl) (by kernel_rfl) (cb _) ?_
  rintro e w2 ⟨rfl, hb⟩
  refine Zu (Zr RS0 hb) fun RS1 => ?_
  refine tk 8 (.tuple #[.agg #[.int .i64 ba, .int .i64 bf, .int .i64 bt], .bool false]) RS1 ?_
  refine tk 9 (.agg #[.int .i64 ba, .int .i64 bf, .int .i64 bt]) RS1 ?_
  refine tk 10 (.bool false) RS1 ?_
  have RA : (fun w' => Below w1.heap.size w1 w') (w2.alloc (.cells #[.int .i64 0, .int .i64 0, .int .i64 0] 54)) := Below.alloc RS1 (Below.size RS1) _
  refine zaf (i := 11) (by kernel_rfl) (zam (v := .pointer (some ⟨w2.heap.size, 0, none⟩)) (w' := w2.alloc (.cells #[.int .i64 0, .int .i64 0, .int .i64 0] 54)) rfl (by kernel_rfl) (by kernel_rfl) ⟨RA, ?_⟩)
  have KA : Blok (w2.alloc (.cells #[.int .i64 0, .int .i64 0, .int .i64 0] 54)) w2.heap.size 54 #[.int .i64 0, .int .i64 0, .int .i64 0] := Blok.new w2 _ _
  obtain ⟨sb, hsb⟩ : ∃ n, w2.heap.size = n := ⟨_, rfl⟩
  have hsbw : w1.heap.size <= sb := by rw [<- hsb]; exact Below.size RS1
  obtain ⟨w3, hw3⟩ : ∃ W, w2.alloc (.cells #[.int .i64 0, .int .i64 0, .int .i64 0] 54) = W := ⟨_, rfl⟩
  rw [hsb, hw3] at KA
  rw [hw3] at RA
  rw [hsb, hw3]
  clear hw3
  have z0 := (Y.cb3 KA).1
  have z1 := (Y.cb3 KA).2.1
  have z2 := (Y.cb3 KA).2.2
  have zf0 := KA.frozen 0
  have zf1 := KA.frozen 1
  have zf2 := KA.frozen 2
  have RS2 : (fun w' => Below w1.heap.size w1 w') (((w3.setCell ⟨sb, 0, none⟩ (.int .i64 ba)).setCell ⟨sb, 1, none⟩ (.int .i64 bf)).setCell ⟨sb, 2, none⟩ (.int .i64 bt)) := Y.below3 RA hsbw _ _ _
  refine zaf (i := 12) (by kernel_rfl) (zah (w' := ((w3.setCell ⟨sb, 0, none⟩ (.int .i64 ba)).setCell ⟨sb, 1, none⟩ (.int .i64 bf)).setCell ⟨sb, 2, none⟩ (.int .i64 bt)) rfl (by kernel_rfl) (by go_simp) ⟨RS2, ?_⟩)
  refine tk 13 (.bool false) RS2 ?_
  refine wpAnyH_done (by kernel_rfl) ?_ _
  have KB4 := Zh (Y.set3b KA ba bf bt)
  have hb4 : Below w1.heap.size w1 (((w3.setCell ⟨sb, 0, none⟩ (.int .i64 ba)).setCell ⟨sb, 1, none⟩ (.int .i64 bf)).setCell ⟨sb, 2, none⟩ (.int .i64 bt)) := RS2
  obtain ⟨w4, hw4⟩ : ∃ W, ((w3.setCell ⟨sb, 0, none⟩ (.int .i64 ba)).setCell ⟨sb, 1, none⟩ (.int .i64 bf)).setCell ⟨sb, 2, none⟩ (.int .i64 bt) = W := ⟨_, rfl⟩
  rw [hw4] at KB4 hb4 ⊢
  clear hw4 KA z0 z1 z2 zf0 zf1 zf2 cb
  have HO4 := Zh (HO1.out.below hb4)
  have KR4 := Zh (KR1.out.below hb4 KR1.out.lt)
  have HB4 := Zt HB1 hb4
  clear hb4
  go_wp2_with fail
  refine (za0 5 _).mono ?_
  rintro e w5 ⟨rfl, hb⟩
  have HO5 := Zh (HO4.out.below hb)
  replace KR4 := Zk KR4 hb
  replace KB4 := Zk KB4 hb
  have HB5 := Zt HB4 hb
  clear hb HO4 HB4
  go_wp2
  exact ⟨rfl, Y.Ends.no (by rw [HGP.out, if_pos h1]) (by decide) (HB5.out.mono HH0.out)⟩
 ·skip
  have RA : (fun w' => Below w1.heap.size w1 w') ((World.drew w1).alloc (.cells #[.int .i64 0, .int .i64 0, .int .i64 0] 54)) := Below.alloc RS0 (Below.size RS0) _
  refine zam (v := .pointer (some ⟨w1.heap.size, 0, none⟩)) (w' := (World.drew w1).alloc (.cells #[.int .i64 0, .int .i64 0, .int .i64 0] 54)) rfl (by kernel_rfl) (by kernel_rfl) ⟨RA, ?_⟩
  have KA : Blok ((World.drew w1).alloc (.cells #[.int .i64 0, .int .i64 0, .int .i64 0] 54)) w1.heap.size 54 #[.int .i64 0, .int .i64 0, .int .i64 0] := Blok.new (World.drew w1) _ _
  have hsbw : w1.heap.size <= w1.heap.size := Nat.le_refl _
  obtain ⟨w2, hw2⟩ : ∃ W, (World.drew w1).alloc (.cells #[.int .i64 0, .int .i64 0, .int .i64 0] 54) = W := ⟨_, rfl⟩
  rw [hw2] at KA RA ⊢
  clear hw2
  refine Zc 7 27 #[.agg #[.int .i64 s.d.b, .int .i64 s.d.k, .int .i64 s.d.c, .int .i64 s.d.j, .int .i64 s.d.lo, .int .i64 s.d.hi, .int .i64 s.d.dy, .int .i64 s.d.bl], .int .i64 r.s] (cb _) ?_
  rintro e w3 ⟨rfl, hb⟩
  refine Zu (Zr RA hb) fun RS1 => ?_
  have KA := KA.below hb KA.lt
  refine tk 8 (.tuple #[.agg #[.int .i64 ba, .int .i64 bf, .int .i64 bt], .bool false]) RS1 ?_
  refine tk 9 (.agg #[.int .i64 ba, .int .i64 bf, .int .i64 bt]) RS1 ?_
  refine tk 10 (.bool false) RS1 ?_
  have z0 := (Y.cb3 KA).1
  have z1 := (Y.cb3 KA).2.1
  have z2 := (Y.cb3 KA).2.2
  have zf0 := KA.frozen 0
  have zf1 := KA.frozen 1
  have zf2 := KA.frozen 2
  have RS2 : (fun w' => Below w1.heap.size w1 w') (((w3.setCell ⟨w1.heap.size, 0, none⟩ (.int .i64 ba)).setCell ⟨w1.heap.size, 1, none⟩ (.int .i64 bf)).setCell ⟨w1.heap.size, 2, none⟩ (.int .i64 bt)) := Y.below3 RS1 hsbw _ _ _
  refine zaf (i := 12) (by kernel_rfl) (zah (w' := ((w3.setCell ⟨w1.heap.size, 0, none⟩ (.int .i64 ba)).setCell ⟨w1.heap.size, 1, none⟩ (.int .i64 bf)).setCell ⟨w1.heap.size, 2, none⟩ (.int .i64 bt)) rfl (by kernel_rfl) (by go_simp) ⟨RS2, ?_⟩)
  refine tk 13 (.bool false) RS2 ?_
  refine wpAnyH_done (by kernel_rfl) ?_ _
  have KB4 := Zh (Y.set3b KA ba bf bt)
  have hb4 : Below w1.heap.size w1 (((w3.setCell ⟨w1.heap.size, 0, none⟩ (.int .i64 ba)).setCell ⟨w1.heap.size, 1, none⟩ (.int .i64 bf)).setCell ⟨w1.heap.size, 2, none⟩ (.int .i64 bt)) := RS2
  obtain ⟨w4, hw4⟩ : ∃ W, ((w3.setCell ⟨w1.heap.size, 0, none⟩ (.int .i64 ba)).setCell ⟨w1.heap.size, 1, none⟩ (.int .i64 bf)).setCell ⟨w1.heap.size, 2, none⟩ (.int .i64 bt) = W := ⟨_, rfl⟩
  rw [hw4] at KB4 hb4 ⊢
  clear hw4 KA z0 z1 z2 zf0 zf1 zf2 cb
  have HO4 := Zh (HO1.out.below hb4)
  have KR4 := Zh (KR1.out.below hb4 KR1.out.lt)
  have HB4 := Zt HB1 hb4
  clear hb4
  go_wp2_with fail
  refine (za0 5 _).mono ?_
  rintro e w5 ⟨rfl, hb⟩
  have HO5 := Zh (HO4.out.below hb)
  replace KR4 := Zk KR4 hb
  replace KB4 := Zk KB4 hb
  have HB5 := Zt HB4 hb
  clear hb HO4 HB4
  go_wp2
  exact ⟨rfl, Y.Ends.no (by rw [HGP.out, if_pos h1]) (by decide) (HB5.out.mono HH0.out)⟩
theorem zfp (H0 b : Nat) (s : Y.St) (A : Y.A9) (r : Y.Rq) (w : World) (ho : Y.Own3 w H0 b s A) (hm : Y.May s) (fb : s.d.b <= 9223372036854775807) (fc : s.d.c <= 9223372036854775807) (h1 : E.baseB s.d r.s = true) (h2 : s.p.q <= (Y.cnt s.l r.s : Nat)) :
  Calls Tryz.prog 81 #[.pointer (some ⟨b, 0, none⟩), Y.rval r] w fun e w' => Y.Ends w H0 b (Y.grant s r.s) e w' := by
 have hff := ho.fits hm fb fc
 have hbl := ho.k.lt
 have HH0 : Hid (H0 <= w.heap.size) := Zh (by have := ho.h0; omega)
 obtain ⟨ap, np, cp, al, nl, cl, ah, nh, ch⟩ := A
 have hnp : np <= 600 := hff.p
 have hnl : nl <= 600 := hff.l
 have hnh : nh <= 600 := hff.h
 have HM := Zh hm
 have HFF := Zh hff
 have HW := Zh ho
 have HB0 := Zh (Below.refl w.heap.size w)
 have HO0 := Zh (ho)
 have HS0 := Zh (ho.win (H := w.heap.size) ho.k.lt (Nat.le_refl _))
 clear ho hm hff
 unfold Y.rval
 obtain ⟨w1, hw1, hb, hk⟩ := Zn w 34 #[.int .i64 r.k, .int .i64 r.s, .int .i64 r.a, .int .i64 r.b, .int .i64 r.n, .int .i64 r.p.q, .int .i64 r.p.i, .int .i64 r.p.h, .bool r.p.pair]
 have HO1 := Zh (HO0.out.below hb)
 replace HS0 := Zh (HS0.out.below hb)
 have HB1 := Zt HB0 hb
 have KR1 := Zh hk
 clear hb hk HO0 HB0
 have HGP := Zh (Y.grant_pk s r.s)
 obtain ⟨ba, hba⟩ : ∃ v, E.baseA s.d r.s = v := ⟨_, rfl⟩
 obtain ⟨bf, hbf⟩ : ∃ v, E.baseF s.d r.s = v := ⟨_, rfl⟩
 obtain ⟨bt, hbt⟩ : ∃ v, E.baseT s.d r.s = v := ⟨_, rfl⟩
 rw [hba] at HGP
 have cb := fun W => zcb s.d r.s ba bf bt true W h1 hba hbf hbt fb fc
 clear hbf hbt
 have HQ := Zh h2
 clear h2
 clear hba
 go_enter Tryz.func81, Tryz.ntmps81
 go_wp2_with fail
 try rw [hw1]
 clear hw1
 refine Zd (fun w' => Below w1.heap.size w1 w') (zaa w1) fun RS0 => ?_
 refine Zq 0 b 0 RS0 ?_
 refine Zq 1 b 0 RS0 ?_
 refine Zq 2 b 0 RS0 ?_
 refine Zq 3 b 0 RS0 ?_
 refine Zl 4 (.agg #[.int .i64 s.d.b, .int .i64 s.d.k, .int .i64 s.d.c, .int .i64 s.d.j, .int .i64 s.d.lo, .int .i64 s.d.hi, .int .i64 s.d.dy, .int .i64 s.d.bl]) rfl (fun w9 hS => by
    have q := HO1.out.k.below hS HO1.out.k.lt
    have y0 := Zv q 0 (.int .i64 s.d.b)
    have y1 := Zv q 1 (.int .i64 s.d.k)
    have y2 := Zv q 2 (.int .i64 s.d.c)
    have y3 := Zv q 3 (.int .i64 s.d.j)
    have y4 := Zv q 4 (.int .i64 s.d.lo)
    have y5 := Zv q 5 (.int .i64 s.d.hi)
    have y6 := Zv q 6 (.int .i64 s.d.dy)
    have y7 := Zv q 7 (.int .i64 s.d.bl)
    go_simp) RS0 ?_
 refine Zq 5 w.heap.size 1 RS0 ?_
 refine Zl 6 (.int .i64 r.s) rfl (fun w9 hS => by
    have y1 := Zv (KR1.out.below hS KR1.out.lt) 1 (.int .i64 r.s)
    go_simp) RS0 ?_
 refine za8 (i := 7) (j := 11) (by kernel_rfl) ?_ ?_
 ·skip
  refine zbo (f := 27) (args := #[.agg #[.int .i64 s.d.b, .int .i64 s.d.k, .int .i64 s.d.c, .int .i64 s.d.j, .int .i64 s.d.lo, .int .i64 s.d.hi, .int .i64 s.d.dy, .int .i64 s.d.bl], .int .i64 r.s]) rfl (by kernel_rfl) (by kernel_rfl) (cb _) ?_
  rintro e w2 ⟨rfl, hb⟩
  refine Zu (Zr RS0 hb) fun RS1 => ?_
  refine tk 8 (.tuple #[.agg #[.int .i64 ba, .int .i64 bf, .int .i64 bt], .bool true]) RS1 ?_
  refine tk 9 (.agg #[.int .i64 ba, .int .i64 bf, .int .i64 bt]) RS1 ?_
  refine tk 10 (.bool true) RS1 ?_
  have RA : (fun w' => Below w1.heap.size w1 w') (w2.alloc (.cells #[.int .i64 0, .int .i64 0, .int .i64 0] 54)) := Below.alloc RS1 (Below.size RS1) _
  refine zaf (i := 11) (by kernel_rfl) (zam (v := .pointer (some ⟨w2.heap.size, 0, none⟩)) (w' := w2.alloc (.cells #[.int .i64 0, .int .i64 0, .int .i64 0] 54)) rfl (by kernel_rfl) (by kernel_rfl) ⟨RA, ?_⟩)
  have KA : Blok (w2.alloc (.cells #[.int .i64 0, .int .i64 0, .int .i64 0] 54)) w2.heap.size 54 #[.int .i64 0, .int .i64 0, .int .i64 0] := Blok.new w2 _ _
  obtain ⟨sb, hsb⟩ : ∃ n, w2.heap.size = n := ⟨_, rfl⟩
  have hsbw : w1.heap.size <= sb := by rw [<- hsb]; exact Below.size RS1
  obtain ⟨w3, hw3⟩ : ∃ W, w2.alloc (.cells #[.int .i64 0, .int .i64 0, .int .i64 0] 54) = W := ⟨_, rfl⟩
  rw [hsb, hw3] at KA
  rw [hw3] at RA
  rw [hsb, hw3]
  clear hw3
  have z0 := (Y.cb3 KA).1
  have z1 := (Y.cb3 KA).2.1
  have z2 := (Y.cb3 KA).2.2
  have zf0 := KA.frozen 0
  have zf1 := KA.frozen 1
  have zf2 := KA.frozen 2
  have RS2 : (fun w' => Below w1.heap.size w1 w') (((w3.setCell ⟨sb, 0, none⟩ (.int .i64 ba)).setCell ⟨sb, 1, none⟩ (.int .i64 bf)).setCell ⟨sb, 2, none⟩ (.int .i64 bt)) := Y.below3 RA hsbw _ _ _
  refine zaf (i := 12) (by kernel_rfl) (zah (w' := ((w3.setCell ⟨sb, 0, none⟩ (.int .i64 ba)).setCell ⟨sb, 1, none⟩ (.int .i64 bf)).setCell ⟨sb, 2, none⟩ (.int .i64 bt)) rfl (by kernel_rfl) (by go_simp) ⟨RS2, ?_⟩)
  refine tk 13 (.bool true) RS2 ?_
  refine wpAnyH_done (by kernel_rfl) ?_ _
  have KB4 := Zh (Y.set3b KA ba bf bt)
  have hb4 : Below w1.heap.size w1 (((w3.setCell ⟨sb, 0, none⟩ (.int .i64 ba)).setCell ⟨sb, 1, none⟩ (.int .i64 bf)).setCell ⟨sb, 2, none⟩ (.int .i64 bt)) := RS2
  obtain ⟨w4, hw4⟩ : ∃ W, ((w3.setCell ⟨sb, 0, none⟩ (.int .i64 ba)).setCell ⟨sb, 1, none⟩ (.int .i64 bf)).setCell ⟨sb, 2, none⟩ (.int .i64 bt) = W := ⟨_, rfl⟩
  rw [hw4] at KB4 hb4 ⊢
  clear hw4 KA z0 z1 z2 zf0 zf1 zf2 cb
  have HO4 := Zh (HO1.out.below hb4)
  have KR4 := Zh (KR1.out.below hb4 KR1.out.lt)
  have HB4 := Zt HB1 hb4
  clear hb4
  go_wp2_with fail
  refine (zag 5 _).mono ?_
  rintro e w5 ⟨rfl, hb⟩
  have HO5 := Zh (HO4.out.below hb)
  replace KR4 := Zk KR4 hb
  replace KB4 := Zk KB4 hb
  have HB5 := Zt HB4 hb
  clear hb HO4 HB4
  obtain ⟨k, hk⟩ : ∃ k, L.of s.l r.s = k := ⟨_, rfl⟩
  have HK := Zh hk
  clear hk
  go_wp2_with fail
  refine Zd (fun w' => Below w5.heap.size w5 w') (zaa w5) fun RS0 => ?_
  refine Zq 0 b 0 RS0 ?_
  refine Zq 1 b 0 RS0 ?_
  refine Zq 2 b 0 RS0 ?_
  refine Zq 3 b 14 RS0 ?_
  refine Zl 4 (.slice al nl cl) rfl (fun w9 hS => by
     have y14 := Zv (HO5.out.k.below hS HO5.out.k.lt) 14 (.slice al nl cl)
     go_simp) RS0 ?_
  refine Zq 5 w.heap.size 1 RS0 ?_
  refine Zl 6 (.int .i64 r.s) rfl (fun w9 hS => by
     have y1 := Zv (KR4.out.below hS KR4.out.lt) 1 (.int .i64 r.s)
     go_simp) RS0 ?_
  refine Zq 9 b 0 RS0 ?_
  refine Zq 10 b 0 RS0 ?_
  refine Zq 11 b 0 RS0 ?_
  refine Zq 12 b 8 RS0 ?_
  refine Zq 13 b 8 RS0 ?_
  refine Zl 14 (.int .i64 s.p.q) rfl (fun w9 hS => by
     have y8 := Zv (HO5.out.k.below hS HO5.out.k.lt) 8 (.int .i64 s.p.q)
     go_simp) RS0 ?_
  refine Zc 7 29 #[.slice al nl cl, .int .i64 r.s] (zcp al nl cl s.l r.s k HK.out _ ((HO5.out.i.l : RIn w5 al nl cl s.l).below RS0) (by omega)) ?_
  rintro e w6 ⟨a5, c5, n5, rfl, hn5, -, hb⟩
  refine Zu (Zr RS0 hb) fun RS1 => ?_
  have HC : Hid ((n5 : Int) = (Y.cnt s.l r.s : Nat)) := Zh (by have := hn5.out; rw [<- this, <- HK.out, Y.of_len])
  clear hn5
  refine tk 8 (.int .i64 n5) RS1 ?_
  have d7 : decide ((n5 : Int) < s.p.q) = false := decide_eq_false (by rw [HC.out]; have := HQ.out; omega)
  refine wpAnyH_take (i := 15) (v := .bool false) rfl (by kernel_rfl) (by kernel_rfl) (by kernel_rfl) (fun _ _ _ h => h) (.inl ⟨by kernel_rfl, fun w9 hS => by go_simp⟩) RS1 ?_
  refine zaj (i := 16) (f := 39) (args := #[.bool false, .int .i64 6]) (by kernel_rfl) rfl (by kernel_rfl) (by kernel_rfl) (za0 6 _) ?_
  rintro e w7 ⟨rfl, hb⟩
  refine ⟨_, rfl, ?_⟩
  exact ⟨rfl, Y.Ends.no (by rw [HGP.out, if_neg (by rw [h1]; simp), if_pos HQ.out]) (by decide) ((HB5.out.trans ((Below.trans RS1 (hb.mono (Below.size RS1))).mono HB5.out.size)).mono HH0.out)⟩
 ·skip
  have RA : (fun w' => Below w1.heap.size w1 w') ((World.drew w1).alloc (.cells #[.int .i64 0, .int .i64 0, .int .i64 0] 54)) := Below.alloc RS0 (Below.size RS0) _
  refine zam (v := .pointer (some ⟨w1.heap.size, 0, none⟩)) (w' := (World.drew w1).alloc (.cells #[.int .i64 0, .int .i64 0, .int .i64 0] 54)) rfl (by kernel_rfl) (by kernel_rfl) ⟨RA, ?_⟩
  have KA : Blok ((World.drew w1).alloc (.cells #[.int .i64 0, .int .i64 0, .int .i64 0] 54)) w1.heap.size 54 #[.int .i64 0, .int .i64 0, .int .i64 0] := Blok.new (World.drew w1) _ _
  have hsbw : w1.heap.size <= w1.heap.size := Nat.le_refl _
  obtain ⟨w2, hw2⟩ : ∃ W, (World.drew w1).alloc (.cells #[.int .i64 0, .int .i64 0, .int .i64 0] 54) = W := ⟨_, rfl⟩
  rw [hw2] at KA RA ⊢
  clear hw2
  refine Zc 7 27 #[.agg #[.int .i64 s.d.b, .int .i64 s.d.k, .int .i64 s.d.c, .int .i64 s.d.j, .int .i64 s.d.lo, .int .i64 s.d.hi, .int .i64 s.d.dy, .int .i64 s.d.bl], .int .i64 r.s] (cb _) ?_
  rintro e w3 ⟨rfl, hb⟩
  refine Zu (Zr RA hb) fun RS1 => ?_
  have KA := KA.below hb KA.lt
  refine tk 8 (.tuple #[.agg #[.int .i64 ba, .int .i64 bf, .int .i64 bt], .bool true]) RS1 ?_
  refine tk 9 (.agg #[.int .i64 ba, .int .i64 bf, .int .i64 bt]) RS1 ?_
  refine tk 10 (.bool true) RS1 ?_
  have z0 := (Y.cb3 KA).1
  have z1 := (Y.cb3 KA).2.1
  have z2 := (Y.cb3 KA).2.2
  have zf0 := KA.frozen 0
  have zf1 := KA.frozen 1
  have zf2 := KA.frozen 2
  have RS2 : (fun w' => Below w1.heap.size w1 w') (((w3.setCell ⟨w1.heap.size, 0, none⟩ (.int .i64 ba)).setCell ⟨w1.heap.size, 1, none⟩ (.int .i64 bf)).setCell ⟨w1.heap.size, 2, none⟩ (.int .i64 bt)) := Y.below3 RS1 hsbw _ _ _
  refine zaf (i := 12) (by kernel_rfl) (zah (w' := ((w3.setCell ⟨w1.heap.size, 0, none⟩ (.int .i64 ba)).setCell ⟨w1.heap.size, 1, none⟩ (.int .i64 bf)).setCell ⟨w1.heap.size, 2, none⟩ (.int .i64 bt)) rfl (by kernel_rfl) (by go_simp) ⟨RS2, ?_⟩)
  refine tk 13 (.bool true) RS2 ?_
  refine wpAnyH_done (by kernel_rfl) ?_ _
  have KB4 := Zh (Y.set3b KA ba bf bt)
  have hb4 : Below w1.heap.size w1 (((w3.setCell ⟨w1.heap.size, 0, none⟩ (.int .i64 ba)).setCell ⟨w1.heap.size, 1, none⟩ (.int .i64 bf)).setCell ⟨w1.heap.size, 2, none⟩ (.int .i64 bt)) := RS2
  obtain ⟨w4, hw4⟩ : ∃ W, ((w3.setCell ⟨w1.heap.size, 0, none⟩ (.int .i64 ba)).setCell ⟨w1.heap.size, 1, none⟩ (.int .i64 bf)).setCell ⟨w1.heap.size, 2, none⟩ (.int .i64 bt) = W := ⟨_, rfl⟩
  rw [hw4] at KB4 hb4 ⊢
  clear hw4 KA z0 z1 z2 zf0 zf1 zf2 cb
  have HO4 := Zh (HO1.out.below hb4)
  have KR4 := Zh (KR1.out.below hb4 KR1.out.lt)
  have HB4 := Zt HB1 hb4
  clear hb4
  go_wp2_with fail
  refine (zag 5 _).mono ?_
  rintro e w5 ⟨rfl, hb⟩
  have HO5 := Zh (HO4.out.below hb)
  replace KR4 := Zk KR4 hb
  replace KB4 := Zk KB4 hb
  have HB5 := Zt HB4 hb
  clear hb HO4 HB4
  obtain ⟨k, hk⟩ : ∃ k, L.of s.l r.s = k := ⟨_, rfl⟩
  have HK := Zh hk
  clear hk
  go_wp2_with fail
  refine Zd (fun w' => Below w5.heap.size w5 w') (zaa w5) fun RS0 => ?_
  refine Zq 0 b 0 RS0 ?_
  refine Zq 1 b 0 RS0 ?_
  refine Zq 2 b 0 RS0 ?_
  refine Zq 3 b 14 RS0 ?_
  refine Zl 4 (.slice al nl cl) rfl (fun w9 hS => by
     have y14 := Zv (HO5.out.k.below hS HO5.out.k.lt) 14 (.slice al nl cl)
     go_simp) RS0 ?_
  refine Zq 5 w.heap.size 1 RS0 ?_
  refine Zl 6 (.int .i64 r.s) rfl (fun w9 hS => by
     have y1 := Zv (KR4.out.below hS KR4.out.lt) 1 (.int .i64 r.s)
     go_simp) RS0 ?_
  refine Zq 9 b 0 RS0 ?_
  refine Zq 10 b 0 RS0 ?_
  refine Zq 11 b 0 RS0 ?_
  refine Zq 12 b 8 RS0 ?_
  refine Zq 13 b 8 RS0 ?_
  refine Zl 14 (.int .i64 s.p.q) rfl (fun w9 hS => by
     have y8 := Zv (HO5.out.k.below hS HO5.out.k.lt) 8 (.int .i64 s.p.q)
     go_simp) RS0 ?_
  refine Zc 7 29 #[.slice al nl cl, .int .i64 r.s] (zcp al nl cl s.l r.s k HK.out _ ((HO5.out.i.l : RIn w5 al nl cl s.l).below RS0) (by omega)) ?_
  rintro e w6 ⟨a5, c5, n5, rfl, hn5, -, hb⟩
  refine Zu (Zr RS0 hb) fun RS1 => ?_
  have HC : Hid ((n5 : Int) = (Y.cnt s.l r.s : Nat)) := Zh (by have := hn5.out; rw [<- this, <- HK.out, Y.of_len])
  clear hn5
  refine tk 8 (.int .i64 n5) RS1 ?_
  have d7 : decide ((n5 : Int) < s.p.q) = false := decide_eq_false (by rw [HC.out]; have := HQ.out; omega)
  refine wpAnyH_take (i := 15) (v := .bool false) rfl (by kernel_rfl) (by kernel_rfl) (by kernel_rfl) (fun _ _ _ h => h) (.inl ⟨by kernel_rfl, fun w9 hS => by go_simp⟩) RS1 ?_
  refine zaj (i := 16) (f := 39) (args := #[.bool false, .int .i64 6]) (by kernel_rfl) rfl (by kernel_rfl) (by kernel_rfl) (za0 6 _) ?_
  rintro e w7 ⟨rfl, hb⟩
  refine ⟨_, rfl, ?_⟩
  exact ⟨rfl, Y.Ends.no (by rw [HGP.out, if_neg (by rw [h1]; simp), if_pos HQ.out]) (by decide) ((HB5.out.trans ((Below.trans RS1 (hb.mono (Below.size RS1))).mono HB5.out.size)).mono HH0.out)⟩
theorem zgo (H0 b : Nat) (s : Y.St) (A : Y.A9) (r : Y.Rq) (w : World) (ho : Y.Own3 w H0 b s A) (hm : Y.May s) (fb : s.d.b <= 9223372036854775807) (fc : s.d.c <= 9223372036854775807) (h1 : E.baseB s.d r.s = true) (h2 : ¬ s.p.q <= (Y.cnt s.l r.s : Nat)) (h3 : (Y.pk s (E.baseA s.d r.s)).1 ≠ 0) :
  Calls Tryz.prog 81 #[.pointer (some ⟨b, 0, none⟩), Y.rval r] w fun e w' => Y.Ends w H0 b (Y.grant s r.s) e w' := by
 have hff := ho.fits hm fb fc
 have hbl := ho.k.lt
 have HH0 : Hid (H0 <= w.heap.size) := Zh (by have := ho.h0; omega)
 obtain ⟨ap, np, cp, al, nl, cl, ah, nh, ch⟩ := A
 have hnp : np <= 600 := hff.p
 have hnl : nl <= 600 := hff.l
 have hnh : nh <= 600 := hff.h
 have HM := Zh hm
 have HFF := Zh hff
 have HW := Zh ho
 have HB0 := Zh (Below.refl w.heap.size w)
 have HO0 := Zh (ho)
 have HS0 := Zh (ho.win (H := w.heap.size) ho.k.lt (Nat.le_refl _))
 clear ho hm hff
 unfold Y.rval
 obtain ⟨w1, hw1, hb, hk⟩ := Zn w 34 #[.int .i64 r.k, .int .i64 r.s, .int .i64 r.a, .int .i64 r.b, .int .i64 r.n, .int .i64 r.p.q, .int .i64 r.p.i, .int .i64 r.p.h, .bool r.p.pair]
 have HO1 := Zh (HO0.out.below hb)
 replace HS0 := Zh (HS0.out.below hb)
 have HB1 := Zt HB0 hb
 have KR1 := Zh hk
 clear hb hk HO0 HB0
 have HGP := Zh (Y.grant_pk s r.s)
 obtain ⟨ba, hba⟩ : ∃ v, E.baseA s.d r.s = v := ⟨_, rfl⟩
 obtain ⟨bf, hbf⟩ : ∃ v, E.baseF s.d r.s = v := ⟨_, rfl⟩
 obtain ⟨bt, hbt⟩ : ∃ v, E.baseT s.d r.s = v := ⟨_, rfl⟩
 rw [hba] at HGP
 have cb := fun W => zcb s.d r.s ba bf bt true W h1 hba hbf hbt fb fc
 clear hbf hbt
 have HQ := Zh h2
 clear h2
 rw [hba] at h3
 have HPK := Zh h3
 clear h3
 clear hba
 go_enter Tryz.func81, Tryz.ntmps81
 go_wp2_with fail
 try rw [hw1]
 clear hw1
 refine Zd (fun w' => Below w1.heap.size w1 w') (zaa w1) fun RS0 => ?_
 refine Zq 0 b 0 RS0 ?_
 refine Zq 1 b 0 RS0 ?_
 refine Zq 2 b 0 RS0 ?_
 refine Zq 3 b 0 RS0 ?_
 refine Zl 4 (.agg #[.int .i64 s.d.b, .int .i64 s.d.k, .int .i64 s.d.c, .int .i64 s.d.j, .int .i64 s.d.lo, .int .i64 s.d.hi, .int .i64 s.d.dy, .int .i64 s.d.bl]) rfl (fun w9 hS => by
    have q := HO1.out.k.below hS HO1.out.k.lt
    have y0 := Zv q 0 (.int .i64 s.d.b)
    have y1 := Zv q 1 (.int .i64 s.d.k)
    have y2 := Zv q 2 (.int .i64 s.d.c)
    have y3 := Zv q 3 (.int .i64 s.d.j)
    have y4 := Zv q 4 (.int .i64 s.d.lo)
    have y5 := Zv q 5 (.int .i64 s.d.hi)
    have y6 := Zv q 6 (.int .i64 s.d.dy)
    have y7 := Zv q 7 (.int .i64 s.d.bl)
    go_simp) RS0 ?_
 refine Zq 5 w.heap.size 1 RS0 ?_
 refine Zl 6 (.int .i64 r.s) rfl (fun w9 hS => by
    have y1 := Zv (KR1.out.below hS KR1.out.lt) 1 (.int .i64 r.s)
    go_simp) RS0 ?_
 refine za8 (i := 7) (j := 11) (by kernel_rfl) ?_ ?_
 ·skip
  refine zbo (f := 27) (args := #[.agg #[.int .i64 s.d.b, .int .i64 s.d.k, .int .i64 s.d.c, .int .i64 s.d.j, .int .i64 s.d.lo, .int .i64 s.d.hi, .int .i64 s.d.dy, .int .i64 s.d.bl], .int .i64 r.s]) rfl (by kernel_rfl) (by kernel_rfl) (cb _) ?_
  rintro e w2 ⟨rfl, hb⟩
  refine Zu (Zr RS0 hb) fun RS1 => ?_
  refine tk 8 (.tuple #[.agg #[.int .i64 ba, .int .i64 bf, .int .i64 bt], .bool true]) RS1 ?_
  refine tk 9 (.agg #[.int .i64 ba, .int .i64 bf, .int .i64 bt]) RS1 ?_
  refine tk 10 (.bool true) RS1 ?_
  have RA : (fun w' => Below w1.heap.size w1 w') (w2.alloc (.cells #[.int .i64 0, .int .i64 0, .int .i64 0] 54)) := Below.alloc RS1 (Below.size RS1) _
  refine zaf (i := 11) (by kernel_rfl) (zam (v := .pointer (some ⟨w2.heap.size, 0, none⟩)) (w' := w2.alloc (.cells #[.int .i64 0, .int .i64 0, .int .i64 0] 54)) rfl (by kernel_rfl) (by kernel_rfl) ⟨RA, ?_⟩)
  have KA : Blok (w2.alloc (.cells #[.int .i64 0, .int .i64 0, .int .i64 0] 54)) w2.heap.size 54 #[.int .i64 0, .int .i64 0, .int .i64 0] := Blok.new w2 _ _
  obtain ⟨sb, hsb⟩ : ∃ n, w2.heap.size = n := ⟨_, rfl⟩
  have hsbw : w1.heap.size <= sb := by rw [<- hsb]; exact Below.size RS1
  obtain ⟨w3, hw3⟩ : ∃ W, w2.alloc (.cells #[.int .i64 0, .int .i64 0, .int .i64 0] 54) = W := ⟨_, rfl⟩
  rw [hsb, hw3] at KA
  rw [hw3] at RA
  rw [hsb, hw3]
  clear hw3
  have z0 := (Y.cb3 KA).1
  have z1 := (Y.cb3 KA).2.1
  have z2 := (Y.cb3 KA).2.2
  have zf0 := KA.frozen 0
  have zf1 := KA.frozen 1
  have zf2 := KA.frozen 2
  have RS2 : (fun w' => Below w1.heap.size w1 w') (((w3.setCell ⟨sb, 0, none⟩ (.int .i64 ba)).setCell ⟨sb, 1, none⟩ (.int .i64 bf)).setCell ⟨sb, 2, none⟩ (.int .i64 bt)) := Y.below3 RA hsbw _ _ _
  refine zaf (i := 12) (by kernel_rfl) (zah (w' := ((w3.setCell ⟨sb, 0, none⟩ (.int .i64 ba)).setCell ⟨sb, 1, none⟩ (.int .i64 bf)).setCell ⟨sb, 2, none⟩ (.int .i64 bt)) rfl (by kernel_rfl) (by go_simp) ⟨RS2, ?_⟩)
  refine tk 13 (.bool true) RS2 ?_
  refine wpAnyH_done (by kernel_rfl) ?_ _
  have KB4 := Zh (Y.set3b KA ba bf bt)
  have hb4 : Below w1.heap.size w1 (((w3.setCell ⟨sb, 0, none⟩ (.int .i64 ba)).setCell ⟨sb, 1, none⟩ (.int .i64 bf)).setCell ⟨sb, 2, none⟩ (.int .i64 bt)) := RS2
  obtain ⟨w4, hw4⟩ : ∃ W, ((w3.setCell ⟨sb, 0, none⟩ (.int .i64 ba)).setCell ⟨sb, 1, none⟩ (.int .i64 bf)).setCell ⟨sb, 2, none⟩ (.int .i64 bt) = W := ⟨_, rfl⟩
  rw [hw4] at KB4 hb4 ⊢
  clear hw4 KA z0 z1 z2 zf0 zf1 zf2 cb
  have HO4 := Zh (HO1.out.below hb4)
  have KR4 := Zh (KR1.out.below hb4 KR1.out.lt)
  have HB4 := Zt HB1 hb4
  clear hb4
  go_wp2_with fail
  refine (zag 5 _).mono ?_
  rintro e w5 ⟨rfl, hb⟩
  have HO5 := Zh (HO4.out.below hb)
  replace KR4 := Zk KR4 hb
  replace KB4 := Zk KB4 hb
  have HB5 := Zt HB4 hb
  clear hb HO4 HB4
  obtain ⟨k, hk⟩ : ∃ k, L.of s.l r.s = k := ⟨_, rfl⟩
  have HK := Zh hk
  clear hk
  go_wp2_with fail
  refine Zd (fun w' => Below w5.heap.size w5 w') (zaa w5) fun RS0 => ?_
  refine Zq 0 b 0 RS0 ?_
  refine Zq 1 b 0 RS0 ?_
  refine Zq 2 b 0 RS0 ?_
  refine Zq 3 b 14 RS0 ?_
  refine Zl 4 (.slice al nl cl) rfl (fun w9 hS => by
     have y14 := Zv (HO5.out.k.below hS HO5.out.k.lt) 14 (.slice al nl cl)
     go_simp) RS0 ?_
  refine Zq 5 w.heap.size 1 RS0 ?_
  refine Zl 6 (.int .i64 r.s) rfl (fun w9 hS => by
     have y1 := Zv (KR4.out.below hS KR4.out.lt) 1 (.int .i64 r.s)
     go_simp) RS0 ?_
  refine Zq 9 b 0 RS0 ?_
  refine Zq 10 b 0 RS0 ?_
  refine Zq 11 b 0 RS0 ?_
  refine Zq 12 b 8 RS0 ?_
  refine Zq 13 b 8 RS0 ?_
  refine Zl 14 (.int .i64 s.p.q) rfl (fun w9 hS => by
     have y8 := Zv (HO5.out.k.below hS HO5.out.k.lt) 8 (.int .i64 s.p.q)
     go_simp) RS0 ?_
  refine Zc 7 29 #[.slice al nl cl, .int .i64 r.s] (zcp al nl cl s.l r.s k HK.out _ ((HO5.out.i.l : RIn w5 al nl cl s.l).below RS0) (by omega)) ?_
  rintro e w6 ⟨a5, c5, n5, rfl, hn5, -, hb⟩
  refine Zu (Zr RS0 hb) fun RS1 => ?_
  have HC : Hid ((n5 : Int) = (Y.cnt s.l r.s : Nat)) := Zh (by have := hn5.out; rw [<- this, <- HK.out, Y.of_len])
  clear hn5
  refine tk 8 (.int .i64 n5) RS1 ?_
  have d7 : decide ((n5 : Int) < s.p.q) = true := decide_eq_true (by rw [HC.out]; have := HQ.out; omega)
  refine wpAnyH_take (i := 15) (v := .bool true) rfl (by kernel_rfl) (by kernel_rfl) (by kernel_rfl) (fun _ _ _ h => h) (.inl ⟨by kernel_rfl, fun w9 hS => by go_simp⟩) RS1 ?_
  refine Zc 16 39 #[.bool true, .int .i64 6] (zag 6 _) ?_
  rintro e w7 ⟨rfl, hb⟩
  refine Zu (Zr RS1 hb) fun RS2 => ?_
  refine wpAnyH_done (by kernel_rfl) ?_ _
  have hb7 : Below w5.heap.size w5 w7 := RS2
  have HO7 := Zh (HO5.out.below hb7)
  have KR7 := Zh (KR4.out.below hb7 KR4.out.lt)
  have KB7 := Zh (KB4.out.below hb7 KB4.out.lt)
  have HB7 := Zt HB5 hb7
  clear hb7
  have s0 := (Y.cb3 KB7.out).1
  go_wp2_with fail
  refine (zg3 w7.heap.size b s ⟨ap, np, cp, al, nl, cl, ah, nh, ch⟩ [] (.slice none 0 0) 0 0 ba w7 (HO7.out.win HO7.out.k.lt (Nat.le_refl _)) HM.out HFF.out _ rfl HPK.out).mono ?_
  rintro e w8 ⟨rfl, hb⟩
  go_wp2
  exact ⟨rfl, Y.Ends.no (by rw [HGP.out, if_neg (by rw [h1]; simp), if_neg (by have := HQ.out; omega), if_pos HPK.out]) HPK.out ((HB7.out.trans (hb.mono HB7.out.size)).mono HH0.out)⟩
 ·skip
  have RA : (fun w' => Below w1.heap.size w1 w') ((World.drew w1).alloc (.cells #[.int .i64 0, .int .i64 0, .int .i64 0] 54)) := Below.alloc RS0 (Below.size RS0) _
  refine zam (v := .pointer (some ⟨w1.heap.size, 0, none⟩)) (w' := (World.drew w1).alloc (.cells #[.int .i64 0, .int .i64 0, .int .i64 0] 54)) rfl (by kernel_rfl) (by kernel_rfl) ⟨RA, ?_⟩
  have KA : Blok ((World.drew w1).alloc (.cells #[.int .i64 0, .int .i64 0, .int .i64 0] 54)) w1.heap.size 54 #[.int .i64 0, .int .i64 0, .int .i64 0] := Blok.new (World.drew w1) _ _
  have hsbw : w1.heap.size <= w1.heap.size := Nat.le_refl _
  obtain ⟨w2, hw2⟩ : ∃ W, (World.drew w1).alloc (.cells #[.int .i64 0, .int .i64 0, .int .i64 0] 54) = W := ⟨_, rfl⟩
  rw [hw2] at KA RA ⊢
  clear hw2
  refine Zc 7 27 #[.agg #[.int .i64 s.d.b, .int .i64 s.d.k, .int .i64 s.d.c, .int .i64 s.d.j, .int .i64 s.d.lo, .int .i64 s.d.hi, .int .i64 s.d.dy, .int .i64 s.d.bl], .int .i64 r.s] (cb _) ?_
  rintro e w3 ⟨rfl, hb⟩
  refine Zu (Zr RA hb) fun RS1 => ?_
  have KA := KA.below hb KA.lt
  refine tk 8 (.tuple #[.agg #[.int .i64 ba, .int .i64 bf, .int .i64 bt], .bool true]) RS1 ?_
  refine tk 9 (.agg #[.int .i64 ba, .int .i64 bf, .int .i64 bt]) RS1 ?_
  refine tk 10 (.bool true) RS1 ?_
  have z0 := (Y.cb3 KA).1
  have z1 := (Y.cb3 KA).2.1
  have z2 := (Y.cb3 KA).2.2
  have zf0 := KA.frozen 0
  have zf1 := KA.frozen 1
  have zf2 := KA.frozen 2
  have RS2 : (fun w' => Below w1.heap.size w1 w') (((w3.setCell ⟨w1.heap.size, 0, none⟩ (.int .i64 ba)).setCell ⟨w1.heap.size, 1, none⟩ (.int .i64 bf)).setCell ⟨w1.heap.size, 2, none⟩ (.int .i64 bt)) := Y.below3 RS1 hsbw _ _ _
  refine zaf (i := 12) (by kernel_rfl) (zah (w' := ((w3.setCell ⟨w1.heap.size, 0, none⟩ (.int .i64 ba)).setCell ⟨w1.heap.size, 1, none⟩ (.int .i64 bf)).setCell ⟨w1.heap.size, 2, none⟩ (.int .i64 bt)) rfl (by kernel_rfl) (by go_simp) ⟨RS2, ?_⟩)
  refine tk 13 (.bool true) RS2 ?_
  refine wpAnyH_done (by kernel_rfl) ?_ _
  have KB4 := Zh (Y.set3b KA ba bf bt)
  have hb4 : Below w1.heap.size w1 (((w3.setCell ⟨w1.heap.size, 0, none⟩ (.int .i64 ba)).setCell ⟨w1.heap.size, 1, none⟩ (.int .i64 bf)).setCell ⟨w1.heap.size, 2, none⟩ (.int .i64 bt)) := RS2
  obtain ⟨w4, hw4⟩ : ∃ W, ((w3.setCell ⟨w1.heap.size, 0, none⟩ (.int .i64 ba)).setCell ⟨w1.heap.size, 1, none⟩ (.int .i64 bf)).setCell ⟨w1.heap.size, 2, none⟩ (.int .i64 bt) = W := ⟨_, rfl⟩
  rw [hw4] at KB4 hb4 ⊢
  clear hw4 KA z0 z1 z2 zf0 zf1 zf2 cb
  have HO4 := Zh (HO1.out.below hb4)
  have KR4 := Zh (KR1.out.below hb4 KR1.out.lt)
  have HB4 := Zt HB1 hb4
  clear hb4
  go_wp2_with fail
  refine (zag 5 _).mono ?_
  rintro e w5 ⟨rfl, hb⟩
  have HO5 := Zh (HO4.out.below hb)
  replace KR4 := Zk KR4 hb
  replace KB4 := Zk KB4 hb
  have HB5 := Zt HB4 hb
  clear hb HO4 HB4
  obtain ⟨k, hk⟩ : ∃ k, L.of s.l r.s = k := ⟨_, rfl⟩
  have HK := Zh hk
  clear hk
  go_wp2_with fail
  refine Zd (fun w' => Below w5.heap.size w5 w') (zaa w5) fun RS0 => ?_
  refine Zq 0 b 0 RS0 ?_
  refine Zq 1 b 0 RS0 ?_
  refine Zq 2 b 0 RS0 ?_
  refine Zq 3 b 14 RS0 ?_
  refine Zl 4 (.slice al nl cl) rfl (fun w9 hS => by
     have y14 := Zv (HO5.out.k.below hS HO5.out.k.lt) 14 (.slice al nl cl)
     go_simp) RS0 ?_
  refine Zq 5 w.heap.size 1 RS0 ?_
  refine Zl 6 (.int .i64 r.s) rfl (fun w9 hS => by
     have y1 := Zv (KR4.out.below hS KR4.out.lt) 1 (.int .i64 r.s)
     go_simp) RS0 ?_
  refine Zq 9 b 0 RS0 ?_
  refine Zq 10 b 0 RS0 ?_
  refine Zq 11 b 0 RS0 ?_
  refine Zq 12 b 8 RS0 ?_
  refine Zq 13 b 8 RS0 ?_
  refine Zl 14 (.int .i64 s.p.q) rfl (fun w9 hS => by
     have y8 := Zv (HO5.out.k.below hS HO5.out.k.lt) 8 (.int .i64 s.p.q)
     go_simp) RS0 ?_
  refine Zc 7 29 #[.slice al nl cl, .int .i64 r.s] (zcp al nl cl s.l r.s k HK.out _ ((HO5.out.i.l : RIn w5 al nl cl s.l).below RS0) (by omega)) ?_
  rintro e w6 ⟨a5, c5, n5, rfl, hn5, -, hb⟩
  refine Zu (Zr RS0 hb) fun RS1 => ?_
  have HC : Hid ((n5 : Int) = (Y.cnt s.l r.s : Nat)) := Zh (by have := hn5.out; rw [<- this, <- HK.out, Y.of_len])
  clear hn5
  refine tk 8 (.int .i64 n5) RS1 ?_
  have d7 : decide ((n5 : Int) < s.p.q) = true := decide_eq_true (by rw [HC.out]; have := HQ.out; omega)
  refine wpAnyH_take (i := 15) (v := .bool true) rfl (by kernel_rfl) (by kernel_rfl) (by kernel_rfl) (fun _ _ _ h => h) (.inl ⟨by kernel_rfl, fun w9 hS => by go_simp⟩) RS1 ?_
  refine Zc 16 39 #[.bool true, .int .i64 6] (zag 6 _) ?_
  rintro e w7 ⟨rfl, hb⟩
  refine Zu (Zr RS1 hb) fun RS2 => ?_
  refine wpAnyH_done (by kernel_rfl) ?_ _
  have hb7 : Below w5.heap.size w5 w7 := RS2
  have HO7 := Zh (HO5.out.below hb7)
  have KR7 := Zh (KR4.out.below hb7 KR4.out.lt)
  have KB7 := Zh (KB4.out.below hb7 KB4.out.lt)
  have HB7 := Zt HB5 hb7
  clear hb7
  have s0 := (Y.cb3 KB7.out).1
  go_wp2_with fail
  refine (zg3 w7.heap.size b s ⟨ap, np, cp, al, nl, cl, ah, nh, ch⟩ [] (.slice none 0 0) 0 0 ba w7 (HO7.out.win HO7.out.k.lt (Nat.le_refl _)) HM.out HFF.out _ rfl HPK.out).mono ?_
  rintro e w8 ⟨rfl, hb⟩
  go_wp2
  exact ⟨rfl, Y.Ends.no (by rw [HGP.out, if_neg (by rw [h1]; simp), if_neg (by have := HQ.out; omega), if_pos HPK.out]) HPK.out ((HB7.out.trans (hb.mono HB7.out.size)).mono HH0.out)⟩
theorem zfq (H0 b : Nat) (s : Y.St) (A : Y.A9) (r : Y.Rq) (w : World) (ho : Y.Own3 w H0 b s A) (hm : Y.May s) (fb : s.d.b <= 9223372036854775807) (fc : s.d.c <= 9223372036854775807) (h1 : E.baseB s.d r.s = true) (h2 : ¬ s.p.q <= (Y.cnt s.l r.s : Nat)) (at' bk : Int) (h3 : Y.pk s (E.baseA s.d r.s) = (0, at', bk)) (hbk : bk = -1) :
  Calls Tryz.prog 81 #[.pointer (some ⟨b, 0, none⟩), Y.rval r] w fun e w' => Y.Ends w H0 b (Y.grant s r.s) e w' := by
 have hff := ho.fits hm fb fc
 have hbl := ho.k.lt
 have HH0 : Hid (H0 <= w.heap.size) := Zh (by have := ho.h0; omega)
 obtain ⟨ap, np, cp, al, nl, cl, ah, nh, ch⟩ := A
 have hnp : np <= 600 := hff.p
 have hnl : nl <= 600 := hff.l
 have hnh : nh <= 600 := hff.h
 have HM := Zh hm
 have HFF := Zh hff
 have HW := Zh ho
 have HB0 := Zh (Below.refl w.heap.size w)
 have HO0 := Zh (ho)
 have HS0 := Zh (ho.win (H := w.heap.size) ho.k.lt (Nat.le_refl _))
 clear ho hm hff
 unfold Y.rval
 obtain ⟨w1, hw1, hb, hk⟩ := Zn w 34 #[.int .i64 r.k, .int .i64 r.s, .int .i64 r.a, .int .i64 r.b, .int .i64 r.n, .int .i64 r.p.q, .int .i64 r.p.i, .int .i64 r.p.h, .bool r.p.pair]
 have HO1 := Zh (HO0.out.below hb)
 replace HS0 := Zh (HS0.out.below hb)
 have HB1 := Zt HB0 hb
 have KR1 := Zh hk
 clear hb hk HO0 HB0
 have HGP := Zh (Y.grant_pk s r.s)
 obtain ⟨ba, hba⟩ : ∃ v, E.baseA s.d r.s = v := ⟨_, rfl⟩
 obtain ⟨bf, hbf⟩ : ∃ v, E.baseF s.d r.s = v := ⟨_, rfl⟩
 obtain ⟨bt, hbt⟩ : ∃ v, E.baseT s.d r.s = v := ⟨_, rfl⟩
 rw [hba] at HGP
 have cb := fun W => zcb s.d r.s ba bf bt true W h1 hba hbf hbt fb fc
 clear hbf hbt
 have HQ := Zh h2
 clear h2
 rw [hba] at h3
 have HPK := Zh h3
 clear h3
 clear hba
 have HBK := Zh hbk
 clear hbk
 go_enter Tryz.func81, Tryz.ntmps81
 go_wp2_with fail
 try rw [hw1]
 clear hw1
 refine Zd (fun w' => Below w1.heap.size w1 w') (zaa w1) fun RS0 => ?_
 refine Zq 0 b 0 RS0 ?_
 refine Zq 1 b 0 RS0 ?_
 refine Zq 2 b 0 RS0 ?_
 refine Zq 3 b 0 RS0 ?_
 refine Zl 4 (.agg #[.int .i64 s.d.b, .int .i64 s.d.k, .int .i64 s.d.c, .int .i64 s.d.j, .int .i64 s.d.lo, .int .i64 s.d.hi, .int .i64 s.d.dy, .int .i64 s.d.bl]) rfl (fun w9 hS => by
    have q := HO1.out.k.below hS HO1.out.k.lt
    have y0 := Zv q 0 (.int .i64 s.d.b)
    have y1 := Zv q 1 (.int .i64 s.d.k)
    have y2 := Zv q 2 (.int .i64 s.d.c)
    have y3 := Zv q 3 (.int .i64 s.d.j)
    have y4 := Zv q 4 (.int .i64 s.d.lo)
    have y5 := Zv q 5 (.int .i64 s.d.hi)
    have y6 := Zv q 6 (.int .i64 s.d.dy)
    have y7 := Zv q 7 (.int .i64 s.d.bl)
    go_simp) RS0 ?_
 refine Zq 5 w.heap.size 1 RS0 ?_
 refine Zl 6 (.int .i64 r.s) rfl (fun w9 hS => by
    have y1 := Zv (KR1.out.below hS KR1.out.lt) 1 (.int .i64 r.s)
    go_simp) RS0 ?_
 refine za8 (i := 7) (j := 11) (by kernel_rfl) ?_ ?_
 ·skip
  refine zbo (f := 27) (args := #[.agg #[.int .i64 s.d.b, .int .i64 s.d.k, .int .i64 s.d.c, .int .i64 s.d.j, .int .i64 s.d.lo, .int .i64 s.d.hi, .int .i64 s.d.dy, .int .i64 s.d.bl], .int .i64 r.s]) rfl (by kernel_rfl) (by kernel_rfl) (cb _) ?_
  rintro e w2 ⟨rfl, hb⟩
  refine Zu (Zr RS0 hb) fun RS1 => ?_
  refine tk 8 (.tuple #[.agg #[.int .i64 ba, .int .i64 bf, .int .i64 bt], .bool true]) RS1 ?_
  refine tk 9 (.agg #[.int .i64 ba, .int .i64 bf, .int .i64 bt]) RS1 ?_
  refine tk 10 (.bool true) RS1 ?_
  have RA : (fun w' => Below w1.heap.size w1 w') (w2.alloc (.cells #[.int .i64 0, .int .i64 0, .int .i64 0] 54)) := Below.alloc RS1 (Below.size RS1) _
  refine zaf (i := 11) (by kernel_rfl) (zam (v := .pointer (some ⟨w2.heap.size, 0, none⟩)) (w' := w2.alloc (.cells #[.int .i64 0, .int .i64 0, .int .i64 0] 54)) rfl (by kernel_rfl) (by kernel_rfl) ⟨RA, ?_⟩)
  have KA : Blok (w2.alloc (.cells #[.int .i64 0, .int .i64 0, .int .i64 0] 54)) w2.heap.size 54 #[.int .i64 0, .int .i64 0, .int .i64 0] := Blok.new w2 _ _
  obtain ⟨sb, hsb⟩ : ∃ n, w2.heap.size = n := ⟨_, rfl⟩
  have hsbw : w1.heap.size <= sb := by rw [<- hsb]; exact Below.size RS1
  obtain ⟨w3, hw3⟩ : ∃ W, w2.alloc (.cells #[.int .i64 0, .int .i64 0, .int .i64 0] 54) = W := ⟨_, rfl⟩
  rw [hsb, hw3] at KA
  rw [hw3] at RA
  rw [hsb, hw3]
  clear hw3
  have z0 := (Y.cb3 KA).1
  have z1 := (Y.cb3 KA).2.1
  have z2 := (Y.cb3 KA).2.2
  have zf0 := KA.frozen 0
  have zf1 := KA.frozen 1
  have zf2 := KA.frozen 2
  have RS2 : (fun w' => Below w1.heap.size w1 w') (((w3.setCell ⟨sb, 0, none⟩ (.int .i64 ba)).setCell ⟨sb, 1, none⟩ (.int .i64 bf)).setCell ⟨sb, 2, none⟩ (.int .i64 bt)) := Y.below3 RA hsbw _ _ _
  refine zaf (i := 12) (by kernel_rfl) (zah (w' := ((w3.setCell ⟨sb, 0, none⟩ (.int .i64 ba)).setCell ⟨sb, 1, none⟩ (.int .i64 bf)).setCell ⟨sb, 2, none⟩ (.int .i64 bt)) rfl (by kernel_rfl) (by go_simp) ⟨RS2, ?_⟩)
  refine tk 13 (.bool true) RS2 ?_
  refine wpAnyH_done (by kernel_rfl) ?_ _
  have KB4 := Zh (Y.set3b KA ba bf bt)
  have hb4 : Below w1.heap.size w1 (((w3.setCell ⟨sb, 0, none⟩ (.int .i64 ba)).setCell ⟨sb, 1, none⟩ (.int .i64 bf)).setCell ⟨sb, 2, none⟩ (.int .i64 bt)) := RS2
  obtain ⟨w4, hw4⟩ : ∃ W, ((w3.setCell ⟨sb, 0, none⟩ (.int .i64 ba)).setCell ⟨sb, 1, none⟩ (.int .i64 bf)).setCell ⟨sb, 2, none⟩ (.int .i64 bt) = W := ⟨_, rfl⟩
  rw [hw4] at KB4 hb4 ⊢
  clear hw4 KA z0 z1 z2 zf0 zf1 zf2 cb
  have HO4 := Zh (HO1.out.below hb4)
  have KR4 := Zh (KR1.out.below hb4 KR1.out.lt)
  have HB4 := Zt HB1 hb4
  clear hb4
  go_wp2_with fail
  refine (zag 5 _).mono ?_
  rintro e w5 ⟨rfl, hb⟩
  have HO5 := Zh (HO4.out.below hb)
  have KR5 := Zk KR4 hb
  replace KB4 := Zk KB4 hb
  have HB5 := Zt HB4 hb
  clear hb HO4 KR4 HB4
  obtain ⟨k, hk⟩ : ∃ k, L.of s.l r.s = k := ⟨_, rfl⟩
  have HK := Zh hk
  clear hk
  go_wp2_with fail
  refine Zd (fun w' => Below w5.heap.size w5 w') (zaa w5) fun RS0 => ?_
  refine Zq 0 b 0 RS0 ?_
  refine Zq 1 b 0 RS0 ?_
  refine Zq 2 b 0 RS0 ?_
  refine Zq 3 b 14 RS0 ?_
  refine Zl 4 (.slice al nl cl) rfl (fun w9 hS => by
     have y14 := Zv (HO5.out.k.below hS HO5.out.k.lt) 14 (.slice al nl cl)
     go_simp) RS0 ?_
  refine Zq 5 w.heap.size 1 RS0 ?_
  refine Zl 6 (.int .i64 r.s) rfl (fun w9 hS => by
     have y1 := Zv (KR5.out.below hS KR5.out.lt) 1 (.int .i64 r.s)
     go_simp) RS0 ?_
  refine Zq 9 b 0 RS0 ?_
  refine Zq 10 b 0 RS0 ?_
  refine Zq 11 b 0 RS0 ?_
  refine Zq 12 b 8 RS0 ?_
  refine Zq 13 b 8 RS0 ?_
  refine Zl 14 (.int .i64 s.p.q) rfl (fun w9 hS => by
     have y8 := Zv (HO5.out.k.below hS HO5.out.k.lt) 8 (.int .i64 s.p.q)
     go_simp) RS0 ?_
  refine Zc 7 29 #[.slice al nl cl, .int .i64 r.s] (zcp al nl cl s.l r.s k HK.out _ ((HO5.out.i.l : RIn w5 al nl cl s.l).below RS0) (by omega)) ?_
  rintro e w6 ⟨a5, c5, n5, rfl, hn5, -, hb⟩
  refine Zu (Zr RS0 hb) fun RS1 => ?_
  have HC : Hid ((n5 : Int) = (Y.cnt s.l r.s : Nat)) := Zh (by have := hn5.out; rw [<- this, <- HK.out, Y.of_len])
  clear hn5
  refine tk 8 (.int .i64 n5) RS1 ?_
  have d7 : decide ((n5 : Int) < s.p.q) = true := decide_eq_true (by rw [HC.out]; have := HQ.out; omega)
  refine wpAnyH_take (i := 15) (v := .bool true) rfl (by kernel_rfl) (by kernel_rfl) (by kernel_rfl) (fun _ _ _ h => h) (.inl ⟨by kernel_rfl, fun w9 hS => by go_simp⟩) RS1 ?_
  refine Zc 16 39 #[.bool true, .int .i64 6] (zag 6 _) ?_
  rintro e w7 ⟨rfl, hb⟩
  refine Zu (Zr RS1 hb) fun RS2 => ?_
  refine wpAnyH_done (by kernel_rfl) ?_ _
  have hb7 : Below w5.heap.size w5 w7 := RS2
  have HO7 := Zh (HO5.out.below hb7)
  have KR7 := Zh (KR5.out.below hb7 KR5.out.lt)
  have KB7 := Zh (KB4.out.below hb7 KB4.out.lt)
  have HB7 := Zt HB5 hb7
  clear hb7
  have s0 := (Y.cb3 KB7.out).1
  go_wp2_with fail
  refine (zdg w7.heap.size b s ⟨ap, np, cp, al, nl, cl, ah, nh, ch⟩ [] (.slice none 0 0) 0 0 ba w7 (HO7.out.win HO7.out.k.lt (Nat.le_refl _)) HM.out HFF.out at' bk HPK.out).mono ?_
  clear s0
  rintro e w8 ⟨rfl, hb⟩
  have HO8 := Zh (HO7.out.below hb)
  have KR8 := Zk KR7 hb
  have HB8 := Zt HB7 hb
  clear hb
  have HBQ : Hid (b < w8.heap.size) := Zh HO8.out.k.lt
  obtain ⟨w9, hw9, hb, hk⟩ := Zn w8 140 #[.int .i64 at', .int .i64 bk]
  have HO9 := Zh (HO8.out.below hb)
  have KR9 := Zk KR8 hb
  have HB9 := Zt HB8 hb
  have KQ9 := Zh hk
  clear hb hk HO8 KR8 HB8
  have q1 := (Y.cb2 KQ9.out).2
  have e1 : (bk != -1) = false := by rw [HBK.out]; rfl
  have q1' := q1
  go_wp2_with fail
  try rw [hw9]
  refine (za0 7 _).mono ?_
  rintro e w10 ⟨rfl, hb⟩
  go_wp2
  exact ⟨rfl, Y.Ends.no (by rw [HGP.out, if_neg (by rw [h1]; simp), if_neg (by have := HQ.out; omega), HPK.out, if_neg (by simp), if_pos HBK.out]) (by decide) ((HB9.out.trans (hb.mono HB9.out.size)).mono HH0.out)⟩
 ·skip
  have RA : (fun w' => Below w1.heap.size w1 w') ((World.drew w1).alloc (.cells #[.int .i64 0, .int .i64 0, .int .i64 0] 54)) := Below.alloc RS0 (Below.size RS0) _
  refine zam (v := .pointer (some ⟨w1.heap.size, 0, none⟩)) (w' := (World.drew w1).alloc (.cells #[.int .i64 0, .int .i64 0, .int .i64 0] 54)) rfl (by kernel_rfl) (by kernel_rfl) ⟨RA, ?_⟩
  have KA : Blok ((World.drew w1).alloc (.cells #[.int .i64 0, .int .i64 0, .int .i64 0] 54)) w1.heap.size 54 #[.int .i64 0, .int .i64 0, .int .i64 0] := Blok.new (World.drew w1) _ _
  have hsbw : w1.heap.size <= w1.heap.size := Nat.le_refl _
  obtain ⟨w2, hw2⟩ : ∃ W, (World.drew w1).alloc (.cells #[.int .i64 0, .int .i64 0, .int .i64 0] 54) = W := ⟨_, rfl⟩
  rw [hw2] at KA RA ⊢
  clear hw2
  refine Zc 7 27 #[.agg #[.int .i64 s.d.b, .int .i64 s.d.k, .int .i64 s.d.c, .int .i64 s.d.j, .int .i64 s.d.lo, .int .i64 s.d.hi, .int .i64 s.d.dy, .int .i64 s.d.bl], .int .i64 r.s] (cb _) ?_
  rintro e w3 ⟨rfl, hb⟩
  refine Zu (Zr RA hb) fun RS1 => ?_
  have KA := KA.below hb KA.lt
  refine tk 8 (.tuple #[.agg #[.int .i64 ba, .int .i64 bf, .int .i64 bt], .bool true]) RS1 ?_
  refine tk 9 (.agg #[.int .i64 ba, .int .i64 bf, .int .i64 bt]) RS1 ?_
  refine tk 10 (.bool true) RS1 ?_
  have z0 := (Y.cb3 KA).1
  have z1 := (Y.cb3 KA).2.1
  have z2 := (Y.cb3 KA).2.2
  have zf0 := KA.frozen 0
  have zf1 := KA.frozen 1
  have zf2 := KA.frozen 2
  have RS2 : (fun w' => Below w1.heap.size w1 w') (((w3.setCell ⟨w1.heap.size, 0, none⟩ (.int .i64 ba)).setCell ⟨w1.heap.size, 1, none⟩ (.int .i64 bf)).setCell ⟨w1.heap.size, 2, none⟩ (.int .i64 bt)) := Y.below3 RS1 hsbw _ _ _
  refine zaf (i := 12) (by kernel_rfl) (zah (w' := ((w3.setCell ⟨w1.heap.size, 0, none⟩ (.int .i64 ba)).setCell ⟨w1.heap.size, 1, none⟩ (.int .i64 bf)).setCell ⟨w1.heap.size, 2, none⟩ (.int .i64 bt)) rfl (by kernel_rfl) (by go_simp) ⟨RS2, ?_⟩)
  refine tk 13 (.bool true) RS2 ?_
  refine wpAnyH_done (by kernel_rfl) ?_ _
  have KB4 := Zh (Y.set3b KA ba bf bt)
  have hb4 : Below w1.heap.size w1 (((w3.setCell ⟨w1.heap.size, 0, none⟩ (.int .i64 ba)).setCell ⟨w1.heap.size, 1, none⟩ (.int .i64 bf)).setCell ⟨w1.heap.size, 2, none⟩ (.int .i64 bt)) := RS2
  obtain ⟨w4, hw4⟩ : ∃ W, ((w3.setCell ⟨w1.heap.size, 0, none⟩ (.int .i64 ba)).setCell ⟨w1.heap.size, 1, none⟩ (.int .i64 bf)).setCell ⟨w1.heap.size, 2, none⟩ (.int .i64 bt) = W := ⟨_, rfl⟩
  rw [hw4] at KB4 hb4 ⊢
  clear hw4 KA z0 z1 z2 zf0 zf1 zf2 cb
  have HO4 := Zh (HO1.out.below hb4)
  have KR4 := Zh (KR1.out.below hb4 KR1.out.lt)
  have HB4 := Zt HB1 hb4
  clear hb4
  go_wp2_with fail
  refine (zag 5 _).mono ?_
  rintro e w5 ⟨rfl, hb⟩
  have HO5 := Zh (HO4.out.below hb)
  have KR5 := Zk KR4 hb
  replace KB4 := Zk KB4 hb
  have HB5 := Zt HB4 hb
  clear hb HO4 KR4 HB4
  obtain ⟨k, hk⟩ : ∃ k, L.of s.l r.s = k := ⟨_, rfl⟩
  have HK := Zh hk
  clear hk
  go_wp2_with fail
  refine Zd (fun w' => Below w5.heap.size w5 w') (zaa w5) fun RS0 => ?_
  refine Zq 0 b 0 RS0 ?_
  refine Zq 1 b 0 RS0 ?_
  refine Zq 2 b 0 RS0 ?_
  refine Zq 3 b 14 RS0 ?_
  refine Zl 4 (.slice al nl cl) rfl (fun w9 hS => by
     have y14 := Zv (HO5.out.k.below hS HO5.out.k.lt) 14 (.slice al nl cl)
     go_simp) RS0 ?_
  refine Zq 5 w.heap.size 1 RS0 ?_
  refine Zl 6 (.int .i64 r.s) rfl (fun w9 hS => by
     have y1 := Zv (KR5.out.below hS KR5.out.lt) 1 (.int .i64 r.s)
     go_simp) RS0 ?_
  refine Zq 9 b 0 RS0 ?_
  refine Zq 10 b 0 RS0 ?_
  refine Zq 11 b 0 RS0 ?_
  refine Zq 12 b 8 RS0 ?_
  refine Zq 13 b 8 RS0 ?_
  refine Zl 14 (.int .i64 s.p.q) rfl (fun w9 hS => by
     have y8 := Zv (HO5.out.k.below hS HO5.out.k.lt) 8 (.int .i64 s.p.q)
     go_simp) RS0 ?_
  refine Zc 7 29 #[.slice al nl cl, .int .i64 r.s] (zcp al nl cl s.l r.s k HK.out _ ((HO5.out.i.l : RIn w5 al nl cl s.l).below RS0) (by omega)) ?_
  rintro e w6 ⟨a5, c5, n5, rfl, hn5, -, hb⟩
  refine Zu (Zr RS0 hb) fun RS1 => ?_
  have HC : Hid ((n5 : Int) = (Y.cnt s.l r.s : Nat)) := Zh (by have := hn5.out; rw [<- this, <- HK.out, Y.of_len])
  clear hn5
  refine tk 8 (.int .i64 n5) RS1 ?_
  have d7 : decide ((n5 : Int) < s.p.q) = true := decide_eq_true (by rw [HC.out]; have := HQ.out; omega)
  refine wpAnyH_take (i := 15) (v := .bool true) rfl (by kernel_rfl) (by kernel_rfl) (by kernel_rfl) (fun _ _ _ h => h) (.inl ⟨by kernel_rfl, fun w9 hS => by go_simp⟩) RS1 ?_
  refine Zc 16 39 #[.bool true, .int .i64 6] (zag 6 _) ?_
  rintro e w7 ⟨rfl, hb⟩
  refine Zu (Zr RS1 hb) fun RS2 => ?_
  refine wpAnyH_done (by kernel_rfl) ?_ _
  have hb7 : Below w5.heap.size w5 w7 := RS2
  have HO7 := Zh (HO5.out.below hb7)
  have KR7 := Zh (KR5.out.below hb7 KR5.out.lt)
  have KB7 := Zh (KB4.out.below hb7 KB4.out.lt)
  have HB7 := Zt HB5 hb7
  clear hb7
  have s0 := (Y.cb3 KB7.out).1
  go_wp2_with fail
  refine (zdg w7.heap.size b s ⟨ap, np, cp, al, nl, cl, ah, nh, ch⟩ [] (.slice none 0 0) 0 0 ba w7 (HO7.out.win HO7.out.k.lt (Nat.le_refl _)) HM.out HFF.out at' bk HPK.out).mono ?_
  clear s0
  rintro e w8 ⟨rfl, hb⟩
  have HO8 := Zh (HO7.out.below hb)
  have KR8 := Zk KR7 hb
  have HB8 := Zt HB7 hb
  clear hb
  have HBQ : Hid (b < w8.heap.size) := Zh HO8.out.k.lt
  obtain ⟨w9, hw9, hb, hk⟩ := Zn w8 140 #[.int .i64 at', .int .i64 bk]
  have HO9 := Zh (HO8.out.below hb)
  have KR9 := Zk KR8 hb
  have HB9 := Zt HB8 hb
  have KQ9 := Zh hk
  clear hb hk HO8 KR8 HB8
  have q1 := (Y.cb2 KQ9.out).2
  have e1 : (bk != -1) = false := by rw [HBK.out]; rfl
  have q1' := q1
  go_wp2_with fail
  try rw [hw9]
  refine (za0 7 _).mono ?_
  rintro e w10 ⟨rfl, hb⟩
  go_wp2
  exact ⟨rfl, Y.Ends.no (by rw [HGP.out, if_neg (by rw [h1]; simp), if_neg (by have := HQ.out; omega), HPK.out, if_neg (by simp), if_pos HBK.out]) (by decide) ((HB9.out.trans (hb.mono HB9.out.size)).mono HH0.out)⟩
end Go.Proofs.YtonejangijkdmaaGreat
