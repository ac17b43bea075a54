import Derived.Test.YtnbkkjcmblfhpaaGreatP8
import Derived.Test.YtnbkkjcmblfhpaaGreatP10
import Derived.Test.YtnbkkjcmblfhpaaGreatP9
namespace Go.Proofs.YtnbkkjcmblfhpaaGreat
set_option maxHeartbeats 8000000
set_option maxRecDepth 100000
open Go.RowKit
theorem zfl (s : Y.St) (A : Y.A9) (x : L.Ls) (v : Bool) (hv : decide (Y.okL s x) = v) (w : World) (h : Y.SIn w A s) (hf : Y.Fits A s) (hp : Y.MayP s.p) (hn : 0 <= s.now /\ s.now <= 1073741824) :
  Calls Tryz.prog 211 #[Y.val s A, L.val x] w fun e w' => e = .returned (.bool v) /\ Below w.heap.size w w' := by
 have HV := Zh hv
 have HP := Zh hp
 have HN := Zh hn
 obtain ⟨ap, np, cp, al, nl, cl, ah, nh, ch⟩ := A
 have hnp : np <= 600 := hf.p
 have hnl : nl <= 600 := hf.l
 have hnh : nh <= 600 := hf.h
 have HF := Zh hf
 have HB0 := Zh (Below.refl w.heap.size w)
 have HQ0 := Zh ((h.p : QIn w ap np cp s.ps))
 have HL0 := Zh ((h.l : RIn w al nl cl s.l))
 have HH0 := Zh ((h.h : RIn w ah nh ch s.h))
 clear h hv hf hp hn
 unfold Y.val L.val
 obtain ⟨w1, hw1, hb, hk⟩ := Zn w 37 #[.int .i64 s.d.b, .int .i64 s.d.k, .int .i64 s.d.c, .int .i64 s.d.j, .int .i64 s.d.lo, .int .i64 s.d.hi, .int .i64 s.d.dy, .int .i64 s.d.bl, .int .i64 s.p.q, .int .i64 s.p.i, .int .i64 s.p.h, .bool s.p.pair, .int .i64 s.now, .slice ap np cp, .slice al nl cl, .slice ah nh ch]
 replace HQ0 := Zh (HQ0.out.below hb)
 replace HL0 := Zh (HL0.out.below hb)
 replace HH0 := Zh (HH0.out.below hb)
 replace HB0 := Zt HB0 hb
 have KS1 := Zh hk
 clear hb hk
 obtain ⟨w2, hw2, hb, hk⟩ := Zn w1 104 #[.int .i64 x.s, .int .i64 x.a, .int .i64 x.b, .int .i64 x.f, .int .i64 x.t]
 replace HQ0 := Zh (HQ0.out.below hb)
 replace HL0 := Zh (HL0.out.below hb)
 replace HH0 := Zh (HH0.out.below hb)
 replace KS1 := Zk KS1 hb
 replace HB0 := Zt HB0 hb
 have KX2 := Zh hk
 clear hb hk
 obtain ⟨isb, hisb⟩ : ∃ v, E.baseB s.d x.s = v := ⟨_, rfl⟩
 obtain ⟨ba, hba⟩ : ∃ v, E.baseA s.d x.s = v := ⟨_, rfl⟩
 obtain ⟨bf, hbf⟩ : ∃ v, E.baseF s.d x.s = v := ⟨_, rfl⟩
 obtain ⟨bt, hbt⟩ : ∃ v, E.baseT s.d x.s = v := ⟨_, rfl⟩
 have HI := Zh hisb
 have HA := Zh hba
 have cc1 := zcb s.d x.s ba bf bt isb w2 hisb hba hbf hbt HF.out.b HF.out.c
 clear hisb hba hbf hbt
 obtain ⟨c0, c1, c2, c3, c4, c5, c6, c7, -, -, -, -, -, -, -, -⟩ := Y.cs16 KS1.out
 obtain ⟨x0, -, -, -, -⟩ := Y.cs5 KX2.out
 go_enter Tryz.func211, Tryz.ntmps211
 go_wp2_with fail
 refine (cc1).mono ?_
 clear c0 c1 c2 c3 c4 c5 c6 c7
 clear x0
 rintro e w3 ⟨rfl, hb⟩
 replace HQ0 := Zh (HQ0.out.below hb)
 replace HL0 := Zh (HL0.out.below hb)
 replace HH0 := Zh (HH0.out.below hb)
 replace KS1 := Zk KS1 hb
 replace KX2 := Zk KX2 hb
 replace HB0 := Zt HB0 hb
 clear hb
 obtain ⟨c0, c1, c2, c3, c4, c5, c6, c7, -, -, -, -, -, -, -, -⟩ := Y.cs16 KS1.out
 obtain ⟨x0, -, -, -, -⟩ := Y.cs5 KX2.out
 clear cc1 hw1 hw2
 clear c0 c1 c2 c3 c4 c5 c6 c7
 clear x0
 obtain ⟨w4, hw4, hb, hk⟩ := Zn w3 246 #[.int .i64 ba, .int .i64 bf, .int .i64 bt]
 replace HQ0 := Zh (HQ0.out.below hb)
 replace HL0 := Zh (HL0.out.below hb)
 replace HH0 := Zh (HH0.out.below hb)
 replace KS1 := Zk KS1 hb
 replace KX2 := Zk KX2 hb
 replace HB0 := Zt HB0 hb
 have KB4 := Zh hk
 clear hb hk
 cases isb with
 | false =>
  have nk : ¬ E.baseB s.d x.s = true := by rw [HI.out]; simp
  go_wp2_with fail
  try rw [hw4]
  clear hw4
  refine Zd (fun w' => Below w4.heap.size w4 w') (zaa w4) fun HS0 => ?_
  refine tk 0 (.bool false) HS0 ?_
  refine tk 1 (.bool false) HS0 ?_
  refine tko 2 HS0 ?_
  refine tko 3 HS0 ?_
  refine tko 4 HS0 ?_
  refine tko 5 HS0 ?_
  refine tko 6 HS0 ?_
  refine tk 7 (.bool false) HS0 ?_
  refine tk 8 (.bool false) HS0 ?_
  refine tko 9 HS0 ?_
  refine tko 10 HS0 ?_
  refine tko 11 HS0 ?_
  refine tko 12 HS0 ?_
  refine tko 13 HS0 ?_
  refine tko 14 HS0 ?_
  refine tk 15 (.bool false) HS0 ?_
  refine tk 16 (.bool false) HS0 ?_
  refine tko 17 HS0 ?_
  refine tko 18 HS0 ?_
  refine tko 19 HS0 ?_
  refine tk 20 (.bool false) HS0 ?_
  refine tk 21 (.bool false) HS0 ?_
  refine tko 22 HS0 ?_
  refine tko 23 HS0 ?_
  refine tko 24 HS0 ?_
  refine tko 25 HS0 ?_
  refine tko 26 HS0 ?_
  refine tk 27 (.bool false) HS0 ?_
  refine tk 28 (.bool false) HS0 ?_
  refine tko 29 HS0 ?_
  refine tko 30 HS0 ?_
  refine tko 31 HS0 ?_
  refine tko 32 HS0 ?_
  refine tko 33 HS0 ?_
  refine tk 34 (.bool false) HS0 ?_
  refine tk 35 (.bool false) HS0 ?_
  refine tko 36 HS0 ?_
  refine tko 37 HS0 ?_
  refine tko 38 HS0 ?_
  refine tko 39 HS0 ?_
  refine tko 40 HS0 ?_
  refine tko 41 HS0 ?_
  refine tko 42 HS0 ?_
  refine tko 43 HS0 ?_
  refine tko 44 HS0 ?_
  refine tk 45 (.bool false) HS0 ?_
  refine tk 46 (.bool false) HS0 ?_
  refine tko 47 HS0 ?_
  refine tko 48 HS0 ?_
  refine tko 49 HS0 ?_
  refine tko 50 HS0 ?_
  refine tko 51 HS0 ?_
  refine tko 52 HS0 ?_
  refine tko 53 HS0 ?_
  refine tko 54 HS0 ?_
  refine tko 55 HS0 ?_
  refine tko 56 HS0 ?_
  refine tk 57 (.bool false) HS0 ?_
  refine tk 58 (.bool false) HS0 ?_
  refine tko 59 HS0 ?_
  refine tko 60 HS0 ?_
  refine tko 61 HS0 ?_
  refine tko 62 HS0 ?_
  refine tko 63 HS0 ?_
  refine tko 64 HS0 ?_
  refine tko 65 HS0 ?_
  refine tko 66 HS0 ?_
  refine tko 67 HS0 ?_
  refine tko 68 HS0 ?_
  refine tko 69 HS0 ?_
  refine tk 70 (.bool false) HS0 ?_
  refine tk 71 (.bool false) HS0 ?_
  refine wpAnyH_done (by kernel_rfl) ?_ _
  have HE : Hid (v = false) := Zh (by rw [<- HV.out]; exact decide_eq_false fun hok => nk hok.1)
  go_wp2
  go_ret
  exact ⟨by rw [HE.out]; kernel_rfl, (HB0.out.trans (Below.mono HS0 HB0.out.size))⟩
 | true =>
  go_wp2_with fail
  try rw [hw4]
  clear hw4
  refine Zd (fun w' => Below w4.heap.size w4 w') (zaa w4) fun HS0 => ?_
  refine tk 0 (.bool true) HS0 ?_
  refine tk 1 (.bool true) HS0 ?_
  refine Zq 2 w.heap.size 0 HS0 ?_
  refine Zl 3 (.agg #[.int .i64 s.d.b, .int .i64 s.d.k, .int .i64 s.d.c, .int .i64 s.d.j, .int .i64 s.d.lo, .int .i64 s.d.hi, .int .i64 s.d.dy, .int .i64 s.d.bl]) rfl (fun w9 hS => by
     have q := KS1.out.below hS KS1.out.lt
     have y0 := Zv q 0 (.int .i64 s.d.b)
     have y1 := Zv q 1 (.int .i64 s.d.k)
     have y2 := Zv q 2 (.int .i64 s.d.c)
     have y3 := Zv q 3 (.int .i64 s.d.j)
     have y4 := Zv q 4 (.int .i64 s.d.lo)
     have y5 := Zv q 5 (.int .i64 s.d.hi)
     have y6 := Zv q 6 (.int .i64 s.d.dy)
     have y7 := Zv q 7 (.int .i64 s.d.bl)
     go_simp) HS0 ?_
  refine Zl 4 (.agg #[.int .i64 x.s, .int .i64 x.a, .int .i64 x.b, .int .i64 x.f, .int .i64 x.t]) rfl (fun w9 hS => by
     have q := KX2.out.below hS KX2.out.lt
     have y0 := Zv q 0 (.int .i64 x.s)
     have y1 := Zv q 1 (.int .i64 x.a)
     have y2 := Zv q 2 (.int .i64 x.b)
     have y3 := Zv q 3 (.int .i64 x.f)
     have y4 := Zv q 4 (.int .i64 x.t)
     go_simp) HS0 ?_
  refine zdi (i := 5) (f := _) (args := #[.agg #[.int .i64 x.s, .int .i64 x.a, .int .i64 x.b, .int .i64 x.f, .int .i64 x.t]]) (by kernel_rfl) rfl (by kernel_rfl) (by kernel_rfl) (zc3 x _) ?_
  rintro e w5 ⟨rfl, hb⟩
  refine Zu (Zr HS0 hb) fun HS1 => ?_
  obtain ⟨k1, hk1⟩ : ∃ v, E.blkB s.d x.a x.b = v := ⟨_, rfl⟩
  have HK1 := Zh hk1
  refine zdi (i := 6) (f := _) (args := #[.agg #[.int .i64 s.d.b, .int .i64 s.d.k, .int .i64 s.d.c, .int .i64 s.d.j, .int .i64 s.d.lo, .int .i64 s.d.hi, .int .i64 s.d.dy, .int .i64 s.d.bl], .agg #[.int .i64 x.a, .int .i64 x.b]]) (by kernel_rfl) rfl (by kernel_rfl) (by kernel_rfl) (zd4 s.d x.a x.b k1 hk1 _ HF.out.b HF.out.c) ?_
  rintro e w6 ⟨rfl, hb⟩
  refine Zu (Zr HS1 hb) fun HS2 => ?_
  clear hk1
  cases k1 with
  | false =>
   have nk : ¬ E.blkB s.d x.a x.b = true := by rw [HK1.out]; simp
   refine tk 7 (.bool false) HS2 ?_
   refine tk 8 (.bool false) HS2 ?_
   refine tko 9 HS2 ?_
   refine tko 10 HS2 ?_
   refine tko 11 HS2 ?_
   refine tko 12 HS2 ?_
   refine tko 13 HS2 ?_
   refine tko 14 HS2 ?_
   refine tk 15 (.bool false) HS2 ?_
   refine tk 16 (.bool false) HS2 ?_
   refine tko 17 HS2 ?_
   refine tko 18 HS2 ?_
   refine tko 19 HS2 ?_
   refine tk 20 (.bool false) HS2 ?_
   refine tk 21 (.bool false) HS2 ?_
   refine tko 22 HS2 ?_
   refine tko 23 HS2 ?_
   refine tko 24 HS2 ?_
   refine tko 25 HS2 ?_
   refine tko 26 HS2 ?_
   refine tk 27 (.bool false) HS2 ?_
   refine tk 28 (.bool false) HS2 ?_
   refine tko 29 HS2 ?_
   refine tko 30 HS2 ?_
   refine tko 31 HS2 ?_
   refine tko 32 HS2 ?_
   refine tko 33 HS2 ?_
   refine tk 34 (.bool false) HS2 ?_
   refine tk 35 (.bool false) HS2 ?_
   refine tko 36 HS2 ?_
   refine tko 37 HS2 ?_
   refine tko 38 HS2 ?_
   refine tko 39 HS2 ?_
   refine tko 40 HS2 ?_
   refine tko 41 HS2 ?_
   refine tko 42 HS2 ?_
   refine tko 43 HS2 ?_
   refine tko 44 HS2 ?_
   refine tk 45 (.bool false) HS2 ?_
   refine tk 46 (.bool false) HS2 ?_
   refine tko 47 HS2 ?_
   refine tko 48 HS2 ?_
   refine tko 49 HS2 ?_
   refine tko 50 HS2 ?_
   refine tko 51 HS2 ?_
   refine tko 52 HS2 ?_
   refine tko 53 HS2 ?_
   refine tko 54 HS2 ?_
   refine tko 55 HS2 ?_
   refine tko 56 HS2 ?_
   refine tk 57 (.bool false) HS2 ?_
   refine tk 58 (.bool false) HS2 ?_
   refine tko 59 HS2 ?_
   refine tko 60 HS2 ?_
   refine tko 61 HS2 ?_
   refine tko 62 HS2 ?_
   refine tko 63 HS2 ?_
   refine tko 64 HS2 ?_
   refine tko 65 HS2 ?_
   refine tko 66 HS2 ?_
   refine tko 67 HS2 ?_
   refine tko 68 HS2 ?_
   refine tko 69 HS2 ?_
   refine tk 70 (.bool false) HS2 ?_
   refine tk 71 (.bool false) HS2 ?_
   refine wpAnyH_done (by kernel_rfl) ?_ _
   have HE : Hid (v = false) := Zh (by rw [<- HV.out]; exact decide_eq_false fun hok => nk hok.2.1)
   go_wp2
   go_ret
   exact ⟨by rw [HE.out]; kernel_rfl, (HB0.out.trans (Below.mono HS2 HB0.out.size))⟩
  | true =>
   refine tk 7 (.bool true) HS2 ?_
   refine tk 8 (.bool true) HS2 ?_
   refine Zq 9 w.heap.size 13 HS2 ?_
   refine Zl 10 (.slice ap np cp) rfl (fun w9 hS => by
      have y13 := Zv (KS1.out.below hS KS1.out.lt) 13 (.slice ap np cp)
      go_simp) HS2 ?_
   refine Zq 11 w1.heap.size 1 HS2 ?_
   refine Zl 12 (.int .i64 x.a) rfl (fun w9 hS => by
      have y1 := Zv (KX2.out.below hS KX2.out.lt) 1 (.int .i64 x.a)
      go_simp) HS2 ?_
   obtain ⟨rr, hr⟩ : ∃ v, O.of s.ps x.a = v := ⟨_, rfl⟩
   have HR := Zh hr
   have hr1 := O.of_range s.ps x.a
   rw [hr] at hr1
   refine zdi (i := 13) (f := _) (args := #[.slice ap np cp, .int .i64 x.a]) (by kernel_rfl) rfl (by kernel_rfl) (by kernel_rfl) (zdo ap np cp s.ps x.a rr hr _ (HQ0.out.below HS2) (by omega)) ?_
   rintro e w7 ⟨rfl, hb⟩
   refine Zu (Zr HS2 hb) fun HS3 => ?_
   clear hr
   by_cases k2 : rr = -1
   ·subst k2
    have nk : ¬ 0 <= O.of s.ps x.a := by rw [HR.out]; omega
    refine tk 14 (.bool false) HS3 ?_
    refine tk 15 (.bool false) HS3 ?_
    refine tk 16 (.bool false) HS3 ?_
    refine tko 17 HS3 ?_
    refine tko 18 HS3 ?_
    refine tko 19 HS3 ?_
    refine tk 20 (.bool false) HS3 ?_
    refine tk 21 (.bool false) HS3 ?_
    refine tko 22 HS3 ?_
    refine tko 23 HS3 ?_
    refine tko 24 HS3 ?_
    refine tko 25 HS3 ?_
    refine tko 26 HS3 ?_
    refine tk 27 (.bool false) HS3 ?_
    refine tk 28 (.bool false) HS3 ?_
    refine tko 29 HS3 ?_
    refine tko 30 HS3 ?_
    refine tko 31 HS3 ?_
    refine tko 32 HS3 ?_
    refine tko 33 HS3 ?_
    refine tk 34 (.bool false) HS3 ?_
    refine tk 35 (.bool false) HS3 ?_
    refine tko 36 HS3 ?_
    refine tko 37 HS3 ?_
    refine tko 38 HS3 ?_
    refine tko 39 HS3 ?_
    refine tko 40 HS3 ?_
    refine tko 41 HS3 ?_
    refine tko 42 HS3 ?_
    refine tko 43 HS3 ?_
    refine tko 44 HS3 ?_
    refine tk 45 (.bool false) HS3 ?_
    refine tk 46 (.bool false) HS3 ?_
    refine tko 47 HS3 ?_
    refine tko 48 HS3 ?_
    refine tko 49 HS3 ?_
    refine tko 50 HS3 ?_
    refine tko 51 HS3 ?_
    refine tko 52 HS3 ?_
    refine tko 53 HS3 ?_
    refine tko 54 HS3 ?_
    refine tko 55 HS3 ?_
    refine tko 56 HS3 ?_
    refine tk 57 (.bool false) HS3 ?_
    refine tk 58 (.bool false) HS3 ?_
    refine tko 59 HS3 ?_
    refine tko 60 HS3 ?_
    refine tko 61 HS3 ?_
    refine tko 62 HS3 ?_
    refine tko 63 HS3 ?_
    refine tko 64 HS3 ?_
    refine tko 65 HS3 ?_
    refine tko 66 HS3 ?_
    refine tko 67 HS3 ?_
    refine tko 68 HS3 ?_
    refine tko 69 HS3 ?_
    refine tk 70 (.bool false) HS3 ?_
    refine tk 71 (.bool false) HS3 ?_
    refine wpAnyH_done (by kernel_rfl) ?_ _
    have HE : Hid (v = false) := Zh (by rw [<- HV.out]; exact decide_eq_false fun hok => nk hok.2.2.1)
    go_wp2
    go_ret
    exact ⟨by rw [HE.out]; kernel_rfl, (HB0.out.trans (Below.mono HS3 HB0.out.size))⟩
   ·have e2 : (rr != -1) = true := by simpa using k2
    refine wpAnyH_take (i := 14) (v := .bool true) rfl (by kernel_rfl) (by kernel_rfl) (by kernel_rfl) (fun _ _ _ h => h) (.inl ⟨by kernel_rfl, fun w9 hS => by go_simp⟩) HS3 ?_
    refine tk 15 (.bool true) HS3 ?_
    refine tk 16 (.bool true) HS3 ?_
    refine Zq 17 w1.heap.size 3 HS3 ?_
    refine Zl 18 (.int .i64 x.f) rfl (fun w9 hS => by
       have y3 := Zv (KX2.out.below hS KX2.out.lt) 3 (.int .i64 x.f)
       go_simp) HS3 ?_
    by_cases k3 : 0 <= x.f
    rotate_left
    ·have d3 : decide (0 <= x.f) = false := decide_eq_false k3
     have nk := k3
     refine wpAnyH_take (i := 19) (v := .bool false) rfl (by kernel_rfl) (by kernel_rfl) (by kernel_rfl) (fun _ _ _ h => h) (.inl ⟨by kernel_rfl, fun w9 hS => by go_simp⟩) HS3 ?_
     refine tk 20 (.bool false) HS3 ?_
     refine tk 21 (.bool false) HS3 ?_
     refine tko 22 HS3 ?_
     refine tko 23 HS3 ?_
     refine tko 24 HS3 ?_
     refine tko 25 HS3 ?_
     refine tko 26 HS3 ?_
     refine tk 27 (.bool false) HS3 ?_
     refine tk 28 (.bool false) HS3 ?_
     refine tko 29 HS3 ?_
     refine tko 30 HS3 ?_
     refine tko 31 HS3 ?_
     refine tko 32 HS3 ?_
     refine tko 33 HS3 ?_
     refine tk 34 (.bool false) HS3 ?_
     refine tk 35 (.bool false) HS3 ?_
     refine tko 36 HS3 ?_
     refine tko 37 HS3 ?_
     refine tko 38 HS3 ?_
     refine tko 39 HS3 ?_
     refine tko 40 HS3 ?_
     refine tko 41 HS3 ?_
     refine tko 42 HS3 ?_
     refine tko 43 HS3 ?_
     refine tko 44 HS3 ?_
     refine tk 45 (.bool false) HS3 ?_
     refine tk 46 (.bool false) HS3 ?_
     refine tko 47 HS3 ?_
     refine tko 48 HS3 ?_
     refine tko 49 HS3 ?_
     refine tko 50 HS3 ?_
     refine tko 51 HS3 ?_
     refine tko 52 HS3 ?_
     refine tko 53 HS3 ?_
     refine tko 54 HS3 ?_
     refine tko 55 HS3 ?_
     refine tko 56 HS3 ?_
     refine tk 57 (.bool false) HS3 ?_
     refine tk 58 (.bool false) HS3 ?_
     refine tko 59 HS3 ?_
     refine tko 60 HS3 ?_
     refine tko 61 HS3 ?_
     refine tko 62 HS3 ?_
     refine tko 63 HS3 ?_
     refine tko 64 HS3 ?_
     refine tko 65 HS3 ?_
     refine tko 66 HS3 ?_
     refine tko 67 HS3 ?_
     refine tko 68 HS3 ?_
     refine tko 69 HS3 ?_
     refine tk 70 (.bool false) HS3 ?_
     refine tk 71 (.bool false) HS3 ?_
     refine wpAnyH_done (by kernel_rfl) ?_ _
     have HE : Hid (v = false) := Zh (by rw [<- HV.out]; exact decide_eq_false fun hok => nk hok.2.2.2.2.1)
     go_wp2
     go_ret
     exact ⟨by rw [HE.out]; kernel_rfl, (HB0.out.trans (Below.mono HS3 HB0.out.size))⟩
    have d3 : decide (0 <= x.f) = true := decide_eq_true k3
    refine wpAnyH_take (i := 19) (v := .bool true) rfl (by kernel_rfl) (by kernel_rfl) (by kernel_rfl) (fun _ _ _ h => h) (.inl ⟨by kernel_rfl, fun w9 hS => by go_simp⟩) HS3 ?_
    refine tk 20 (.bool true) HS3 ?_
    refine tk 21 (.bool true) HS3 ?_
    refine Zq 22 w1.heap.size 4 HS3 ?_
    refine Zl 23 (.int .i64 x.t) rfl (fun w9 hS => by
       have y4 := Zv (KX2.out.below hS KX2.out.lt) 4 (.int .i64 x.t)
       go_simp) HS3 ?_
    refine Zq 24 w1.heap.size 3 HS3 ?_
    refine Zl 25 (.int .i64 x.f) rfl (fun w9 hS => by
       have y3 := Zv (KX2.out.below hS KX2.out.lt) 3 (.int .i64 x.f)
       go_simp) HS3 ?_
    by_cases k4 : x.f <= x.t
    rotate_left
    ·have d4 : decide (x.f <= x.t) = false := decide_eq_false k4
     have nk := k4
     refine wpAnyH_take (i := 26) (v := .bool false) rfl (by kernel_rfl) (by kernel_rfl) (by kernel_rfl) (fun _ _ _ h => h) (.inl ⟨by kernel_rfl, fun w9 hS => by go_simp⟩) HS3 ?_
     refine tk 27 (.bool false) HS3 ?_
     refine tk 28 (.bool false) HS3 ?_
     refine tko 29 HS3 ?_
     refine tko 30 HS3 ?_
     refine tko 31 HS3 ?_
     refine tko 32 HS3 ?_
     refine tko 33 HS3 ?_
     refine tk 34 (.bool false) HS3 ?_
     refine tk 35 (.bool false) HS3 ?_
     refine tko 36 HS3 ?_
     refine tko 37 HS3 ?_
     refine tko 38 HS3 ?_
     refine tko 39 HS3 ?_
     refine tko 40 HS3 ?_
     refine tko 41 HS3 ?_
     refine tko 42 HS3 ?_
     refine tko 43 HS3 ?_
     refine tko 44 HS3 ?_
     refine tk 45 (.bool false) HS3 ?_
     refine tk 46 (.bool false) HS3 ?_
     refine tko 47 HS3 ?_
     refine tko 48 HS3 ?_
     refine tko 49 HS3 ?_
     refine tko 50 HS3 ?_
     refine tko 51 HS3 ?_
     refine tko 52 HS3 ?_
     refine tko 53 HS3 ?_
     refine tko 54 HS3 ?_
     refine tko 55 HS3 ?_
     refine tko 56 HS3 ?_
     refine tk 57 (.bool false) HS3 ?_
     refine tk 58 (.bool false) HS3 ?_
     refine tko 59 HS3 ?_
     refine tko 60 HS3 ?_
     refine tko 61 HS3 ?_
     refine tko 62 HS3 ?_
     refine tko 63 HS3 ?_
     refine tko 64 HS3 ?_
     refine tko 65 HS3 ?_
     refine tko 66 HS3 ?_
     refine tko 67 HS3 ?_
     refine tko 68 HS3 ?_
     refine tko 69 HS3 ?_
     refine tk 70 (.bool false) HS3 ?_
     refine tk 71 (.bool false) HS3 ?_
     refine wpAnyH_done (by kernel_rfl) ?_ _
     have HE : Hid (v = false) := Zh (by rw [<- HV.out]; exact decide_eq_false fun hok => nk hok.2.2.2.2.2.1)
     go_wp2
     go_ret
     exact ⟨by rw [HE.out]; kernel_rfl, (HB0.out.trans (Below.mono HS3 HB0.out.size))⟩
    have d4 : decide (x.f <= x.t) = true := decide_eq_true k4
    refine wpAnyH_take (i := 26) (v := .bool true) rfl (by kernel_rfl) (by kernel_rfl) (by kernel_rfl) (fun _ _ _ h => h) (.inl ⟨by kernel_rfl, fun w9 hS => by go_simp⟩) HS3 ?_
    refine tk 27 (.bool true) HS3 ?_
    refine tk 28 (.bool true) HS3 ?_
    refine Zq 29 w.heap.size 12 HS3 ?_
    refine Zl 30 (.int .i64 s.now) rfl (fun w9 hS => by
       have y12 := Zv (KS1.out.below hS KS1.out.lt) 12 (.int .i64 s.now)
       go_simp) HS3 ?_
    refine Zq 31 w1.heap.size 4 HS3 ?_
    refine Zl 32 (.int .i64 x.t) rfl (fun w9 hS => by
       have y4 := Zv (KX2.out.below hS KX2.out.lt) 4 (.int .i64 x.t)
       go_simp) HS3 ?_
    by_cases k5 : x.t <= s.now
    rotate_left
    ·have d5 : decide (x.t <= s.now) = false := decide_eq_false k5
     have nk := k5
     refine wpAnyH_take (i := 33) (v := .bool false) rfl (by kernel_rfl) (by kernel_rfl) (by kernel_rfl) (fun _ _ _ h => h) (.inl ⟨by kernel_rfl, fun w9 hS => by go_simp⟩) HS3 ?_
     refine tk 34 (.bool false) HS3 ?_
     refine tk 35 (.bool false) HS3 ?_
     refine tko 36 HS3 ?_
     refine tko 37 HS3 ?_
     refine tko 38 HS3 ?_
     refine tko 39 HS3 ?_
     refine tko 40 HS3 ?_
     refine tko 41 HS3 ?_
     refine tko 42 HS3 ?_
     refine tko 43 HS3 ?_
     refine tko 44 HS3 ?_
     refine tk 45 (.bool false) HS3 ?_
     refine tk 46 (.bool false) HS3 ?_
     refine tko 47 HS3 ?_
     refine tko 48 HS3 ?_
     refine tko 49 HS3 ?_
     refine tko 50 HS3 ?_
     refine tko 51 HS3 ?_
     refine tko 52 HS3 ?_
     refine tko 53 HS3 ?_
     refine tko 54 HS3 ?_
     refine tko 55 HS3 ?_
     refine tko 56 HS3 ?_
     refine tk 57 (.bool false) HS3 ?_
     refine tk 58 (.bool false) HS3 ?_
     refine tko 59 HS3 ?_
     refine tko 60 HS3 ?_
     refine tko 61 HS3 ?_
     refine tko 62 HS3 ?_
     refine tko 63 HS3 ?_
     refine tko 64 HS3 ?_
     refine tko 65 HS3 ?_
     refine tko 66 HS3 ?_
     refine tko 67 HS3 ?_
     refine tko 68 HS3 ?_
     refine tko 69 HS3 ?_
     refine tk 70 (.bool false) HS3 ?_
     refine tk 71 (.bool false) HS3 ?_
     refine wpAnyH_done (by kernel_rfl) ?_ _
     have HE : Hid (v = false) := Zh (by rw [<- HV.out]; exact decide_eq_false fun hok => nk hok.2.2.2.2.2.2.1)
     go_wp2
     go_ret
     exact ⟨by rw [HE.out]; kernel_rfl, (HB0.out.trans (Below.mono HS3 HB0.out.size))⟩
    have d5 : decide (x.t <= s.now) = true := decide_eq_true k5
    refine wpAnyH_take (i := 33) (v := .bool true) rfl (by kernel_rfl) (by kernel_rfl) (by kernel_rfl) (fun _ _ _ h => h) (.inl ⟨by kernel_rfl, fun w9 hS => by go_simp⟩) HS3 ?_
    refine tk 34 (.bool true) HS3 ?_
    refine tk 35 (.bool true) HS3 ?_
    refine Zq 36 w1.heap.size 4 HS3 ?_
    refine Zl 37 (.int .i64 x.t) rfl (fun w9 hS => by
       have y4 := Zv (KX2.out.below hS KX2.out.lt) 4 (.int .i64 x.t)
       go_simp) HS3 ?_
    refine Zq 38 w.heap.size 8 HS3 ?_
    refine Zq 39 w.heap.size 9 HS3 ?_
    refine Zl 40 (.int .i64 s.p.i) rfl (fun w9 hS => by
       have y9 := Zv (KS1.out.below hS KS1.out.lt) 9 (.int .i64 s.p.i)
       go_simp) HS3 ?_
    refine Zq 42 w.heap.size 12 HS3 ?_
    refine Zl 43 (.int .i64 s.now) rfl (fun w9 hS => by
       have y12 := Zv (KS1.out.below hS KS1.out.lt) 12 (.int .i64 s.now)
       go_simp) HS3 ?_
    have hwr : IntKind.i64.wrap (x.t + s.p.i) = x.t + s.p.i := by
     have := HP.out.2.2
     have := HN.out
     rw [IntKind.wrap_i64]; omega
    refine wpAnyH_take (i := 41) (v := .int .i64 (x.t + s.p.i)) rfl (by kernel_rfl) (by kernel_rfl) (by kernel_rfl) (fun _ _ _ h => h) (.inl ⟨by kernel_rfl, fun w9 hS => by go_simp⟩) HS3 ?_
    by_cases k6 : s.now < x.t + s.p.i
    rotate_left
    ·have d6 : decide (s.now < x.t + s.p.i) = false := decide_eq_false k6
     have nk := k6
     refine wpAnyH_take (i := 44) (v := .bool false) rfl (by kernel_rfl) (by kernel_rfl) (by kernel_rfl) (fun _ _ _ h => h) (.inl ⟨by kernel_rfl, fun w9 hS => by go_simp⟩) HS3 ?_
     refine tk 45 (.bool false) HS3 ?_
     refine tk 46 (.bool false) HS3 ?_
     refine tko 47 HS3 ?_
     refine tko 48 HS3 ?_
     refine tko 49 HS3 ?_
     refine tko 50 HS3 ?_
     refine tko 51 HS3 ?_
     refine tko 52 HS3 ?_
     refine tko 53 HS3 ?_
     refine tko 54 HS3 ?_
     refine tko 55 HS3 ?_
     refine tko 56 HS3 ?_
     refine tk 57 (.bool false) HS3 ?_
     refine tk 58 (.bool false) HS3 ?_
     refine tko 59 HS3 ?_
     refine tko 60 HS3 ?_
     refine tko 61 HS3 ?_
     refine tko 62 HS3 ?_
     refine tko 63 HS3 ?_
     refine tko 64 HS3 ?_
     refine tko 65 HS3 ?_
     refine tko 66 HS3 ?_
     refine tko 67 HS3 ?_
     refine tko 68 HS3 ?_
     refine tko 69 HS3 ?_
     refine tk 70 (.bool false) HS3 ?_
     refine tk 71 (.bool false) HS3 ?_
     refine wpAnyH_done (by kernel_rfl) ?_ _
     have HE : Hid (v = false) := Zh (by rw [<- HV.out]; exact decide_eq_false fun hok => nk hok.2.2.2.2.2.2.2.1)
     go_wp2
     go_ret
     exact ⟨by rw [HE.out]; kernel_rfl, (HB0.out.trans (Below.mono HS3 HB0.out.size))⟩
    have d6 : decide (s.now < x.t + s.p.i) = true := decide_eq_true k6
    refine wpAnyH_take (i := 44) (v := .bool true) rfl (by kernel_rfl) (by kernel_rfl) (by kernel_rfl) (fun _ _ _ h => h) (.inl ⟨by kernel_rfl, fun w9 hS => by go_simp⟩) HS3 ?_
    refine tk 45 (.bool true) HS3 ?_
    refine tk 46 (.bool true) HS3 ?_
    refine Zq 47 w.heap.size 14 HS3 ?_
    refine Zl 48 (.slice al nl cl) rfl (fun w9 hS => by
       have y14 := Zv (KS1.out.below hS KS1.out.lt) 14 (.slice al nl cl)
       go_simp) HS3 ?_
    refine Zq 49 w1.heap.size 0 HS3 ?_
    refine Zl 50 (.int .i64 x.s) rfl (fun w9 hS => by
       have y0 := Zv (KX2.out.below hS KX2.out.lt) 0 (.int .i64 x.s)
       go_simp) HS3 ?_
    refine Zq 53 w.heap.size 8 HS3 ?_
    refine Zq 54 w.heap.size 8 HS3 ?_
    refine Zl 55 (.int .i64 s.p.q) rfl (fun w9 hS => by
       have y8 := Zv (KS1.out.below hS KS1.out.lt) 8 (.int .i64 s.p.q)
       go_simp) HS3 ?_
    obtain ⟨k, hk⟩ : ∃ k, L.of s.l x.s = k := ⟨_, rfl⟩
    have HK := Zh hk
    refine zdi (i := 51) (f := _) (args := #[.slice al nl cl, .int .i64 x.s]) (by kernel_rfl) rfl (by kernel_rfl) (by kernel_rfl) (zcp al nl cl s.l x.s k hk _ (HL0.out.below HS3) (by omega)) ?_
    rintro e w8 ⟨a5, c5, n5, rfl, hn5, -, hb⟩
    refine Zu (Zr HS3 hb) fun HS4 => ?_
    have HC : Hid ((n5 : Int) = (Y.cnt s.l x.s : Nat)) := Zh (by have := hn5.out; rw [<- this, <- HK.out, Y.of_len])
    clear hn5 hk
    refine tk 52 (.int .i64 n5) HS4 ?_
    by_cases k7 : (n5 : Int) <= s.p.q
    rotate_left
    ·have d7 : decide ((n5 : Int) <= s.p.q) = false := decide_eq_false k7
     have nk : ¬ (Y.cnt s.l x.s : Int) <= s.p.q := by rw [<- HC.out]; exact k7
     refine wpAnyH_take (i := 56) (v := .bool false) rfl (by kernel_rfl) (by kernel_rfl) (by kernel_rfl) (fun _ _ _ h => h) (.inl ⟨by kernel_rfl, fun w9 hS => by go_simp⟩) HS4 ?_
     refine tk 57 (.bool false) HS4 ?_
     refine tk 58 (.bool false) HS4 ?_
     refine tko 59 HS4 ?_
     refine tko 60 HS4 ?_
     refine tko 61 HS4 ?_
     refine tko 62 HS4 ?_
     refine tko 63 HS4 ?_
     refine tko 64 HS4 ?_
     refine tko 65 HS4 ?_
     refine tko 66 HS4 ?_
     refine tko 67 HS4 ?_
     refine tko 68 HS4 ?_
     refine tko 69 HS4 ?_
     refine tk 70 (.bool false) HS4 ?_
     refine tk 71 (.bool false) HS4 ?_
     refine wpAnyH_done (by kernel_rfl) ?_ _
     have HE : Hid (v = false) := Zh (by rw [<- HV.out]; exact decide_eq_false fun hok => nk hok.2.2.2.2.2.2.2.2)
     go_wp2
     go_ret
     exact ⟨by rw [HE.out]; kernel_rfl, (HB0.out.trans (Below.mono HS4 HB0.out.size))⟩
    have d7 : decide ((n5 : Int) <= s.p.q) = true := decide_eq_true k7
    refine wpAnyH_take (i := 56) (v := .bool true) rfl (by kernel_rfl) (by kernel_rfl) (by kernel_rfl) (fun _ _ _ h => h) (.inl ⟨by kernel_rfl, fun w9 hS => by go_simp⟩) HS4 ?_
    refine tk 57 (.bool true) HS4 ?_
    refine tk 58 (.bool true) HS4 ?_
    refine Zq 59 w.heap.size 8 HS4 ?_
    refine Zq 60 w.heap.size 11 HS4 ?_
    refine Zl 61 (.bool s.p.pair) rfl (fun w9 hS => by
       have y11 := Zv (KS1.out.below hS KS1.out.lt) 11 (.bool s.p.pair)
       go_simp) HS4 ?_
    by_cases hpr : s.p.pair = true
    rotate_left
    ·have hpr' : s.p.pair = false := by simpa using hpr
     refine wpAnyH_take (i := 62) (v := .bool true) rfl (by kernel_rfl) (by kernel_rfl) (by kernel_rfl) (fun _ _ _ h => h) (.inl ⟨by kernel_rfl, fun w9 hS => (show _ = Result.ok (.value (.bool (!s.p.pair))) w9 by kernel_rfl).trans (by rw [hpr']; rfl)⟩) HS4 ?_
     refine tk 63 (.bool true) HS4 ?_
     refine tko 64 HS4 ?_
     refine tko 65 HS4 ?_
     refine tko 66 HS4 ?_
     refine tko 67 HS4 ?_
     refine tko 68 HS4 ?_
     refine tk 69 (.bool true) HS4 ?_
     refine tk 70 (.bool true) HS4 ?_
     refine tk 71 (.bool true) HS4 ?_
     refine wpAnyH_done (by kernel_rfl) ?_ _
     have HE : Hid (v = true) := Zh (by
      rw [<- HV.out]
      exact decide_eq_true ⟨HI.out, HK1.out, by rw [HR.out]; omega, fun h => absurd h hpr, k3, k4, k5, k6, by rw [<- HC.out]; exact k7⟩)
     go_wp2
     go_ret
     exact ⟨by rw [HE.out]; kernel_rfl, (HB0.out.trans (Below.mono HS4 HB0.out.size))⟩
    refine wpAnyH_take (i := 62) (v := .bool false) rfl (by kernel_rfl) (by kernel_rfl) (by kernel_rfl) (fun _ _ _ h => h) (.inl ⟨by kernel_rfl, fun w9 hS => (show _ = Result.ok (.value (.bool (!s.p.pair))) w9 by kernel_rfl).trans (by rw [hpr]; rfl)⟩) HS4 ?_
    refine tk 63 (.bool false) HS4 ?_
    refine Zq 64 w1.heap.size 1 HS4 ?_
    refine Zl 65 (.int .i64 x.a) rfl (fun w9 hS => by
       have y1 := Zv (KX2.out.below hS KX2.out.lt) 1 (.int .i64 x.a)
       go_simp) HS4 ?_
    refine Zq 66 w3.heap.size 0 HS4 ?_
    refine Zl 67 (.int .i64 ba) rfl (fun w9 hS => by
       have y0 := Zv (KB4.out.below hS KB4.out.lt) 0 (.int .i64 ba)
       go_simp) HS4 ?_
    by_cases k8 : x.a = ba
    ·have e8 : (x.a == ba) = true := by rw [k8]; simp
     refine wpAnyH_take (i := 68) (v := .bool true) rfl (by kernel_rfl) (by kernel_rfl) (by kernel_rfl) (fun _ _ _ h => h) (.inl ⟨by kernel_rfl, fun w9 hS => by go_simp⟩) HS4 ?_
     refine tk 69 (.bool true) HS4 ?_
     refine tk 70 (.bool true) HS4 ?_
     refine tk 71 (.bool true) HS4 ?_
     refine wpAnyH_done (by kernel_rfl) ?_ _
     have HE : Hid (v = true) := Zh (by
      rw [<- HV.out]
      exact decide_eq_true ⟨HI.out, HK1.out, by rw [HR.out]; omega, fun _ => by rw [HA.out]; exact k8.symm, k3, k4, k5, k6, by rw [<- HC.out]; exact k7⟩)
     go_wp2
     go_ret
     exact ⟨by rw [HE.out]; kernel_rfl, (HB0.out.trans (Below.mono HS4 HB0.out.size))⟩
    ·have e8 : (x.a == ba) = false := by simpa using k8
     have nk : ¬ (s.p.pair = true -> E.baseA s.d x.s = x.a) := fun h => k8 (by rw [<- HA.out]; exact (h hpr).symm)
     refine wpAnyH_take (i := 68) (v := .bool false) rfl (by kernel_rfl) (by kernel_rfl) (by kernel_rfl) (fun _ _ _ h => h) (.inl ⟨by kernel_rfl, fun w9 hS => by go_simp⟩) HS4 ?_
     refine tk 69 (.bool false) HS4 ?_
     refine tk 70 (.bool false) HS4 ?_
     refine tk 71 (.bool false) HS4 ?_
     refine wpAnyH_done (by kernel_rfl) ?_ _
     have HE : Hid (v = false) := Zh (by rw [<- HV.out]; exact decide_eq_false fun hok => nk hok.2.2.2.1)
     go_wp2
     go_ret
     exact ⟨by rw [HE.out]; kernel_rfl, (HB0.out.trans (Below.mono HS4 HB0.out.size))⟩
end Go.Proofs.YtnbkkjcmblfhpaaGreat
