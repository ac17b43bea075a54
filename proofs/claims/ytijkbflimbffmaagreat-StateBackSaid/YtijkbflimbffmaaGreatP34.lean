import Derived.Test.YtijkbflimbffmaaGreatP32
import Derived.Test.YtijkbflimbffmaaGreatP33
namespace Go.Proofs.YtijkbflimbffmaaGreat
set_option maxHeartbeats 1000000
set_option maxRecDepth 100000
open Go.RowKit
theorem zsm (s : Y.St) (A : Y.A9) (e : Y.Ev) (t : Y.St) (f : Int) (hs : J.apply s e = (t, f)) (w : World) (h : Y.SIn w A s) (hf : Y.Fits A s) (hbad : Y.May s -> N.May e -> e.t < s.now) :
  Calls Tryz.prog 14 #[Y.val s A, Y.eval e] w fun r w' => ∃ A', r = .returned (.tuple #[Y.val t A', .int .i64 f]) /\ Hid (J.Got w' w.heap.size t A') /\ Below w.heap.size w w' := by
 obtain ⟨ap, np, cp, al, nl, cl, ah, nh, ch⟩ := A
 have hnp : np <= 600 := hf.p
 have hnl : nl <= 600 := hf.l
 have hnh : nh <= 600 := hf.h
 have HF := Zh hf
 have HB0 := Zh (Below.refl w.heap.size w)
 have HI := Zh h
 clear h hf
 unfold Y.val Y.eval
 obtain ⟨w1, hw1, hb, hk⟩ := Zn w 32 #[.int .i64 s.d.b, .int .i64 s.d.k, .int .i64 s.d.c, .int .i64 s.d.j, .int .i64 s.d.lo, .int .i64 s.d.hi, .int .i64 s.d.dy, .int .i64 s.d.bl, .int .i64 s.p.q, .int .i64 s.p.i, .int .i64 s.p.h, .bool s.p.pair, .int .i64 s.now, .slice ap np cp, .slice al nl cl, .slice ah nh ch]
 have HB1 := Zt HB0 hb
 have KS1 := Zh hk
 clear hb hk HB0
 obtain ⟨w2, hw2, hb, hk⟩ := Zn w1 34 #[.int .i64 e.k, .int .i64 e.t, .int .i64 e.a, .int .i64 e.b, .int .i64 e.c, .int .i64 e.p.q, .int .i64 e.p.i, .int .i64 e.p.h, .bool e.p.pair]
 replace KS1 := Zk KS1 hb
 have HB2 := Zt HB1 hb
 have KE2 := Zh hk
 clear hb hk HB1
 obtain ⟨w3, hw3, hb, hk⟩ := Zn w2 32 #[.int .i64 0, .int .i64 0, .int .i64 0, .int .i64 0, .int .i64 0, .int .i64 0, .int .i64 0, .int .i64 0, .int .i64 0, .int .i64 0, .int .i64 0, .bool false, .int .i64 0, .slice none 0 0, .slice none 0 0, .slice none 0 0]
 replace KS1 := Zk KS1 hb
 replace KE2 := Zk KE2 hb
 have HB3 := Zt HB2 hb
 have KT3 := Zh hk
 clear hb hk HB2
 have hw12 : w1.heap.size = w.heap.size + 1 := by rw [<- hw1]; simp
 have hw22 : w2.heap.size = w.heap.size + 2 := by rw [<- hw2]; simp; omega
 have hw33 : w3.heap.size = w.heap.size + 3 := by rw [<- hw3]; simp; omega
 rw [hw12] at KE2
 rw [hw22] at KT3
 obtain ⟨vm, hvm⟩ : ∃ b, decide (Y.May s) = b := ⟨_, rfl⟩
 have cm := fun W (h : Y.SIn W ⟨ap, np, cp, al, nl, cl, ah, nh, ch⟩ s) => zbj s ⟨ap, np, cp, al, nl, cl, ah, nh, ch⟩ vm hvm W h HF.out
 have co := fun W (h : Y.SIn W ⟨ap, np, cp, al, nl, cl, ah, nh, ch⟩ s) => zoa s ap np cp al nl cl ah nh ch W h ⟨by show np <= 1000; omega, by show nl <= 1000; omega, by show nh <= 1000; omega⟩
 unfold Y.val at cm
 have HVM := Zh hvm
 clear hvm
 have HS := Zh hs
 clear hs
 obtain ⟨em, hem⟩ : ∃ b, decide (N.May e) = b := ⟨_, rfl⟩
 have c0 := Y.cs16 KS1.out
 obtain ⟨r0, r1, r2, r3, r4, r5, r6, r7, r8⟩ := J.ce9 KE2.out
 go_enter Tryz.func14, Tryz.ntmps14
 go_wp2_with fail
 try rw [hw1]
 try rw [hw2]
 try rw [hw3]
 clear hw1 hw2 hw3 hw12
 refine (cm _ (HI.out.below HB3.out)).mono ?_
 clear c0
 clear r0 r1 r2 r3 r4 r5 r6 r7 r8
 rintro e w4 ⟨rfl, hb⟩
 replace KS1 := Zk KS1 hb
 replace KE2 := Zk KE2 hb
 have KT4 := Zk KT3 hb
 have HB4 := Zt HB3 hb
 clear hb KT3 HB3
 have c0 := Y.cs16 KS1.out
 obtain ⟨r0, r1, r2, r3, r4, r5, r6, r7, r8⟩ := J.ce9 KE2.out
 clear cm
 cases vm with
 | false =>
  have e1 := J.apply_arg (s := s) (e := e) (.inl (of_decide_eq_false HVM.out))
  rw [HS.out] at e1
  have e2 : s = t := (congrArg Prod.fst e1).symm
  have e3 : 1 = f := (congrArg Prod.snd e1).symm
  clear e1 HS
  subst e2 e3
  have hst := KT4.out.lt
  go_wp2_with fail
  refine (co _ (HI.out.below HB4.out)).mono ?_
  clear c0
  clear r0 r1 r2 r3 r4 r5 r6 r7 r8
  rintro e w5 ⟨b1, m1, e1, b2, m2, e2, b3, m3, e3, rfl, hO, hb⟩
  have hsx := hb.size
  have hsy := HB4.out.size
  replace KS1 := Zk KS1 hb
  replace KE2 := Zk KE2 hb
  have KT5 := Zk KT4 hb
  have HB5 := Zt HB4 hb
  clear hb KT4 HB4
  have HO5 := hO
  have c0 := Y.cs16 KS1.out
  obtain ⟨r0, r1, r2, r3, r4, r5, r6, r7, r8⟩ := J.ce9 KE2.out
  clear co hO
  obtain ⟨w6, hp6⟩ : ∃ W, w5.setRow (w.heap.size + 2) #[.int .i64 s.d.b, .int .i64 s.d.k, .int .i64 s.d.c, .int .i64 s.d.j, .int .i64 s.d.lo, .int .i64 s.d.hi, .int .i64 s.d.dy, .int .i64 s.d.bl, .int .i64 s.p.q, .int .i64 s.p.i, .int .i64 s.p.h, .bool s.p.pair, .int .i64 s.now, .slice b1 m1 e1, .slice b2 m2 e2, .slice b3 m3 e3] = W := ⟨_, rfl⟩
  have hg6 : w5.grownBy w6 (some (w.heap.size + 2)) := by rw [<- hp6]; exact zbr _ _ _
  have HP6 := Zh hp6
  have KT6 : Hid (Blok w6 (w.heap.size + 2) 32 #[.int .i64 s.d.b, .int .i64 s.d.k, .int .i64 s.d.c, .int .i64 s.d.j, .int .i64 s.d.lo, .int .i64 s.d.hi, .int .i64 s.d.dy, .int .i64 s.d.bl, .int .i64 s.p.q, .int .i64 s.p.i, .int .i64 s.p.h, .bool s.p.pair, .int .i64 s.now, .slice b1 m1 e1, .slice b2 m2 e2, .slice b3 m3 e3]) := Zh (by rw [<- hp6]; exact KT5.out.put _)
  have HO6 := Zh (HO5.out.far hg6 (by omega))
  have HB6 := Zh (HB5.out.grown hg6 HB5.out.size (fun q hq => by cases hq; omega))
  clear hp6 hg6
  go_wp2_with (refine Zw KT5.out HP6.out ?_)
  refine bodyPost_ret (zly (v := .int .i64 1) rfl (w.heap.size + 2) rfl (by kernel_rfl) (by kernel_rfl) KT6.out) rfl ?_
  exact ⟨⟨b1, m1, e1, b2, m2, e2, b3, m3, e3⟩, rfl, Zh ((J.Got.of HO6.out).down (by omega)), HB6.out⟩
 | true =>
  have ce := fun W => zob e em hem W
  go_wp2_with fail
  refine (ce _).mono ?_
  clear c0
  clear r0 r1 r2 r3 r4 r5 r6 r7 r8
  rintro e w5 ⟨rfl, hb⟩
  replace KS1 := Zk KS1 hb
  replace KE2 := Zk KE2 hb
  have KT5 := Zk KT4 hb
  have HB5 := Zt HB4 hb
  clear hb KT4 HB4
  have c0 := Y.cs16 KS1.out
  obtain ⟨r0, r1, r2, r3, r4, r5, r6, r7, r8⟩ := J.ce9 KE2.out
  clear ce
  cases em with
  | false =>
   have e1 := J.apply_arg (s := s) (e := e) (.inr (of_decide_eq_false hem))
   rw [HS.out] at e1
   have e2 : s = t := (congrArg Prod.fst e1).symm
   have e3 : 1 = f := (congrArg Prod.snd e1).symm
   clear e1 HS
   subst e2 e3
   have hst := KT5.out.lt
   go_wp2_with fail
   refine (co _ (HI.out.below HB5.out)).mono ?_
   clear c0
   clear r0 r1 r2 r3 r4 r5 r6 r7 r8
   rintro e w6 ⟨b1, m1, e1, b2, m2, e2, b3, m3, e3, rfl, hO, hb⟩
   have hsx := hb.size
   have hsy := HB5.out.size
   replace KS1 := Zk KS1 hb
   replace KE2 := Zk KE2 hb
   have KT6 := Zk KT5 hb
   have HB6 := Zt HB5 hb
   clear hb KT5 HB5
   have HO6 := hO
   have c0 := Y.cs16 KS1.out
   obtain ⟨r0, r1, r2, r3, r4, r5, r6, r7, r8⟩ := J.ce9 KE2.out
   clear co hO
   obtain ⟨w7, hp7⟩ : ∃ W, w6.setRow (w.heap.size + 2) #[.int .i64 s.d.b, .int .i64 s.d.k, .int .i64 s.d.c, .int .i64 s.d.j, .int .i64 s.d.lo, .int .i64 s.d.hi, .int .i64 s.d.dy, .int .i64 s.d.bl, .int .i64 s.p.q, .int .i64 s.p.i, .int .i64 s.p.h, .bool s.p.pair, .int .i64 s.now, .slice b1 m1 e1, .slice b2 m2 e2, .slice b3 m3 e3] = W := ⟨_, rfl⟩
   have hg7 : w6.grownBy w7 (some (w.heap.size + 2)) := by rw [<- hp7]; exact zbr _ _ _
   have HP7 := Zh hp7
   have KT7 : Hid (Blok w7 (w.heap.size + 2) 32 #[.int .i64 s.d.b, .int .i64 s.d.k, .int .i64 s.d.c, .int .i64 s.d.j, .int .i64 s.d.lo, .int .i64 s.d.hi, .int .i64 s.d.dy, .int .i64 s.d.bl, .int .i64 s.p.q, .int .i64 s.p.i, .int .i64 s.p.h, .bool s.p.pair, .int .i64 s.now, .slice b1 m1 e1, .slice b2 m2 e2, .slice b3 m3 e3]) := Zh (by rw [<- hp7]; exact KT6.out.put _)
   have HO7 := Zh (HO6.out.far hg7 (by omega))
   have HB7 := Zh (HB6.out.grown hg7 HB6.out.size (fun q hq => by cases hq; omega))
   clear hp7 hg7
   go_wp2_with (refine Zw KT6.out HP7.out ?_)
   refine bodyPost_ret (zly (v := .int .i64 1) rfl (w.heap.size + 2) rfl (by kernel_rfl) (by kernel_rfl) KT7.out) rfl ?_
   exact ⟨⟨b1, m1, e1, b2, m2, e2, b3, m3, e3⟩, rfl, Zh ((J.Got.of HO7.out).down (by omega)), HB7.out⟩
  | true =>
   by_cases h1 : e.t < s.now
   ·have d1 : decide (e.t < s.now) = true := decide_eq_true h1
    have e1 := J.apply_clock (of_decide_eq_true HVM.out) (of_decide_eq_true hem) h1
    rw [HS.out] at e1
    have e2 : s = t := (congrArg Prod.fst e1).symm
    have e3 : 10 = f := (congrArg Prod.snd e1).symm
    clear e1 HS
    subst e2 e3
    clear h1
    have hst := KT5.out.lt
    go_wp2_with fail
    refine (co _ (HI.out.below HB5.out)).mono ?_
    clear c0
    clear r0 r1 r2 r3 r4 r5 r6 r7 r8
    rintro e w6 ⟨b1, m1, e1, b2, m2, e2, b3, m3, e3, rfl, hO, hb⟩
    have hsx := hb.size
    have hsy := HB5.out.size
    replace KS1 := Zk KS1 hb
    replace KE2 := Zk KE2 hb
    have KT6 := Zk KT5 hb
    have HB6 := Zt HB5 hb
    clear hb KT5 HB5
    have HO6 := hO
    have c0 := Y.cs16 KS1.out
    obtain ⟨r0, r1, r2, r3, r4, r5, r6, r7, r8⟩ := J.ce9 KE2.out
    clear co hO
    obtain ⟨w7, hp7⟩ : ∃ W, w6.setRow (w.heap.size + 2) #[.int .i64 s.d.b, .int .i64 s.d.k, .int .i64 s.d.c, .int .i64 s.d.j, .int .i64 s.d.lo, .int .i64 s.d.hi, .int .i64 s.d.dy, .int .i64 s.d.bl, .int .i64 s.p.q, .int .i64 s.p.i, .int .i64 s.p.h, .bool s.p.pair, .int .i64 s.now, .slice b1 m1 e1, .slice b2 m2 e2, .slice b3 m3 e3] = W := ⟨_, rfl⟩
    have hg7 : w6.grownBy w7 (some (w.heap.size + 2)) := by rw [<- hp7]; exact zbr _ _ _
    have HP7 := Zh hp7
    have KT7 : Hid (Blok w7 (w.heap.size + 2) 32 #[.int .i64 s.d.b, .int .i64 s.d.k, .int .i64 s.d.c, .int .i64 s.d.j, .int .i64 s.d.lo, .int .i64 s.d.hi, .int .i64 s.d.dy, .int .i64 s.d.bl, .int .i64 s.p.q, .int .i64 s.p.i, .int .i64 s.p.h, .bool s.p.pair, .int .i64 s.now, .slice b1 m1 e1, .slice b2 m2 e2, .slice b3 m3 e3]) := Zh (by rw [<- hp7]; exact KT6.out.put _)
    have HO7 := Zh (HO6.out.far hg7 (by omega))
    have HB7 := Zh (HB6.out.grown hg7 HB6.out.size (fun q hq => by cases hq; omega))
    clear hp7 hg7
    go_wp2_with (refine Zw KT6.out HP7.out ?_)
    refine bodyPost_ret (zly (v := .int .i64 10) rfl (w.heap.size + 2) rfl (by kernel_rfl) (by kernel_rfl) KT7.out) rfl ?_
    exact ⟨⟨b1, m1, e1, b2, m2, e2, b3, m3, e3⟩, rfl, Zh ((J.Got.of HO7.out).down (by omega)), HB7.out⟩
   exact absurd (hbad (of_decide_eq_true HVM.out) (of_decide_eq_true hem)) h1
end Go.Proofs.YtijkbflimbffmaaGreat
