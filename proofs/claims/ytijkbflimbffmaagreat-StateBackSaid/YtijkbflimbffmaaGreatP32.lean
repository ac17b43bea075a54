import Derived.Test.YtijkbflimbffmaaGreatP17
import Derived.Test.YtijkbflimbffmaaGreatP31
namespace Go.Proofs.YtijkbflimbffmaaGreat
set_option maxHeartbeats 2000000
set_option maxRecDepth 100000
open Go.RowKit
theorem zoa (s : Y.St) (ap : Option Addr) (np cp : Nat) (al : Option Addr) (nl cl : Nat) (ah : Option Addr) (nh ch : Nat) (w : World) (h : Y.SIn w ⟨ap, np, cp, al, nl, cl, ah, nh, ch⟩ s) (hn : np <= 1000 /\ nl <= 1000 /\ nh <= 1000) :
  Calls Tryz.prog 29 #[.agg #[.int .i64 s.d.b, .int .i64 s.d.k, .int .i64 s.d.c, .int .i64 s.d.j, .int .i64 s.d.lo, .int .i64 s.d.hi, .int .i64 s.d.dy, .int .i64 s.d.bl, .int .i64 s.p.q, .int .i64 s.p.i, .int .i64 s.p.h, .bool s.p.pair, .int .i64 s.now, .slice ap np cp, .slice al nl cl, .slice ah nh ch]] w fun e w' => ∃ (b1 : Option Addr) (m1 e1 : Nat) (b2 : Option Addr) (m2 e2 : Nat) (b3 : Option Addr) (m3 e3 : Nat), e = .returned (.agg #[.int .i64 s.d.b, .int .i64 s.d.k, .int .i64 s.d.c, .int .i64 s.d.j, .int .i64 s.d.lo, .int .i64 s.d.hi, .int .i64 s.d.dy, .int .i64 s.d.bl, .int .i64 s.p.q, .int .i64 s.p.i, .int .i64 s.p.h, .bool s.p.pair, .int .i64 s.now, .slice b1 m1 e1, .slice b2 m2 e2, .slice b3 m3 e3]) /\ Hid (Y.OwnR w' w.heap.size s ⟨b1, m1, e1, b2, m2, e2, b3, m3, e3⟩) /\ Below w.heap.size w w' := by
 refine (zq7 s ⟨ap, np, cp, al, nl, cl, ah, nh, ch⟩ w h hn).mono ?_
 rintro e w' ⟨⟨b1, m1, e1, b2, m2, e2, b3, m3, e3⟩, rfl, hO, hb⟩
 exact ⟨b1, m1, e1, b2, m2, e2, b3, m3, e3, rfl, hO, hb⟩
theorem zq8 (s : Y.St) (A : Y.A9) (n : Int) (t : Y.St) (v : Bool) (hs : J.settle s n = (t, v)) (w : World) (h : Y.SIn w A s) (hf : Y.Fits A s) :
  Calls Tryz.prog 12 #[Y.val s A, .int .i64 n] w fun e w' => ∃ A', e = .returned (.tuple #[Y.val t A', .bool v]) /\ Hid (J.Got w' w.heap.size t A') /\ Below w.heap.size w w' := by
 obtain ⟨ap, np, cp, al, nl, cl, ah, nh, ch⟩ := A
 have hnp : np <= 600 := hf.p
 have hnl : nl <= 600 := hf.l
 have hnh : nh <= 600 := hf.h
 have HF := Zh hf
 have HB0 := Zh (Below.refl w.heap.size w)
 have HI := Zh h
 clear h hf
 unfold Y.val
 obtain ⟨w1, hw1, hb, hk⟩ := Zn w 32 #[.int .i64 s.d.b, .int .i64 s.d.k, .int .i64 s.d.c, .int .i64 s.d.j, .int .i64 s.d.lo, .int .i64 s.d.hi, .int .i64 s.d.dy, .int .i64 s.d.bl, .int .i64 s.p.q, .int .i64 s.p.i, .int .i64 s.p.h, .bool s.p.pair, .int .i64 s.now, .slice ap np cp, .slice al nl cl, .slice ah nh ch]
 replace HB0 := Zt HB0 hb
 have KS1 := Zh hk
 clear hb hk
 obtain ⟨w2, hw2, hb, hk⟩ := Zn w1 32 #[.int .i64 0, .int .i64 0, .int .i64 0, .int .i64 0, .int .i64 0, .int .i64 0, .int .i64 0, .int .i64 0, .int .i64 0, .int .i64 0, .int .i64 0, .bool false, .int .i64 0, .slice none 0 0, .slice none 0 0, .slice none 0 0]
 replace KS1 := Zk KS1 hb
 replace HB0 := Zt HB0 hb
 have KT2 := Zh hk
 clear hb hk
 have hw12 : w1.heap.size = w.heap.size + 1 := by rw [<- hw1]; simp
 have hw22 : w2.heap.size = w.heap.size + 2 := by rw [<- hw2]; simp; omega
 rw [hw12] at KT2
 obtain ⟨vm, hvm⟩ : ∃ b, decide (Y.May s) = b := ⟨_, rfl⟩
 have cm := fun W (h : Y.SIn W ⟨ap, np, cp, al, nl, cl, ah, nh, ch⟩ s) => zbj s ⟨ap, np, cp, al, nl, cl, ah, nh, ch⟩ vm hvm W h HF.out
 have co := fun W (h : Y.SIn W ⟨ap, np, cp, al, nl, cl, ah, nh, ch⟩ s) => zoa s ap np cp al nl cl ah nh ch W h ⟨by show np <= 1000; omega, by show nl <= 1000; omega, by show nh <= 1000; omega⟩
 unfold Y.val at cm
 have HVM := Zh hvm
 clear hvm
 have HS := Zh hs
 clear hs
 obtain ⟨c0, c1, c2, c3, c4, c5, c6, c7, c8, c9, c10, c11, c12, c13, c14, c15⟩ := Y.cs16 KS1.out
 go_enter Tryz.func12, Tryz.ntmps12
 go_wp2_with fail
 try rw [hw1]
 try rw [hw2]
 clear hw1 hw2 hw12
 refine (co _ (HI.out.below HB0.out)).mono ?_
 clear c0 c1 c2 c3 c4 c5 c6 c7 c8 c9 c10 c11 c12 c13 c14 c15
 rintro e w3 ⟨b1, m1, e1, b2, m2, e2, b3, m3, e3, rfl, hO, hb⟩
 have h23 := hb.size
 have HN3 := Zh hO.out.nl
 have HNp := Zh hO.out.np
 have HNh := Zh hO.out.nh
 replace KS1 := Zk KS1 hb
 replace KT2 := Zk KT2 hb
 replace HB0 := Zt HB0 hb
 clear hb
 have HO3 := hO
 obtain ⟨c0, c1, c2, c3, c4, c5, c6, c7, c8, c9, c10, c11, c12, c13, c14, c15⟩ := Y.cs16 KS1.out
 clear co hO
 clear c0 c1 c2 c3 c4 c5 c6 c7 c8 c9 c10 c11 c12 c13 c14 c15
 obtain ⟨w4, hw4, hb, hk⟩ := Zn w3 32 #[.int .i64 s.d.b, .int .i64 s.d.k, .int .i64 s.d.c, .int .i64 s.d.j, .int .i64 s.d.lo, .int .i64 s.d.hi, .int .i64 s.d.dy, .int .i64 s.d.bl, .int .i64 s.p.q, .int .i64 s.p.i, .int .i64 s.p.h, .bool s.p.pair, .int .i64 s.now, .slice b1 m1 e1, .slice b2 m2 e2, .slice b3 m3 e3]
 replace KS1 := Zk KS1 hb
 replace KT2 := Zk KT2 hb
 replace HO3 := Zh (HO3.out.below hb)
 replace HB0 := Zt HB0 hb
 have KU4 := Zh hk
 clear hb hk
 obtain ⟨wz4, hz4⟩ : ∃ W, w3.alloc (.cells #[.int .i64 0, .int .i64 0, .int .i64 0, .int .i64 0, .int .i64 0, .int .i64 0, .int .i64 0, .int .i64 0, .int .i64 0, .int .i64 0, .int .i64 0, .bool false, .int .i64 0, .slice none 0 0, .slice none 0 0, .slice none 0 0] 32) = W := ⟨_, rfl⟩
 have HZK4 : Hid (Blok wz4 w3.heap.size 32 #[.int .i64 0, .int .i64 0, .int .i64 0, .int .i64 0, .int .i64 0, .int .i64 0, .int .i64 0, .int .i64 0, .int .i64 0, .int .i64 0, .int .i64 0, .bool false, .int .i64 0, .slice none 0 0, .slice none 0 0, .slice none 0 0]) := Zh (by rw [<- hz4]; exact Blok.new w3 _ _)
 have HPZ4 : Hid (wz4.setRow w3.heap.size #[.int .i64 s.d.b, .int .i64 s.d.k, .int .i64 s.d.c, .int .i64 s.d.j, .int .i64 s.d.lo, .int .i64 s.d.hi, .int .i64 s.d.dy, .int .i64 s.d.bl, .int .i64 s.p.q, .int .i64 s.p.i, .int .i64 s.p.h, .bool s.p.pair, .int .i64 s.now, .slice b1 m1 e1, .slice b2 m2 e2, .slice b3 m3 e3] = w4) := Zh (by rw [<- hz4, World.setRow_alloc_new, hw4])
 clear hw4
 obtain ⟨c0, c1, c2, c3, c4, c5, c6, c7, c8, c9, c10, c11, c12, c13, c14, c15⟩ := Y.cs16 KS1.out
 go_wp2_with (refine Zw HZK4.out HPZ4.out ?_)
 refine (cm _ (HI.out.below HB0.out)).mono ?_
 clear c0 c1 c2 c3 c4 c5 c6 c7 c8 c9 c10 c11 c12 c13 c14 c15
 rintro e w5 ⟨rfl, hb⟩
 replace KS1 := Zk KS1 hb
 replace KT2 := Zk KT2 hb
 replace HO3 := Zh (HO3.out.below hb)
 replace KU4 := Zk KU4 hb
 replace HB0 := Zt HB0 hb
 clear hb
 obtain ⟨c0, c1, c2, c3, c4, c5, c6, c7, c8, c9, c10, c11, c12, c13, c14, c15⟩ := Y.cs16 KS1.out
 clear cm
 cases vm with
 | false =>
  have hno : ¬ J.can s n := fun e => of_decide_eq_false HVM.out e.1
  have e1 := J.settle_no hno
  rw [HS.out] at e1
  have e2 : s = t := (congrArg Prod.fst e1).symm
  have e3 : false = v := (congrArg Prod.snd e1).symm
  clear e1 HS hno
  subst e2 e3
  have HX := Zh KU4.out
  obtain ⟨w6, hp6⟩ : ∃ W, w5.setRow (w.heap.size + 1) #[.int .i64 s.d.b, .int .i64 s.d.k, .int .i64 s.d.c, .int .i64 s.d.j, .int .i64 s.d.lo, .int .i64 s.d.hi, .int .i64 s.d.dy, .int .i64 s.d.bl, .int .i64 s.p.q, .int .i64 s.p.i, .int .i64 s.p.h, .bool s.p.pair, .int .i64 s.now, .slice b1 m1 e1, .slice b2 m2 e2, .slice b3 m3 e3] = W := ⟨_, rfl⟩
  have hg6 : w5.grownBy w6 (some (w.heap.size + 1)) := by rw [<- hp6]; exact zbr _ _ _
  have HP6 := Zh hp6
  have KT6 : Hid (Blok w6 (w.heap.size + 1) 32 #[.int .i64 s.d.b, .int .i64 s.d.k, .int .i64 s.d.c, .int .i64 s.d.j, .int .i64 s.d.lo, .int .i64 s.d.hi, .int .i64 s.d.dy, .int .i64 s.d.bl, .int .i64 s.p.q, .int .i64 s.p.i, .int .i64 s.p.h, .bool s.p.pair, .int .i64 s.now, .slice b1 m1 e1, .slice b2 m2 e2, .slice b3 m3 e3]) := Zh (by rw [<- hp6]; exact KT2.out.put _)
  have HO6 := Zh (HO3.out.far hg6 (by omega))
  have HB6 := Zh (HB0.out.grown hg6 HB0.out.size (fun q hq => by cases hq; omega))
  clear hp6 hg6
  go_wp2_with (first | (refine Zw KT2.out HP6.out ?_) | (refine zak HX.out rfl rfl (by kernel_rfl) Tryz.underlying32 rfl (by kernel_rfl) ?_))
  refine bodyPost_ret (zly (v := .bool false) rfl (w.heap.size + 1) rfl (by kernel_rfl) (by kernel_rfl) KT6.out) rfl ?_
  exact ⟨⟨b1, m1, e1, b2, m2, e2, b3, m3, e3⟩, rfl, Zh ((J.Got.of HO6.out).down (by omega)), HB6.out⟩
 | true =>
  by_cases h1 : n < s.now
  ·have d1 : decide (n < s.now) = true := decide_eq_true h1
   have hno : ¬ J.can s n := fun e => by have := e.2.1; omega
   clear h1
   have e1 := J.settle_no hno
   rw [HS.out] at e1
   have e2 : s = t := (congrArg Prod.fst e1).symm
   have e3 : false = v := (congrArg Prod.snd e1).symm
   clear e1 HS hno
   subst e2 e3
   have HX := Zh KU4.out
   obtain ⟨w6, hp6⟩ : ∃ W, w5.setRow (w.heap.size + 1) #[.int .i64 s.d.b, .int .i64 s.d.k, .int .i64 s.d.c, .int .i64 s.d.j, .int .i64 s.d.lo, .int .i64 s.d.hi, .int .i64 s.d.dy, .int .i64 s.d.bl, .int .i64 s.p.q, .int .i64 s.p.i, .int .i64 s.p.h, .bool s.p.pair, .int .i64 s.now, .slice b1 m1 e1, .slice b2 m2 e2, .slice b3 m3 e3] = W := ⟨_, rfl⟩
   have hg6 : w5.grownBy w6 (some (w.heap.size + 1)) := by rw [<- hp6]; exact zbr _ _ _
   have HP6 := Zh hp6
   have KT6 : Hid (Blok w6 (w.heap.size + 1) 32 #[.int .i64 s.d.b, .int .i64 s.d.k, .int .i64 s.d.c, .int .i64 s.d.j, .int .i64 s.d.lo, .int .i64 s.d.hi, .int .i64 s.d.dy, .int .i64 s.d.bl, .int .i64 s.p.q, .int .i64 s.p.i, .int .i64 s.p.h, .bool s.p.pair, .int .i64 s.now, .slice b1 m1 e1, .slice b2 m2 e2, .slice b3 m3 e3]) := Zh (by rw [<- hp6]; exact KT2.out.put _)
   have HO6 := Zh (HO3.out.far hg6 (by omega))
   have HB6 := Zh (HB0.out.grown hg6 HB0.out.size (fun q hq => by cases hq; omega))
   clear hp6 hg6
   go_wp2_with (first | (refine Zw KT2.out HP6.out ?_) | (refine zak HX.out rfl rfl (by kernel_rfl) Tryz.underlying32 rfl (by kernel_rfl) ?_))
   refine bodyPost_ret (zly (v := .bool false) rfl (w.heap.size + 1) rfl (by kernel_rfl) (by kernel_rfl) KT6.out) rfl ?_
   exact ⟨⟨b1, m1, e1, b2, m2, e2, b3, m3, e3⟩, rfl, Zh ((J.Got.of HO6.out).down (by omega)), HB6.out⟩
  have d1 : decide (n < s.now) = false := decide_eq_false h1
  by_cases h2 : 1073741824 < n
  ·have d2 : decide (1073741824 < n) = true := decide_eq_true h2
   have hno : ¬ J.can s n := fun e => by have := e.2.2; omega
   clear h1 h2
   have e1 := J.settle_no hno
   rw [HS.out] at e1
   have e2 : s = t := (congrArg Prod.fst e1).symm
   have e3 : false = v := (congrArg Prod.snd e1).symm
   clear e1 HS hno
   subst e2 e3
   have HX := Zh KU4.out
   obtain ⟨w6, hp6⟩ : ∃ W, w5.setRow (w.heap.size + 1) #[.int .i64 s.d.b, .int .i64 s.d.k, .int .i64 s.d.c, .int .i64 s.d.j, .int .i64 s.d.lo, .int .i64 s.d.hi, .int .i64 s.d.dy, .int .i64 s.d.bl, .int .i64 s.p.q, .int .i64 s.p.i, .int .i64 s.p.h, .bool s.p.pair, .int .i64 s.now, .slice b1 m1 e1, .slice b2 m2 e2, .slice b3 m3 e3] = W := ⟨_, rfl⟩
   have hg6 : w5.grownBy w6 (some (w.heap.size + 1)) := by rw [<- hp6]; exact zbr _ _ _
   have HP6 := Zh hp6
   have KT6 : Hid (Blok w6 (w.heap.size + 1) 32 #[.int .i64 s.d.b, .int .i64 s.d.k, .int .i64 s.d.c, .int .i64 s.d.j, .int .i64 s.d.lo, .int .i64 s.d.hi, .int .i64 s.d.dy, .int .i64 s.d.bl, .int .i64 s.p.q, .int .i64 s.p.i, .int .i64 s.p.h, .bool s.p.pair, .int .i64 s.now, .slice b1 m1 e1, .slice b2 m2 e2, .slice b3 m3 e3]) := Zh (by rw [<- hp6]; exact KT2.out.put _)
   have HO6 := Zh (HO3.out.far hg6 (by omega))
   have HB6 := Zh (HB0.out.grown hg6 HB0.out.size (fun q hq => by cases hq; omega))
   clear hp6 hg6
   go_wp2_with (first | (refine Zw KT2.out HP6.out ?_) | (refine zak HX.out rfl rfl (by kernel_rfl) Tryz.underlying32 rfl (by kernel_rfl) ?_))
   refine bodyPost_ret (zly (v := .bool false) rfl (w.heap.size + 1) rfl (by kernel_rfl) (by kernel_rfl) KT6.out) rfl ?_
   exact ⟨⟨b1, m1, e1, b2, m2, e2, b3, m3, e3⟩, rfl, Zh ((J.Got.of HO6.out).down (by omega)), HB6.out⟩
  have d2 : decide (1073741824 < n) = false := decide_eq_false h2
  have hy : J.can s n := ⟨of_decide_eq_true HVM.out, by omega, by omega⟩
  have e1 := J.settle_yes hy
  rw [HS.out] at e1
  have e2 : J.settled s n = t := (congrArg Prod.fst e1).symm
  have e3 : true = v := (congrArg Prod.snd e1).symm
  clear e1 HS h1 h2
  subst e2 e3
  obtain ⟨w6, hw6⟩ : ∃ W, w5.setCell ⟨w3.heap.size, 12, none⟩ (.int .i64 n) = W := ⟨_, rfl⟩
  have hg6 : w5.grownBy w6 (some w3.heap.size) := by rw [<- hw6]; exact grown_set _ _ _ _
  have f12 := KU4.out.frozen 12
  obtain ⟨u0, u1, u2, u3, u4, u5, u6, u7, u8, u9, u10, u11, u12, u13, u14, u15⟩ := Y.cs16 KU4.out
  have KU6 : Hid (Blok w6 w3.heap.size 32 #[.int .i64 s.d.b, .int .i64 s.d.k, .int .i64 s.d.c, .int .i64 s.d.j, .int .i64 s.d.lo, .int .i64 s.d.hi, .int .i64 s.d.dy, .int .i64 s.d.bl, .int .i64 s.p.q, .int .i64 s.p.i, .int .i64 s.p.h, .bool s.p.pair, .int .i64 n, .slice b1 m1 e1, .slice b2 m2 e2, .slice b3 m3 e3]) := Zh (by rw [<- hw6]; have := KU4.out.set 12 (.int .i64 n); simpa using this)
  have KS6 := Zh (KS1.out.grown hg6 (by simp; omega))
  have KT6 := Zh (KT2.out.grown hg6 (by simp; omega))
  have HO6 := Zh (HO3.out.far' hg6 KU4.out (by decide) (by decide) (by decide))
  have HB6 := Zh (HB0.out.grown hg6 HB0.out.size (fun q hq => by cases hq; omega))
  have v14 : (w5.setCell ⟨w3.heap.size, 12, none⟩ (.int .i64 n)).cell? ⟨w3.heap.size, 14, none⟩ = some (.slice b2 m2 e2) := by rw [hw6]; exact KU6.out.cell 14
  clear hg6
  have HW6 := Zh hw6
  clear hw6
  go_wp2_with fail
  rw [HW6.out]
  clear v14 f12 u0 u1 u2 u3 u4 u5 u6 u7 u8 u9 u10 u11 u12 u13 u14 u15 c0 c1 c2 c3 c4 c5 c6 c7 c8 c9 c10 c11 c12 c13 c14 c15
  go_loopw [29] (fun i wr => ∃ k : Nat, i = .int .i64 k /\ k <= m2 /\ Hid (Y.OwnR wr w2.heap.size { s with now := n, l := J.marks n s.l k } ⟨b1, m1, e1, b2, m2, e2, b3, m3, e3⟩) /\ Hid (Blok wr w3.heap.size 32 #[.int .i64 s.d.b, .int .i64 s.d.k, .int .i64 s.d.c, .int .i64 s.d.j, .int .i64 s.d.lo, .int .i64 s.d.hi, .int .i64 s.d.dy, .int .i64 s.d.bl, .int .i64 s.p.q, .int .i64 s.p.i, .int .i64 s.p.h, .bool s.p.pair, .int .i64 n, .slice b1 m1 e1, .slice b2 m2 e2, .slice b3 m3 e3]) /\ Hid (Blok wr w.heap.size 32 #[.int .i64 s.d.b, .int .i64 s.d.k, .int .i64 s.d.c, .int .i64 s.d.j, .int .i64 s.d.lo, .int .i64 s.d.hi, .int .i64 s.d.dy, .int .i64 s.d.bl, .int .i64 s.p.q, .int .i64 s.p.i, .int .i64 s.p.h, .bool s.p.pair, .int .i64 s.now, .slice ap np cp, .slice al nl cl, .slice ah nh ch]) /\ Hid (Blok wr (w.heap.size + 1) 32 #[.int .i64 0, .int .i64 0, .int .i64 0, .int .i64 0, .int .i64 0, .int .i64 0, .int .i64 0, .int .i64 0, .int .i64 0, .int .i64 0, .int .i64 0, .bool false, .int .i64 0, .slice none 0 0, .slice none 0 0, .slice none 0 0]) /\ Hid (Below w.heap.size w wr)) (fun i _ => m2 - (intOf i).toNat)
  case atStart =>
   have o := HO6.out
   exact ⟨0, rfl, by omega, Zh ⟨o.rp, by rw [J.marks_zero]; exact o.rl, o.rh, o.np, by rw [J.marks_zero]; exact o.nl, o.nh⟩, KU6, KS6, KT6, HB6⟩
  case round =>
   obtain ⟨k, rfl, hkm, HOr, KUr, KSr, KTr, HBr⟩ := hrel
   have hm2 : m2 <= 600 := by have h5 : s.l.length = nl := HI.out.l.1; have h6 : s.l.length = m2 := HN3.out; omega
   have v14 := KUr.out.cell 14
   have v14' : wr.cell? ⟨w3.heap.size, 14, none⟩ = some (.slice b2 m2 e2) := v14
   clear v14
   by_cases hlt : k < m2
   ·have d3 : decide ((k : Int) < m2) = true := by simp; omega
    obtain ⟨z, hz⟩ : ∃ z, s.l[k]? = some z := ⟨_, List.getElem?_eq_getElem (by rw [HN3.out]; exact hlt)⟩
    obtain ⟨g0, rfl⟩ : ∃ g0, b2 = some ⟨g0, 0, none⟩ := by
     obtain ⟨q, cp, e⟩ := J.row_some HOr.out.rl (by show 0 < m2; omega)
     simp only [Value.slice.injEq] at e; exact ⟨q, e.1⟩
    have hr := HOr.out.rl
    have cst : wr.cell? ⟨g0, k * 5 + 4, none⟩ = some (.int .i64 z.t) := by
     rw [hr.cellAt _ (by show k * 5 + 4 < m2 * 5; omega)]
     exact (L.flat_at (J.marks n s.l k) k z (J.marks_at hz) 4 (by decide)).trans rfl
    have fst := hr.frozenAt (k * 5 + 4)
    have hgU : g0 ≠ w3.heap.size := za4 hr KUr.out (by decide) rfl
    have hgS : g0 ≠ w.heap.size := za4 hr KSr.out (by decide) rfl
    have hgT : g0 ≠ w.heap.size + 1 := za4 hr KTr.out (by decide) rfl
    obtain ⟨hst, gst⟩ := hr.stored (k * 5 + 4) (.int .i64 n)
    rw [Y.flat_set4 n (J.marks n s.l k) k z (J.marks_at hz), J.marks_set hz] at hst
    have o := HOr.out
    have HO7 : Hid (Y.OwnR (wr.setCell ⟨g0, k * 5 + 4, none⟩ (.int .i64 n)) w2.heap.size { s with now := n, l := J.marks n s.l (k + 1) } ⟨b1, m1, e1, some ⟨g0, 0, none⟩, m2, e2, b3, m3, e3⟩) := Zh ⟨o.rp.kept gst (J.row_apart o.rp hr (by decide)), hst, o.rh.kept gst (J.row_apart o.rh hr (by decide)), o.np, by rw [J.marks_len]; exact HN3.out, o.nh⟩
    have KU7 := Zh (KUr.out.grown gst (by simpa using hgU.symm))
    have KS7 := Zh (KSr.out.grown gst (by simpa using hgS.symm))
    have KT7 := Zh (KTr.out.grown gst (by simpa using hgT.symm))
    have HB7 := Zh (HBr.out.grown gst HBr.out.size (fun q hq => by cases hq; have := (hr.lt g0 rfl).1; omega))
    have i0 : (0 : Int) <= k := by omega
    have i1 : (k : Int) < m2 := by omega
    clear hst gst o hr hz hgU hgS hgT
    go_wp2
    go_roundw
    case rel => exact ⟨k + 1, by simp, by omega, HO7, KU7, KS7, KT7, HB7⟩
    case measure => simp [intOf]; omega
   ·have d3 : decide ((k : Int) < m2) = false := by simp; omega
    obtain rfl : m2 = k := by omega
    have c15 := Zv KSr.out 15 (.slice ah nh ch)
    go_wp2_with fail
    have HCL := HI.out.below HBr.out
    refine (zig ah nh ch s.h (L.clean s.h n) n rfl wr HCL.h (by omega)).mono ?_
    clear c15 v14' HCL d3
    rintro e w8 ⟨v, rfl, hv, hb⟩
    have KU8 := Zk KUr hb
    have KT8 := Zk KTr hb
    have HO8 := Zh (HOr.out.below hb)
    have HB8 := Zt HBr hb
    have hsz8 := KUr.out.lt
    have hsz9 := hb.size
    obtain ⟨a5, c5, rfl, hr5⟩ := zdl hv.out rfl
    clear hb KUr KSr KTr HOr HBr
    obtain ⟨w9, hw9⟩ : ∃ W, w8.setCell ⟨w3.heap.size, 15, none⟩ (.slice a5 (L.clean s.h n).length c5) = W := ⟨_, rfl⟩
    have hg9 : w8.grownBy w9 (some w3.heap.size) := by rw [<- hw9]; exact grown_set _ _ _ _
    have f15 := KU8.out.frozen 15
    have u15 := Zv KU8.out 15 (.slice b3 m3 e3)
    have KU9 : Hid (Blok w9 w3.heap.size 32 #[.int .i64 s.d.b, .int .i64 s.d.k, .int .i64 s.d.c, .int .i64 s.d.j, .int .i64 s.d.lo, .int .i64 s.d.hi, .int .i64 s.d.dy, .int .i64 s.d.bl, .int .i64 s.p.q, .int .i64 s.p.i, .int .i64 s.p.h, .bool s.p.pair, .int .i64 n, .slice b1 m1 e1, .slice b2 m2 e2, .slice a5 (L.clean s.h n).length c5]) := Zh (by rw [<- hw9]; have := KU8.out.set 15 (.slice a5 (L.clean s.h n).length c5); simpa using this)
    have KT9 := Zh (KT8.out.grown hg9 (by simp; omega))
    have HO9 := Zh (HO8.out.far' hg9 KU8.out (by decide) (by decide) (by decide))
    have HB9 := Zh (HB8.out.grown hg9 HB8.out.size (fun q hq => by cases hq; omega))
    have hv9 := hv.out.kept hg9 (.inr (fun e => za4 hv.out KU8.out (by decide) e rfl))
    have HH9 : Hid (RIn w9 a5 (L.clean s.h n).length c5 (L.clean s.h n)) := Zh (hr5.grown hg9 (fun x hx e => za4 hv.out KU8.out (by decide) (by rw [hx]; rfl) (Option.some.inj e)))
    have HH9b : Hid (∀ q, a5 = some q -> q.block ≠ w.heap.size + 1) := Zh (fun q hq => by have := (hv.out.lt q.block (by rw [hq]; rfl)).1; omega)
    have HUh : Hid (∀ q, a5 = some q -> w.heap.size <= q.block) := Zh (fun q hq => by have := (hv.out.lt q.block (by rw [hq]; rfl)).1; omega)
    clear hg9 hv hr5 hv9
    have HW9 := Zh hw9
    clear hw9
    obtain ⟨w10, hp10⟩ : ∃ W, w9.setRow (w.heap.size + 1) #[.int .i64 s.d.b, .int .i64 s.d.k, .int .i64 s.d.c, .int .i64 s.d.j, .int .i64 s.d.lo, .int .i64 s.d.hi, .int .i64 s.d.dy, .int .i64 s.d.bl, .int .i64 s.p.q, .int .i64 s.p.i, .int .i64 s.p.h, .bool s.p.pair, .int .i64 n, .slice b1 m1 e1, .slice b2 m2 e2, .slice a5 (L.clean s.h n).length c5] = W := ⟨_, rfl⟩
    have hg10 : w9.grownBy w10 (some (w.heap.size + 1)) := by rw [<- hp10]; exact zbr _ _ _
    have HP10 := Zh hp10
    have KT10 : Hid (Blok w10 (w.heap.size + 1) 32 #[.int .i64 s.d.b, .int .i64 s.d.k, .int .i64 s.d.c, .int .i64 s.d.j, .int .i64 s.d.lo, .int .i64 s.d.hi, .int .i64 s.d.dy, .int .i64 s.d.bl, .int .i64 s.p.q, .int .i64 s.p.i, .int .i64 s.p.h, .bool s.p.pair, .int .i64 n, .slice b1 m1 e1, .slice b2 m2 e2, .slice a5 (L.clean s.h n).length c5]) := Zh (by rw [<- hp10]; exact KT9.out.put _)
    have HO10 := Zh (HO9.out.far hg10 (by omega))
    have HH10 : Hid (RIn w10 a5 (L.clean s.h n).length c5 (L.clean s.h n)) := Zh (HH9.out.grown hg10 (fun x hx e => HH9b.out x hx (Option.some.inj e)))
    have HB10 := Zh (HB9.out.grown hg10 HB9.out.size (fun q hq => by cases hq; omega))
    clear hp10 hg10
    have KUs : Hid (Blok (w8.setCell ⟨w3.heap.size, 15, none⟩ (.slice a5 (L.clean s.h n).length c5)) w3.heap.size 32 #[.int .i64 s.d.b, .int .i64 s.d.k, .int .i64 s.d.c, .int .i64 s.d.j, .int .i64 s.d.lo, .int .i64 s.d.hi, .int .i64 s.d.dy, .int .i64 s.d.bl, .int .i64 s.p.q, .int .i64 s.p.i, .int .i64 s.p.h, .bool s.p.pair, .int .i64 n, .slice b1 m1 e1, .slice b2 m2 e2, .slice a5 (L.clean s.h n).length c5]) := Zh (by rw [HW9.out]; exact KU9.out)
    have KTs : Hid (Blok (w8.setCell ⟨w3.heap.size, 15, none⟩ (.slice a5 (L.clean s.h n).length c5)) (w.heap.size + 1) 32 #[.int .i64 0, .int .i64 0, .int .i64 0, .int .i64 0, .int .i64 0, .int .i64 0, .int .i64 0, .int .i64 0, .int .i64 0, .int .i64 0, .int .i64 0, .bool false, .int .i64 0, .slice none 0 0, .slice none 0 0, .slice none 0 0]) := Zh (by rw [HW9.out]; exact KT9.out)
    have HPs : Hid ((w8.setCell ⟨w3.heap.size, 15, none⟩ (.slice a5 (L.clean s.h n).length c5)).setRow (w.heap.size + 1) #[.int .i64 s.d.b, .int .i64 s.d.k, .int .i64 s.d.c, .int .i64 s.d.j, .int .i64 s.d.lo, .int .i64 s.d.hi, .int .i64 s.d.dy, .int .i64 s.d.bl, .int .i64 s.p.q, .int .i64 s.p.i, .int .i64 s.p.h, .bool s.p.pair, .int .i64 n, .slice b1 m1 e1, .slice b2 m2 e2, .slice a5 (L.clean s.h n).length c5] = w10) := Zh (by rw [HW9.out]; exact HP10.out)
    go_wp2_with (first | (refine Zw KTs.out HPs.out ?_) | (refine zak KUs.out rfl rfl (by kernel_rfl) Tryz.underlying32 rfl (by kernel_rfl) ?_))
    refine bodyPost_ret (zly (v := .bool true) rfl (w.heap.size + 1) rfl (by kernel_rfl) (by kernel_rfl) KT10.out) rfl ?_
    have hi := HO10.out.i
    rw [J.marks_all (by rw [HN3.out]; exact Nat.le_refl _)] at hi
    have hu := HO10.out.up
    exact ⟨⟨b1, m1, e1, b2, m2, e2, a5, (L.clean s.h n).length, c5⟩, rfl, Zh ⟨⟨hi.p, hi.l, HH10.out⟩, fun q hq => by have := hu.1 q hq; omega, fun q hq => by have := hu.2.1 q hq; omega, HUh.out⟩, HB10.out⟩
end Go.Proofs.YtijkbflimbffmaaGreat
