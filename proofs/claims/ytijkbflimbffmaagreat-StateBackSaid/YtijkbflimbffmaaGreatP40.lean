import Derived.Test.YtijkbflimbffmaaGreatP35
import Derived.Test.YtijkbflimbffmaaGreatP37
import Derived.Test.YtijkbflimbffmaaGreatP33
namespace Go.Proofs.YtijkbflimbffmaaGreat
set_option maxHeartbeats 1000000
set_option maxRecDepth 100000
open Go.RowKit
theorem zre (s : Y.St) (A : Y.A9) (e : Y.Ev) (t : Y.St) (f : Int) (hs : J.apply s e = (t, f)) (w : World) (h : Y.SIn w A s) (hf : Y.Fits A s) (hok : Y.May s /\ N.May e /\ ¬ e.t < s.now) (u : Y.St) (hmo : J.made (J.settled s e.t) e = some u) (hvu : decide (Y.May u) = true) :
  Calls Tryz.prog 14 #[Y.val s A, Y.eval e] w fun r w' => ∃ A', r = .returned (.tuple #[Y.val t A', .int .i64 f]) /\ Hid (J.Got w' w.heap.size t A') /\ Below w.heap.size w w' := by
 obtain ⟨ap, np, cp, al, nl, cl, ah, nh, ch⟩ := A
 have hnp : np <= 600 := hf.p
 have hnl : nl <= 600 := hf.l
 have hnh : nh <= 600 := hf.h
 have HF := Zh hf
 have HB0 := Zh (Below.refl w.heap.size w)
 have HI := Zh h
 clear h hf
 unfold Y.val Y.eval
 obtain ⟨w1, hw1, hb, hk⟩ := Zn w 32 #[.int .i64 s.d.b, .int .i64 s.d.k, .int .i64 s.d.c, .int .i64 s.d.j, .int .i64 s.d.lo, .int .i64 s.d.hi, .int .i64 s.d.dy, .int .i64 s.d.bl, .int .i64 s.p.q, .int .i64 s.p.i, .int .i64 s.p.h, .bool s.p.pair, .int .i64 s.now, .slice ap np cp, .slice al nl cl, .slice ah nh ch]
 have HB1 := Zt HB0 hb
 have KS1 := Zh hk
 clear hb hk HB0
 obtain ⟨w2, hw2, hb, hk⟩ := Zn w1 34 #[.int .i64 e.k, .int .i64 e.t, .int .i64 e.a, .int .i64 e.b, .int .i64 e.c, .int .i64 e.p.q, .int .i64 e.p.i, .int .i64 e.p.h, .bool e.p.pair]
 have KS2 := Zk KS1 hb
 have HB2 := Zt HB1 hb
 have KE2 := Zh hk
 clear hb hk KS1 HB1
 obtain ⟨w3, hw3, hb, hk⟩ := Zn w2 32 #[.int .i64 0, .int .i64 0, .int .i64 0, .int .i64 0, .int .i64 0, .int .i64 0, .int .i64 0, .int .i64 0, .int .i64 0, .int .i64 0, .int .i64 0, .bool false, .int .i64 0, .slice none 0 0, .slice none 0 0, .slice none 0 0]
 have KS3 := Zk KS2 hb
 replace KE2 := Zk KE2 hb
 have HB3 := Zt HB2 hb
 have KT3 := Zh hk
 clear hb hk KS2 HB2
 have hw12 : w1.heap.size = w.heap.size + 1 := by rw [<- hw1]; simp
 have hw22 : w2.heap.size = w.heap.size + 2 := by rw [<- hw2]; simp; omega
 have hw33 : w3.heap.size = w.heap.size + 3 := by rw [<- hw3]; simp; omega
 rw [hw12] at KE2
 rw [hw22] at KT3
 obtain ⟨vm, hvm⟩ : ∃ b, decide (Y.May s) = b := ⟨_, rfl⟩
 have cm := fun W (h : Y.SIn W ⟨ap, np, cp, al, nl, cl, ah, nh, ch⟩ s) => zbj s ⟨ap, np, cp, al, nl, cl, ah, nh, ch⟩ vm hvm W h HF.out
 have co := fun W (h : Y.SIn W ⟨ap, np, cp, al, nl, cl, ah, nh, ch⟩ s) => zoa s ap np cp al nl cl ah nh ch W h ⟨by show np <= 1000; omega, by show nl <= 1000; omega, by show nh <= 1000; omega⟩
 unfold Y.val at cm
 have HVM := Zh hvm
 clear hvm
 have HS := Zh hs
 clear hs
 obtain ⟨em, hem⟩ : ∃ b, decide (N.May e) = b := ⟨_, rfl⟩
 have c0 := Y.cs16 KS3.out
 obtain ⟨r0, r1, r2, r3, r4, r5, r6, r7, r8⟩ := J.ce9 KE2.out
 go_enter Tryz.func14, Tryz.ntmps14
 go_wp2_with fail
 try rw [hw1]
 try rw [hw2]
 try rw [hw3]
 clear hw1 hw2 hw3 hw12
 refine (cm _ (HI.out.below HB3.out)).mono ?_
 clear c0
 clear r0 r1 r2 r3 r4 r5 r6 r7 r8
 rintro e w4 ⟨rfl, hb⟩
 have KS4 := Zk KS3 hb
 replace KE2 := Zk KE2 hb
 have KT4 := Zk KT3 hb
 have HB4 := Zt HB3 hb
 clear hb KS3 KT3 HB3
 have c0 := Y.cs16 KS4.out
 obtain ⟨r0, r1, r2, r3, r4, r5, r6, r7, r8⟩ := J.ce9 KE2.out
 clear cm
 obtain rfl : true = vm := by rw [<- HVM.out]; exact (decide_eq_true hok.1).symm
 obtain rfl : true = em := by rw [<- hem]; exact (decide_eq_true hok.2.1).symm
 have ce := fun W => zob e true hem W
 go_wp2_with fail
 refine (ce _).mono ?_
 clear c0
 clear r0 r1 r2 r3 r4 r5 r6 r7 r8
 rintro e w5 ⟨rfl, hb⟩
 have KS5 := Zk KS4 hb
 replace KE2 := Zk KE2 hb
 have KT5 := Zk KT4 hb
 have HB5 := Zt HB4 hb
 clear hb KS4 KT4 HB4
 have c0 := Y.cs16 KS5.out
 obtain ⟨r0, r1, r2, r3, r4, r5, r6, r7, r8⟩ := J.ce9 KE2.out
 clear ce
 have h1 := hok.2.2
 clear hok
 have h1 : ¬ e.t < s.now := by omega
 have d1 : decide (e.t < s.now) = false := decide_eq_false h1
 have HM := Zh (of_decide_eq_true HVM.out)
 have HE := Zh (of_decide_eq_true hem)
 have e1 := J.apply_made HM.out HE.out h1
 rw [HS.out] at e1
 have HAP := Zh e1
 have hcan : J.can s e.t := ⟨HM.out, by omega, HE.out.1.2⟩
 have HC := Zh hcan
 clear e1 HS hem h1 hcan
 obtain ⟨q, hq⟩ : ∃ q, J.settled s e.t = q := ⟨_, rfl⟩
 have HQ := Zh hq
 have cs' := fun W (h : Y.SIn W ⟨ap, np, cp, al, nl, cl, ah, nh, ch⟩ s) => zm8 s ⟨ap, np, cp, al, nl, cl, ah, nh, ch⟩ e.t q true (by rw [J.settle_yes HC.out, hq]) W h HF.out
 unfold Y.val at cs'
 clear hq
 have hst := KT5.out.lt
 go_wp2_with fail
 refine (cs' _ (HI.out.below HB5.out)).mono ?_
 clear c0
 clear r0 r1 r2 r3 r4 r5 r6 r7 r8
 rintro e w6 ⟨xap, xnp, xcp, xal, xnl, xcl, xah, xnh, xch, rfl, hG, hb⟩
 have hsx := hb.size
 have hsy := HB5.out.size
 have KS6 := Zk KS5 hb
 replace KE2 := Zk KE2 hb
 have KT6 := Zk KT5 hb
 have HB6 := Zt HB5 hb
 clear hb KS5 KT5 HB5
 have HG6 := hG
 have c0 := Y.cs16 KS6.out
 obtain ⟨r0, r1, r2, r3, r4, r5, r6, r7, r8⟩ := J.ce9 KE2.out
 clear cs' hG d1
 rw [HQ.out] at HAP
 have hmq : Y.May q := by rw [<- HQ.out]; exact J.settled_may HC.out.1 HC.out.2.1 HC.out.2.2
 have HMQ := Zh hmq
 clear hmq
 have hGi := HG6.out.i
 have hGu := HG6.out.u.mono (show w.heap.size + 3 <= w5.heap.size by omega)
 have HU := Zh hGu
 have hn1 := hGi.p.1
 have hn2 := hGi.l.1
 have hn3 := hGi.h.1
 have hm1 := HMQ.out.2.2.1.2.2.1
 have hm2 := HMQ.out.2.2.2.2.1
 have hm3 := J.held_len HMQ.out
 have HN : Hid (xnp <= 600 /\ xnl <= 600 /\ xnh <= 600) := Zh (by simp only at hn1 hn2 hn3; omega)
 clear hGi hGu hn1 hn2 hn3 hm1 hm2 hm3 hsx hsy hst
 clear c0
 clear r0 r1 r2 r3 r4 r5 r6 r7 r8
 obtain ⟨w7, hw7, hb, hk⟩ := Zn w6 32 #[.int .i64 q.d.b, .int .i64 q.d.k, .int .i64 q.d.c, .int .i64 q.d.j, .int .i64 q.d.lo, .int .i64 q.d.hi, .int .i64 q.d.dy, .int .i64 q.d.bl, .int .i64 q.p.q, .int .i64 q.p.i, .int .i64 q.p.h, .bool q.p.pair, .int .i64 q.now, .slice xap xnp xcp, .slice xal xnl xcl, .slice xah xnh xch]
 have KS7 := Zk KS6 hb
 replace KE2 := Zk KE2 hb
 have KT7 := Zk KT6 hb
 replace HG6 := Zh (HG6.out.below hb)
 have HB7 := Zt HB6 hb
 have KU7 := Zh hk
 clear hb hk KS6 KT6 HB6
 obtain ⟨wz7, hz7⟩ : ∃ W, w6.alloc (.cells #[.int .i64 0, .int .i64 0, .int .i64 0, .int .i64 0, .int .i64 0, .int .i64 0, .int .i64 0, .int .i64 0, .int .i64 0, .int .i64 0, .int .i64 0, .bool false, .int .i64 0, .slice none 0 0, .slice none 0 0, .slice none 0 0] 32) = W := ⟨_, rfl⟩
 have HZK7 : Hid (Blok wz7 w6.heap.size 32 #[.int .i64 0, .int .i64 0, .int .i64 0, .int .i64 0, .int .i64 0, .int .i64 0, .int .i64 0, .int .i64 0, .int .i64 0, .int .i64 0, .int .i64 0, .bool false, .int .i64 0, .slice none 0 0, .slice none 0 0, .slice none 0 0]) := Zh (by rw [<- hz7]; exact Blok.new w6 _ _)
 have HPZ7 : Hid (wz7.setRow w6.heap.size #[.int .i64 q.d.b, .int .i64 q.d.k, .int .i64 q.d.c, .int .i64 q.d.j, .int .i64 q.d.lo, .int .i64 q.d.hi, .int .i64 q.d.dy, .int .i64 q.d.bl, .int .i64 q.p.q, .int .i64 q.p.i, .int .i64 q.p.h, .bool q.p.pair, .int .i64 q.now, .slice xap xnp xcp, .slice xal xnl xcl, .slice xah xnh xch] = w7) := Zh (by rw [<- hz7, World.setRow_alloc_new, hw7])
 clear hw7
 have hi7 := HG6.out.i
 have hkt := KT7.out.lt
 have HKU := KU7
 obtain ⟨w8, hw8, hb, hk⟩ := Zn w7 67 #[.int .i64 q.d.b, .int .i64 q.d.k, .int .i64 q.d.c, .int .i64 q.d.j, .int .i64 q.d.lo, .int .i64 q.d.hi, .int .i64 q.d.dy, .int .i64 q.d.bl, .int .i64 q.p.q, .int .i64 q.p.i, .int .i64 q.p.h, .bool q.p.pair, .int .i64 q.now, .slice xap xnp xcp, .slice xal xnl xcl, .slice xah xnh xch]
 have KS8 := Zk KS7 hb
 replace KE2 := Zk KE2 hb
 have KT8 := Zk KT7 hb
 replace HG6 := Zh (HG6.out.below hb)
 replace KU7 := Zk KU7 hb
 have HB8 := Zt HB7 hb
 have KW8 := Zh hk
 clear hb hk KS7 KT7 HB7
 obtain ⟨wz8, hz8⟩ : ∃ W, w7.alloc (.cells #[.int .i64 0, .int .i64 0, .int .i64 0, .int .i64 0, .int .i64 0, .int .i64 0, .int .i64 0, .int .i64 0, .int .i64 0, .int .i64 0, .int .i64 0, .bool false, .int .i64 0, .slice none 0 0, .slice none 0 0, .slice none 0 0] 67) = W := ⟨_, rfl⟩
 have HZK8 : Hid (Blok wz8 w7.heap.size 67 #[.int .i64 0, .int .i64 0, .int .i64 0, .int .i64 0, .int .i64 0, .int .i64 0, .int .i64 0, .int .i64 0, .int .i64 0, .int .i64 0, .int .i64 0, .bool false, .int .i64 0, .slice none 0 0, .slice none 0 0, .slice none 0 0]) := Zh (by rw [<- hz8]; exact Blok.new w7 _ _)
 have HPZ8 : Hid (wz8.setRow w7.heap.size #[.int .i64 q.d.b, .int .i64 q.d.k, .int .i64 q.d.c, .int .i64 q.d.j, .int .i64 q.d.lo, .int .i64 q.d.hi, .int .i64 q.d.dy, .int .i64 q.d.bl, .int .i64 q.p.q, .int .i64 q.p.i, .int .i64 q.p.h, .bool q.p.pair, .int .i64 q.now, .slice xap xnp xcp, .slice xal xnl xcl, .slice xah xnh xch] = w8) := Zh (by rw [<- hz8, World.setRow_alloc_new, hw8])
 clear hw8
 have HWI : Hid (J.WIn w8 w7.heap.size q ⟨xap, xnp, xcp, xal, xnl, xcl, xah, xnh, xch⟩) := Zh ⟨KW8.out, HG6.out.i, Y.pool_fresh hi7.p (Nat.le_refl _), Y.row_fresh hi7.l (Nat.le_refl _), Y.row_fresh hi7.h (Nat.le_refl _)⟩
 clear hi7
 have hk8 := KW8.out.lt
 obtain ⟨r0, r1, r2, r3, r4, r5, r6, r7, r8⟩ := J.ce9 KE2.out
 go_wp2_with (first | (refine Zw HZK7.out HPZ7.out ?_) | (refine zak HKU.out rfl rfl (by kernel_rfl) Tryz.underlying32 rfl (by kernel_rfl) ?_) | (refine Zw HZK8.out HPZ8.out ?_))
 refine (zot (w.heap.size + 3) w7.heap.size q ⟨xap, xnp, xcp, xal, xnl, xcl, xah, xnh, xch⟩ e w8 HWI.out (by omega) HU.out HN.out HMQ.out HE.out).mono ?_
 clear r0 r1 r2 r3 r4 r5 r6 r7 r8
 rintro _ w9 ⟨rfl, hmk, hg⟩
 have KS9 := Zh (KS8.out.grown hg (by simp; omega))
 have KT9 := Zh (KT8.out.grown hg (by simp; omega))
 have HB9 := Zh (HB8.out.grown hg HB8.out.size (fun q' hq' => by cases hq'; omega))
 have hgs := hg.size
 clear hg KS8 KT8 KE2 KU7 KW8 HG6 HB8 HWI HKU
 rw [HQ.out] at hmo
 rw [hmo] at hmk ⊢
 obtain ⟨⟨yap, ynp, ycp, yal, ynl, ycl, yah, ynh, ych⟩, hwu, huu⟩ := hmk u rfl
 have HWU := Zh hwu.out
 have HUU := Zh huu
 clear hmk hwu huu
 simp only [Option.isSome_some]
 have cm := fun W (h : Y.SIn W ⟨yap, ynp, ycp, yal, ynl, ycl, yah, ynh, ych⟩ u) => zbj u ⟨yap, ynp, ycp, yal, ynl, ycl, yah, ynh, ych⟩ true hvu W h (J.made_fits HMQ.out hmo h)
 unfold Y.val at cm
 have KW9 : Hid (Blok w9 w7.heap.size 67 (Y.cs u ⟨yap, ynp, ycp, yal, ynl, ycl, yah, ynh, ych⟩).toArray) := Zh HWU.out.k
 unfold Y.cs at KW9
 have HIU9 := Zh HWU.out.i
 clear HWU
 have v0 := Y.cs16 KW9.out
 go_wp2_with fail
 refine (cm _ HIU9.out).mono ?_
 clear v0
 rintro e w10 ⟨rfl, hb⟩
 have KS10 := Zk KS9 hb
 have KT10 := Zk KT9 hb
 replace KW9 := Zk KW9 hb
 replace HIU9 := Zh (HIU9.out.below hb)
 have HB10 := Zt HB9 hb
 clear hb KS9 KT9 HB9
 have v0 := Y.cs16 KW9.out
 clear cm
 have e1 := HAP.out
 rw [J.fits_may hmo (of_decide_eq_true hvu)] at e1
 have e2 : u = t := (congrArg Prod.fst e1).symm
 have e3 : 0 = f := (congrArg Prod.snd e1).symm
 clear e1 HAP hmo hvu co
 subst e2 e3
 obtain ⟨w11, hp11⟩ : ∃ W, w10.setRow (w.heap.size + 2) #[.int .i64 u.d.b, .int .i64 u.d.k, .int .i64 u.d.c, .int .i64 u.d.j, .int .i64 u.d.lo, .int .i64 u.d.hi, .int .i64 u.d.dy, .int .i64 u.d.bl, .int .i64 u.p.q, .int .i64 u.p.i, .int .i64 u.p.h, .bool u.p.pair, .int .i64 u.now, .slice yap ynp ycp, .slice yal ynl ycl, .slice yah ynh ych] = W := ⟨_, rfl⟩
 have hg11 : w10.grownBy w11 (some (w.heap.size + 2)) := by rw [<- hp11]; exact zbr _ _ _
 have HP11 := Zh hp11
 have KT11 : Hid (Blok w11 (w.heap.size + 2) 32 #[.int .i64 u.d.b, .int .i64 u.d.k, .int .i64 u.d.c, .int .i64 u.d.j, .int .i64 u.d.lo, .int .i64 u.d.hi, .int .i64 u.d.dy, .int .i64 u.d.bl, .int .i64 u.p.q, .int .i64 u.p.i, .int .i64 u.p.h, .bool u.p.pair, .int .i64 u.now, .slice yap ynp ycp, .slice yal ynl ycl, .slice yah ynh ych]) := Zh (by rw [<- hp11]; exact KT10.out.put _)
 have HG11 : Hid (J.Got w11 (w.heap.size + 3) u ⟨yap, ynp, ycp, yal, ynl, ycl, yah, ynh, ych⟩) := Zh ((J.Got.mk HIU9.out HUU.out).far hg11 (by omega))
 have HB11 := Zh (HB10.out.grown hg11 HB10.out.size (fun q' hq' => by cases hq'; omega))
 clear hp11 hg11
 go_wp2_with (first | (refine Zw KT10.out HP11.out ?_) | (refine zak KW9.out rfl rfl (by kernel_rfl) Tryz.underlying32 rfl (by kernel_rfl) ?_))
 refine bodyPost_ret (zly (v := .int .i64 0) rfl (w.heap.size + 2) rfl (by kernel_rfl) (by kernel_rfl) KT11.out) rfl ?_
 exact ⟨⟨yap, ynp, ycp, yal, ynl, ycl, yah, ynh, ych⟩, rfl, Zh (HG11.out.down (by omega)), HB11.out⟩
end Go.Proofs.YtijkbflimbffmaaGreat
