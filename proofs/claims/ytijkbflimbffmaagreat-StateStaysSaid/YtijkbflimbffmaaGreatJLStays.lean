import Derived.Test.YtijkbflimbffmaaGreatJLStaysA
namespace Go.Proofs.YtijkbflimbffmaaGreat
set_option maxHeartbeats 4000000
set_option maxRecDepth 100000
open Go.RowKit
theorem zpk (s : Y.St) (ap : Option Addr) (np cp : Nat) (al : Option Addr) (nl cl : Nat) (ah : Option Addr) (nh ch : Nat) (e : Y.Ev) (now : Int) (w : World) (h : Y.SIn w ⟨ap, np, cp, al, nl, cl, ah, nh, ch⟩ s) (sm : O.Sm s.ps) (hb : s.d.b <= 9223372036854775807) (hc : s.d.c <= 9223372036854775807) (t : Y.St) (hst : J.settle s now = (t, true)) (f : Int) (hap : J.apply s e = (s, f)) (hf : f ≠ 0) :
  Calls Tryz.prog 6 #[.agg #[.int .i64 s.d.b, .int .i64 s.d.k, .int .i64 s.d.c, .int .i64 s.d.j, .int .i64 s.d.lo, .int .i64 s.d.hi, .int .i64 s.d.dy, .int .i64 s.d.bl, .int .i64 s.p.q, .int .i64 s.p.i, .int .i64 s.p.h, .bool s.p.pair, .int .i64 s.now, .slice ap np cp, .slice al nl cl, .slice ah nh ch], .agg #[.int .i64 e.k, .int .i64 e.t, .int .i64 e.a, .int .i64 e.b, .int .i64 e.c, .int .i64 e.p.q, .int .i64 e.p.i, .int .i64 e.p.h, .bool e.p.pair], .int .i64 now] w fun e w' => e = .returned (.bool true) /\ Below w.heap.size w w' := by
 have HB0 := Zh (Below.refl w.heap.size w)
 have HI0 := Zh (h)
 have HSM := Zh sm
 clear h sm
 have HST := Zh hst
 have HAP := Zh hap
 clear hst hap
 obtain ⟨w1, hw1, hb, hk⟩ := Zn w 32 #[.int .i64 s.d.b, .int .i64 s.d.k, .int .i64 s.d.c, .int .i64 s.d.j, .int .i64 s.d.lo, .int .i64 s.d.hi, .int .i64 s.d.dy, .int .i64 s.d.bl, .int .i64 s.p.q, .int .i64 s.p.i, .int .i64 s.p.h, .bool s.p.pair, .int .i64 s.now, .slice ap np cp, .slice al nl cl, .slice ah nh ch]
 replace HI0 := Zh (HI0.out.below hb)
 replace HB0 := Zt HB0 hb
 have KS1 := Zh hk
 clear hb hk
 obtain ⟨w2, hw2, hb, hk⟩ := Zn w1 34 #[.int .i64 e.k, .int .i64 e.t, .int .i64 e.a, .int .i64 e.b, .int .i64 e.c, .int .i64 e.p.q, .int .i64 e.p.i, .int .i64 e.p.h, .bool e.p.pair]
 replace HI0 := Zh (HI0.out.below hb)
 replace KS1 := Zk KS1 hb
 replace HB0 := Zt HB0 hb
 have KE2 := Zh hk
 clear hb hk
 have c0 := Y.cs16 KS1.out
 obtain ⟨fw, hfw⟩ : ∃ b, (decide (nl <= 40) && decide (nh <= 40) && decide (np <= 6)) = b := ⟨_, rfl⟩
 have HFW := Zh hfw
 clear hfw
 go_enter Tryz.func6, Tryz.ntmps6
 go_wp2_with fail
 try rw [hw1]
 try rw [hw2]
 refine (zna w2).mono ?_
 clear c0
 rintro e w3 ⟨rfl, hb⟩
 replace HI0 := Zh (HI0.out.below hb)
 replace KS1 := Zk KS1 hb
 replace KE2 := Zk KE2 hb
 replace HB0 := Zt HB0 hb
 clear hb
 have c0 := Y.cs16 KS1.out
 clear hw1 hw2
 go_wp2_with fail
 refine (zcx s ap np cp al nl cl ah nh ch fw HFW.out w3).mono ?_
 clear c0
 rintro e w4 ⟨rfl, hb⟩
 replace HI0 := Zh (HI0.out.below hb)
 replace KS1 := Zk KS1 hb
 replace KE2 := Zk KE2 hb
 replace HB0 := Zt HB0 hb
 clear hb
 have c0 := Y.cs16 KS1.out
 cases fw with
 | false =>
  go_wp2
  go_ret
  exact ⟨rfl, HB0.out⟩
 | true =>
  have hfe := HFW.out
  simp only [Bool.and_eq_true, decide_eq_true_eq] at hfe
  obtain ⟨⟨hnl, hnh⟩, hnp⟩ := hfe
  have HFT : Hid (Y.Fits ⟨ap, np, cp, al, nl, cl, ah, nh, ch⟩ s) := Zh ⟨by show np <= 600; omega, by show nl <= 600; omega, by show nh <= 600; omega, HSM.out, hb, hc⟩
  go_wp2_with fail
  refine (zm8 s ⟨ap, np, cp, al, nl, cl, ah, nh, ch⟩ now t true HST.out w4 HI0.out HFT.out).mono ?_
  clear c0
  rintro e w5 ⟨apd, npd, cpd, ald, nld, cld, ahd, nhd, chd, rfl, hG, hb⟩
  replace HI0 := Zh (HI0.out.below hb)
  replace KS1 := Zk KS1 hb
  replace KE2 := Zk KE2 hb
  replace HB0 := Zt HB0 hb
  clear hb
  have HGd5 := hG
  have c0 := Y.cs16 KS1.out
  as_aux_lemma =>
  clear hG
  clear c0
  obtain ⟨w6, hw6, hb, hk⟩ := Zn w5 32 #[.int .i64 t.d.b, .int .i64 t.d.k, .int .i64 t.d.c, .int .i64 t.d.j, .int .i64 t.d.lo, .int .i64 t.d.hi, .int .i64 t.d.dy, .int .i64 t.d.bl, .int .i64 t.p.q, .int .i64 t.p.i, .int .i64 t.p.h, .bool t.p.pair, .int .i64 t.now, .slice apd npd cpd, .slice ald nld cld, .slice ahd nhd chd]
  replace HI0 := Zh (HI0.out.below hb)
  replace KS1 := Zk KS1 hb
  replace KE2 := Zk KE2 hb
  replace HGd5 := Zh (HGd5.out.below hb)
  replace HB0 := Zt HB0 hb
  have KT6 := Zh hk
  clear hb hk
  obtain ⟨wz6, hz6⟩ : ∃ W, w5.alloc (.cells #[.int .i64 0, .int .i64 0, .int .i64 0, .int .i64 0, .int .i64 0, .int .i64 0, .int .i64 0, .int .i64 0, .int .i64 0, .int .i64 0, .int .i64 0, .bool false, .int .i64 0, .slice none 0 0, .slice none 0 0, .slice none 0 0] 32) = W := ⟨_, rfl⟩
  have HZK6 : Hid (Blok wz6 w5.heap.size 32 #[.int .i64 0, .int .i64 0, .int .i64 0, .int .i64 0, .int .i64 0, .int .i64 0, .int .i64 0, .int .i64 0, .int .i64 0, .int .i64 0, .int .i64 0, .bool false, .int .i64 0, .slice none 0 0, .slice none 0 0, .slice none 0 0]) := Zh (by rw [<- hz6]; exact Blok.new w5 _ _)
  have HPZ6 : Hid (wz6.setRow w5.heap.size #[.int .i64 t.d.b, .int .i64 t.d.k, .int .i64 t.d.c, .int .i64 t.d.j, .int .i64 t.d.lo, .int .i64 t.d.hi, .int .i64 t.d.dy, .int .i64 t.d.bl, .int .i64 t.p.q, .int .i64 t.p.i, .int .i64 t.p.h, .bool t.p.pair, .int .i64 t.now, .slice apd npd cpd, .slice ald nld cld, .slice ahd nhd chd] = w6) := Zh (by rw [<- hz6, World.setRow_alloc_new, hw6])
  clear hw6
  have HM0 := Zh (J.settle_may HST.out).2.2.1
  have HST2 := Zh (J.settle_may HST.out).2.2.2
  have HFD : Hid (Y.Fits ⟨apd, npd, cpd, ald, nld, cld, ahd, nhd, chd⟩ t) := Zh (J.may_fits HM0.out HGd5.out.i)
  go_wp2_with (first | (with_reducible refine J.zx HZK6.out HPZ6.out ?_) | (with_reducible refine J.zl KS1.out Tryz.underlying32 ?_) | (with_reducible refine J.zl KE2.out Tryz.underlying34 ?_))
  refine (znm s ⟨ap, np, cp, al, nl, cl, ah, nh, ch⟩ e s f HAP.out w6 HI0.out HFT.out).mono ?_
  rintro e w7 ⟨apu, npu, cpu, alu, nlu, clu, ahu, nhu, chu, rfl, hG, hb⟩
  replace HI0 := Zh (HI0.out.below hb)
  replace KS1 := Zk KS1 hb
  replace KE2 := Zk KE2 hb
  replace HGd5 := Zh (HGd5.out.below hb)
  replace KT6 := Zk KT6 hb
  replace HB0 := Zt HB0 hb
  clear hb
  have HGu7 := hG
  as_aux_lemma =>
  clear hG
  obtain ⟨w8, hw8, hb, hk⟩ := Zn w7 32 #[.int .i64 s.d.b, .int .i64 s.d.k, .int .i64 s.d.c, .int .i64 s.d.j, .int .i64 s.d.lo, .int .i64 s.d.hi, .int .i64 s.d.dy, .int .i64 s.d.bl, .int .i64 s.p.q, .int .i64 s.p.i, .int .i64 s.p.h, .bool s.p.pair, .int .i64 s.now, .slice apu npu cpu, .slice alu nlu clu, .slice ahu nhu chu]
  replace HI0 := Zh (HI0.out.below hb)
  replace KS1 := Zk KS1 hb
  replace KE2 := Zk KE2 hb
  replace HGd5 := Zh (HGd5.out.below hb)
  replace KT6 := Zk KT6 hb
  replace HGu7 := Zh (HGu7.out.below hb)
  replace HB0 := Zt HB0 hb
  have KU8 := Zh hk
  clear hb hk
  obtain ⟨wz8, hz8⟩ : ∃ W, w7.alloc (.cells #[.int .i64 0, .int .i64 0, .int .i64 0, .int .i64 0, .int .i64 0, .int .i64 0, .int .i64 0, .int .i64 0, .int .i64 0, .int .i64 0, .int .i64 0, .bool false, .int .i64 0, .slice none 0 0, .slice none 0 0, .slice none 0 0] 32) = W := ⟨_, rfl⟩
  have HZK8 : Hid (Blok wz8 w7.heap.size 32 #[.int .i64 0, .int .i64 0, .int .i64 0, .int .i64 0, .int .i64 0, .int .i64 0, .int .i64 0, .int .i64 0, .int .i64 0, .int .i64 0, .int .i64 0, .bool false, .int .i64 0, .slice none 0 0, .slice none 0 0, .slice none 0 0]) := Zh (by rw [<- hz8]; exact Blok.new w7 _ _)
  have HPZ8 : Hid (wz8.setRow w7.heap.size #[.int .i64 s.d.b, .int .i64 s.d.k, .int .i64 s.d.c, .int .i64 s.d.j, .int .i64 s.d.lo, .int .i64 s.d.hi, .int .i64 s.d.dy, .int .i64 s.d.bl, .int .i64 s.p.q, .int .i64 s.p.i, .int .i64 s.p.h, .bool s.p.pair, .int .i64 s.now, .slice apu npu cpu, .slice alu nlu clu, .slice ahu nhu chu] = w8) := Zh (by rw [<- hz8, World.setRow_alloc_new, hw8])
  clear hw8
  have HFU : Hid (Y.Fits ⟨apu, npu, cpu, alu, nlu, clu, ahu, nhu, chu⟩ s) := Zh (J.fits_too HI0.out HGu7.out.i HFT.out)
  have f1 : (f != 0) = true := by simpa using hf
  have c0 := Y.cs16 KU8.out
  have t0 := Y.cs16 KS1.out
  go_wp2_with (with_reducible refine J.zx HZK8.out HPZ8.out ?_)
  refine (zea s s ⟨apu, npu, cpu, alu, nlu, clu, ahu, nhu, chu⟩ ⟨ap, np, cp, al, nl, cl, ah, nh, ch⟩ w8 HGu7.out.i HI0.out ⟨HFU.out.p, HFU.out.l, HFU.out.h⟩ true (decide_eq_true rfl)).mono ?_
  clear c0
  clear t0
  rintro e w9 ⟨rfl, hb⟩
  replace HI0 := Zh (HI0.out.below hb)
  replace KS1 := Zk KS1 hb
  replace KE2 := Zk KE2 hb
  replace HGd5 := Zh (HGd5.out.below hb)
  replace KT6 := Zk KT6 hb
  replace HGu7 := Zh (HGu7.out.below hb)
  replace KU8 := Zk KU8 hb
  replace HB0 := Zt HB0 hb
  clear hb
  have c0 := Y.cs16 KU8.out
  have t0 := Y.cs16 KS1.out
  as_aux_lemma =>
  clear c0
  clear t0
  go_wp2_with (with_reducible refine J.zl KT6.out Tryz.underlying32 ?_)
  refine (zm8 t ⟨apd, npd, cpd, ald, nld, cld, ahd, nhd, chd⟩ now t true HST2.out w9 HGd5.out.i HFD.out).mono ?_
  rintro e w10 ⟨apv, npv, cpv, alv, nlv, clv, ahv, nhv, chv, rfl, hG, hb⟩
  replace HI0 := Zh (HI0.out.below hb)
  replace KS1 := Zk KS1 hb
  replace KE2 := Zk KE2 hb
  replace HGd5 := Zh (HGd5.out.below hb)
  replace KT6 := Zk KT6 hb
  replace HGu7 := Zh (HGu7.out.below hb)
  replace KU8 := Zk KU8 hb
  replace HB0 := Zt HB0 hb
  clear hb
  have HGv10 := hG
  as_aux_lemma =>
  clear hG
  obtain ⟨w11, hw11, hb, hk⟩ := Zn w10 32 #[.int .i64 t.d.b, .int .i64 t.d.k, .int .i64 t.d.c, .int .i64 t.d.j, .int .i64 t.d.lo, .int .i64 t.d.hi, .int .i64 t.d.dy, .int .i64 t.d.bl, .int .i64 t.p.q, .int .i64 t.p.i, .int .i64 t.p.h, .bool t.p.pair, .int .i64 t.now, .slice apv npv cpv, .slice alv nlv clv, .slice ahv nhv chv]
  replace HI0 := Zh (HI0.out.below hb)
  replace KS1 := Zk KS1 hb
  replace KE2 := Zk KE2 hb
  replace HGd5 := Zh (HGd5.out.below hb)
  replace KT6 := Zk KT6 hb
  replace HGu7 := Zh (HGu7.out.below hb)
  replace KU8 := Zk KU8 hb
  replace HGv10 := Zh (HGv10.out.below hb)
  replace HB0 := Zt HB0 hb
  have KV11 := Zh hk
  clear hb hk
  obtain ⟨wz11, hz11⟩ : ∃ W, w10.alloc (.cells #[.int .i64 0, .int .i64 0, .int .i64 0, .int .i64 0, .int .i64 0, .int .i64 0, .int .i64 0, .int .i64 0, .int .i64 0, .int .i64 0, .int .i64 0, .bool false, .int .i64 0, .slice none 0 0, .slice none 0 0, .slice none 0 0] 32) = W := ⟨_, rfl⟩
  have HZK11 : Hid (Blok wz11 w10.heap.size 32 #[.int .i64 0, .int .i64 0, .int .i64 0, .int .i64 0, .int .i64 0, .int .i64 0, .int .i64 0, .int .i64 0, .int .i64 0, .int .i64 0, .int .i64 0, .bool false, .int .i64 0, .slice none 0 0, .slice none 0 0, .slice none 0 0]) := Zh (by rw [<- hz11]; exact Blok.new w10 _ _)
  have HPZ11 : Hid (wz11.setRow w10.heap.size #[.int .i64 t.d.b, .int .i64 t.d.k, .int .i64 t.d.c, .int .i64 t.d.j, .int .i64 t.d.lo, .int .i64 t.d.hi, .int .i64 t.d.dy, .int .i64 t.d.bl, .int .i64 t.p.q, .int .i64 t.p.i, .int .i64 t.p.h, .bool t.p.pair, .int .i64 t.now, .slice apv npv cpv, .slice alv nlv clv, .slice ahv nhv chv] = w11) := Zh (by rw [<- hz11, World.setRow_alloc_new, hw11])
  clear hw11
  have c0 := Y.cs16 KT6.out
  go_wp2_with (with_reducible refine J.zx HZK11.out HPZ11.out ?_)
  refine (zbj t ⟨apd, npd, cpd, ald, nld, cld, ahd, nhd, chd⟩ true (decide_eq_true HM0.out) w11 HGd5.out.i HFD.out).mono ?_
  clear c0
  rintro e w12 ⟨rfl, hb⟩
  replace HI0 := Zh (HI0.out.below hb)
  replace KS1 := Zk KS1 hb
  replace KE2 := Zk KE2 hb
  replace HGd5 := Zh (HGd5.out.below hb)
  replace KT6 := Zk KT6 hb
  replace HGu7 := Zh (HGu7.out.below hb)
  replace KU8 := Zk KU8 hb
  replace HGv10 := Zh (HGv10.out.below hb)
  replace KV11 := Zk KV11 hb
  replace HB0 := Zt HB0 hb
  clear hb
  have c0 := Y.cs16 KT6.out
  as_aux_lemma =>
  clear c0
  have HFV : Hid (Y.Fits ⟨apv, npv, cpv, alv, nlv, clv, ahv, nhv, chv⟩ t) := Zh (J.may_fits HM0.out HGv10.out.i)
  have c0 := Y.cs16 KV11.out
  have t0 := Y.cs16 KT6.out
  go_wp2_with fail
  refine (zea t t ⟨apv, npv, cpv, alv, nlv, clv, ahv, nhv, chv⟩ ⟨apd, npd, cpd, ald, nld, cld, ahd, nhd, chd⟩ w12 HGv10.out.i HGd5.out.i ⟨HFV.out.p, HFV.out.l, HFV.out.h⟩ true (decide_eq_true rfl)).mono ?_
  clear c0
  clear t0
  rintro e w13 ⟨rfl, hb⟩
  replace HI0 := Zh (HI0.out.below hb)
  replace KS1 := Zk KS1 hb
  replace KE2 := Zk KE2 hb
  replace HGd5 := Zh (HGd5.out.below hb)
  replace KT6 := Zk KT6 hb
  replace HGu7 := Zh (HGu7.out.below hb)
  replace KU8 := Zk KU8 hb
  replace HGv10 := Zh (HGv10.out.below hb)
  replace KV11 := Zk KV11 hb
  replace HB0 := Zt HB0 hb
  clear hb
  have c0 := Y.cs16 KV11.out
  have t0 := Y.cs16 KT6.out
  as_aux_lemma =>
  clear c0
  clear t0
  go_wp2_with fail
  go_ret
  exact ⟨rfl, HB0.out⟩
theorem zpl (s : Y.St) (ap : Option Addr) (np cp : Nat) (al : Option Addr) (nl cl : Nat) (ah : Option Addr) (nh ch : Nat) (e : Y.Ev) (now : Int) (w : World) (h : Y.SIn w ⟨ap, np, cp, al, nl, cl, ah, nh, ch⟩ s) (sm : O.Sm s.ps) (hb : s.d.b <= 9223372036854775807) (hc : s.d.c <= 9223372036854775807) (t : Y.St) (hst : J.settle s now = (t, true)) (u : Y.St) (hap : J.apply s e = (u, 0)) :
  Calls Tryz.prog 6 #[.agg #[.int .i64 s.d.b, .int .i64 s.d.k, .int .i64 s.d.c, .int .i64 s.d.j, .int .i64 s.d.lo, .int .i64 s.d.hi, .int .i64 s.d.dy, .int .i64 s.d.bl, .int .i64 s.p.q, .int .i64 s.p.i, .int .i64 s.p.h, .bool s.p.pair, .int .i64 s.now, .slice ap np cp, .slice al nl cl, .slice ah nh ch], .agg #[.int .i64 e.k, .int .i64 e.t, .int .i64 e.a, .int .i64 e.b, .int .i64 e.c, .int .i64 e.p.q, .int .i64 e.p.i, .int .i64 e.p.h, .bool e.p.pair], .int .i64 now] w fun e w' => e = .returned (.bool true) /\ Below w.heap.size w w' := by
 have HB0 := Zh (Below.refl w.heap.size w)
 have HI0 := Zh (h)
 have HSM := Zh sm
 clear h sm
 have HST := Zh hst
 have HAP := Zh hap
 clear hst hap
 obtain ⟨w1, hw1, hb, hk⟩ := Zn w 32 #[.int .i64 s.d.b, .int .i64 s.d.k, .int .i64 s.d.c, .int .i64 s.d.j, .int .i64 s.d.lo, .int .i64 s.d.hi, .int .i64 s.d.dy, .int .i64 s.d.bl, .int .i64 s.p.q, .int .i64 s.p.i, .int .i64 s.p.h, .bool s.p.pair, .int .i64 s.now, .slice ap np cp, .slice al nl cl, .slice ah nh ch]
 replace HI0 := Zh (HI0.out.below hb)
 replace HB0 := Zt HB0 hb
 have KS1 := Zh hk
 clear hb hk
 obtain ⟨w2, hw2, hb, hk⟩ := Zn w1 34 #[.int .i64 e.k, .int .i64 e.t, .int .i64 e.a, .int .i64 e.b, .int .i64 e.c, .int .i64 e.p.q, .int .i64 e.p.i, .int .i64 e.p.h, .bool e.p.pair]
 replace HI0 := Zh (HI0.out.below hb)
 replace KS1 := Zk KS1 hb
 replace HB0 := Zt HB0 hb
 have KE2 := Zh hk
 clear hb hk
 obtain ⟨c0, c1, c2, c3, c4, c5, c6, c7, c8, c9, c10, c11, c12, c13, c14, c15⟩ := Y.cs16 KS1.out
 obtain ⟨fw, hfw⟩ : ∃ b, (decide (nl <= 40) && decide (nh <= 40) && decide (np <= 6)) = b := ⟨_, rfl⟩
 have HFW := Zh hfw
 clear hfw
 go_enter Tryz.func6, Tryz.ntmps6
 go_wp2_with fail
 try rw [hw1]
 try rw [hw2]
 refine (zna w2).mono ?_
 clear c0 c1 c2 c3 c4 c5 c6 c7 c8 c9 c10 c11 c12 c13 c14 c15
 rintro e w3 ⟨rfl, hb⟩
 replace HI0 := Zh (HI0.out.below hb)
 replace KS1 := Zk KS1 hb
 replace KE2 := Zk KE2 hb
 replace HB0 := Zt HB0 hb
 clear hb
 obtain ⟨c0, c1, c2, c3, c4, c5, c6, c7, c8, c9, c10, c11, c12, c13, c14, c15⟩ := Y.cs16 KS1.out
 clear hw1 hw2
 go_wp2_with fail
 refine (zcx s ap np cp al nl cl ah nh ch fw HFW.out w3).mono ?_
 clear c0 c1 c2 c3 c4 c5 c6 c7 c8 c9 c10 c11 c12 c13 c14 c15
 rintro e w4 ⟨rfl, hb⟩
 replace HI0 := Zh (HI0.out.below hb)
 replace KS1 := Zk KS1 hb
 replace KE2 := Zk KE2 hb
 replace HB0 := Zt HB0 hb
 clear hb
 obtain ⟨c0, c1, c2, c3, c4, c5, c6, c7, c8, c9, c10, c11, c12, c13, c14, c15⟩ := Y.cs16 KS1.out
 cases fw with
 | false =>
  go_wp2
  go_ret
  exact ⟨rfl, HB0.out⟩
 | true =>
  have hfe := HFW.out
  simp only [Bool.and_eq_true, decide_eq_true_eq] at hfe
  obtain ⟨⟨hnl, hnh⟩, hnp⟩ := hfe
  have HFT : Hid (Y.Fits ⟨ap, np, cp, al, nl, cl, ah, nh, ch⟩ s) := Zh ⟨by show np <= 600; omega, by show nl <= 600; omega, by show nh <= 600; omega, HSM.out, hb, hc⟩
  go_wp2_with fail
  refine (zm8 s ⟨ap, np, cp, al, nl, cl, ah, nh, ch⟩ now t true HST.out w4 HI0.out HFT.out).mono ?_
  clear c0 c1 c2 c3 c4 c5 c6 c7 c8 c9 c10 c11 c12 c13 c14 c15
  rintro e w5 ⟨apd, npd, cpd, ald, nld, cld, ahd, nhd, chd, rfl, hG, hb⟩
  replace HI0 := Zh (HI0.out.below hb)
  replace KS1 := Zk KS1 hb
  replace KE2 := Zk KE2 hb
  replace HB0 := Zt HB0 hb
  clear hb
  have HGd5 := hG
  obtain ⟨c0, c1, c2, c3, c4, c5, c6, c7, c8, c9, c10, c11, c12, c13, c14, c15⟩ := Y.cs16 KS1.out
  as_aux_lemma =>
  clear hG
  clear c0 c1 c2 c3 c4 c5 c6 c7 c8 c9 c10 c11 c12 c13 c14 c15
  obtain ⟨w6, hw6, hb, hk⟩ := Zn w5 32 #[.int .i64 t.d.b, .int .i64 t.d.k, .int .i64 t.d.c, .int .i64 t.d.j, .int .i64 t.d.lo, .int .i64 t.d.hi, .int .i64 t.d.dy, .int .i64 t.d.bl, .int .i64 t.p.q, .int .i64 t.p.i, .int .i64 t.p.h, .bool t.p.pair, .int .i64 t.now, .slice apd npd cpd, .slice ald nld cld, .slice ahd nhd chd]
  replace HI0 := Zh (HI0.out.below hb)
  replace KS1 := Zk KS1 hb
  replace KE2 := Zk KE2 hb
  replace HGd5 := Zh (HGd5.out.below hb)
  replace HB0 := Zt HB0 hb
  have KT6 := Zh hk
  clear hb hk
  obtain ⟨wz6, hz6⟩ : ∃ W, w5.alloc (.cells #[.int .i64 0, .int .i64 0, .int .i64 0, .int .i64 0, .int .i64 0, .int .i64 0, .int .i64 0, .int .i64 0, .int .i64 0, .int .i64 0, .int .i64 0, .bool false, .int .i64 0, .slice none 0 0, .slice none 0 0, .slice none 0 0] 32) = W := ⟨_, rfl⟩
  have HZK6 : Hid (Blok wz6 w5.heap.size 32 #[.int .i64 0, .int .i64 0, .int .i64 0, .int .i64 0, .int .i64 0, .int .i64 0, .int .i64 0, .int .i64 0, .int .i64 0, .int .i64 0, .int .i64 0, .bool false, .int .i64 0, .slice none 0 0, .slice none 0 0, .slice none 0 0]) := Zh (by rw [<- hz6]; exact Blok.new w5 _ _)
  have HPZ6 : Hid (wz6.setRow w5.heap.size #[.int .i64 t.d.b, .int .i64 t.d.k, .int .i64 t.d.c, .int .i64 t.d.j, .int .i64 t.d.lo, .int .i64 t.d.hi, .int .i64 t.d.dy, .int .i64 t.d.bl, .int .i64 t.p.q, .int .i64 t.p.i, .int .i64 t.p.h, .bool t.p.pair, .int .i64 t.now, .slice apd npd cpd, .slice ald nld cld, .slice ahd nhd chd] = w6) := Zh (by rw [<- hz6, World.setRow_alloc_new, hw6])
  clear hw6
  have HM0 := Zh (J.settle_may HST.out).2.2.1
  have HST2 := Zh (J.settle_may HST.out).2.2.2
  have HFD : Hid (Y.Fits ⟨apd, npd, cpd, ald, nld, cld, ahd, nhd, chd⟩ t) := Zh (J.may_fits HM0.out HGd5.out.i)
  obtain ⟨td, tp, tn, tps, tl, th⟩ := u
  have hq := J.apply_ok HAP.out
  obtain rfl : td = s.d := hq.2.2.2.2.2.2
  obtain rfl : tn = e.t := hq.2.2.2.2.2.1
  have HMU := Zh hq.2.2.2.2.1
  clear hq
  go_wp2_with (first | (with_reducible refine J.zx HZK6.out HPZ6.out ?_) | (with_reducible refine J.zl KS1.out Tryz.underlying32 ?_) | (with_reducible refine J.zl KE2.out Tryz.underlying34 ?_))
  refine (znm s ⟨ap, np, cp, al, nl, cl, ah, nh, ch⟩ e (⟨s.d, tp, e.t, tps, tl, th⟩ : Y.St) 0 HAP.out w6 HI0.out HFT.out).mono ?_
  rintro e w7 ⟨apu, npu, cpu, alu, nlu, clu, ahu, nhu, chu, rfl, hG, hb⟩
  replace HI0 := Zh (HI0.out.below hb)
  replace KS1 := Zk KS1 hb
  replace KE2 := Zk KE2 hb
  replace HGd5 := Zh (HGd5.out.below hb)
  replace KT6 := Zk KT6 hb
  replace HB0 := Zt HB0 hb
  clear hb
  have HGu7 := hG
  as_aux_lemma =>
  clear hG
  obtain ⟨w8, hw8, hb, hk⟩ := Zn w7 32 #[.int .i64 s.d.b, .int .i64 s.d.k, .int .i64 s.d.c, .int .i64 s.d.j, .int .i64 s.d.lo, .int .i64 s.d.hi, .int .i64 s.d.dy, .int .i64 s.d.bl, .int .i64 tp.q, .int .i64 tp.i, .int .i64 tp.h, .bool tp.pair, .int .i64 e.t, .slice apu npu cpu, .slice alu nlu clu, .slice ahu nhu chu]
  replace HI0 := Zh (HI0.out.below hb)
  replace KS1 := Zk KS1 hb
  replace KE2 := Zk KE2 hb
  replace HGd5 := Zh (HGd5.out.below hb)
  replace KT6 := Zk KT6 hb
  replace HGu7 := Zh (HGu7.out.below hb)
  replace HB0 := Zt HB0 hb
  have KU8 := Zh hk
  clear hb hk
  obtain ⟨wz8, hz8⟩ : ∃ W, w7.alloc (.cells #[.int .i64 0, .int .i64 0, .int .i64 0, .int .i64 0, .int .i64 0, .int .i64 0, .int .i64 0, .int .i64 0, .int .i64 0, .int .i64 0, .int .i64 0, .bool false, .int .i64 0, .slice none 0 0, .slice none 0 0, .slice none 0 0] 32) = W := ⟨_, rfl⟩
  have HZK8 : Hid (Blok wz8 w7.heap.size 32 #[.int .i64 0, .int .i64 0, .int .i64 0, .int .i64 0, .int .i64 0, .int .i64 0, .int .i64 0, .int .i64 0, .int .i64 0, .int .i64 0, .int .i64 0, .bool false, .int .i64 0, .slice none 0 0, .slice none 0 0, .slice none 0 0]) := Zh (by rw [<- hz8]; exact Blok.new w7 _ _)
  have HPZ8 : Hid (wz8.setRow w7.heap.size #[.int .i64 s.d.b, .int .i64 s.d.k, .int .i64 s.d.c, .int .i64 s.d.j, .int .i64 s.d.lo, .int .i64 s.d.hi, .int .i64 s.d.dy, .int .i64 s.d.bl, .int .i64 tp.q, .int .i64 tp.i, .int .i64 tp.h, .bool tp.pair, .int .i64 e.t, .slice apu npu cpu, .slice alu nlu clu, .slice ahu nhu chu] = w8) := Zh (by rw [<- hz8, World.setRow_alloc_new, hw8])
  clear hw8
  have HFU : Hid (Y.Fits ⟨apu, npu, cpu, alu, nlu, clu, ahu, nhu, chu⟩ (⟨s.d, tp, e.t, tps, tl, th⟩ : Y.St)) := Zh (J.may_fits HMU.out HGu7.out.i)
  have f1 : ((0 : Int) != 0) = false := rfl
  go_wp2_with (first | (with_reducible refine J.zx HZK8.out HPZ8.out ?_) | (with_reducible refine J.zl KT6.out Tryz.underlying32 ?_))
  refine (zm8 t ⟨apd, npd, cpd, ald, nld, cld, ahd, nhd, chd⟩ now t true HST2.out w8 HGd5.out.i HFD.out).mono ?_
  rintro e w9 ⟨apv, npv, cpv, alv, nlv, clv, ahv, nhv, chv, rfl, hG, hb⟩
  replace HI0 := Zh (HI0.out.below hb)
  replace KS1 := Zk KS1 hb
  replace KE2 := Zk KE2 hb
  replace HGd5 := Zh (HGd5.out.below hb)
  replace KT6 := Zk KT6 hb
  replace HGu7 := Zh (HGu7.out.below hb)
  replace KU8 := Zk KU8 hb
  replace HB0 := Zt HB0 hb
  clear hb
  have HGv9 := hG
  as_aux_lemma =>
  clear hG
  obtain ⟨w10, hw10, hb, hk⟩ := Zn w9 32 #[.int .i64 t.d.b, .int .i64 t.d.k, .int .i64 t.d.c, .int .i64 t.d.j, .int .i64 t.d.lo, .int .i64 t.d.hi, .int .i64 t.d.dy, .int .i64 t.d.bl, .int .i64 t.p.q, .int .i64 t.p.i, .int .i64 t.p.h, .bool t.p.pair, .int .i64 t.now, .slice apv npv cpv, .slice alv nlv clv, .slice ahv nhv chv]
  replace HI0 := Zh (HI0.out.below hb)
  replace KS1 := Zk KS1 hb
  replace KE2 := Zk KE2 hb
  replace HGd5 := Zh (HGd5.out.below hb)
  replace KT6 := Zk KT6 hb
  replace HGu7 := Zh (HGu7.out.below hb)
  replace KU8 := Zk KU8 hb
  replace HGv9 := Zh (HGv9.out.below hb)
  replace HB0 := Zt HB0 hb
  have KV10 := Zh hk
  clear hb hk
  obtain ⟨wz10, hz10⟩ : ∃ W, w9.alloc (.cells #[.int .i64 0, .int .i64 0, .int .i64 0, .int .i64 0, .int .i64 0, .int .i64 0, .int .i64 0, .int .i64 0, .int .i64 0, .int .i64 0, .int .i64 0, .bool false, .int .i64 0, .slice none 0 0, .slice none 0 0, .slice none 0 0] 32) = W := ⟨_, rfl⟩
  have HZK10 : Hid (Blok wz10 w9.heap.size 32 #[.int .i64 0, .int .i64 0, .int .i64 0, .int .i64 0, .int .i64 0, .int .i64 0, .int .i64 0, .int .i64 0, .int .i64 0, .int .i64 0, .int .i64 0, .bool false, .int .i64 0, .slice none 0 0, .slice none 0 0, .slice none 0 0]) := Zh (by rw [<- hz10]; exact Blok.new w9 _ _)
  have HPZ10 : Hid (wz10.setRow w9.heap.size #[.int .i64 t.d.b, .int .i64 t.d.k, .int .i64 t.d.c, .int .i64 t.d.j, .int .i64 t.d.lo, .int .i64 t.d.hi, .int .i64 t.d.dy, .int .i64 t.d.bl, .int .i64 t.p.q, .int .i64 t.p.i, .int .i64 t.p.h, .bool t.p.pair, .int .i64 t.now, .slice apv npv cpv, .slice alv nlv clv, .slice ahv nhv chv] = w10) := Zh (by rw [<- hz10, World.setRow_alloc_new, hw10])
  clear hw10
  obtain ⟨c0, c1, c2, c3, c4, c5, c6, c7, c8, c9, c10, c11, c12, c13, c14, c15⟩ := Y.cs16 KT6.out
  go_wp2_with (with_reducible refine J.zx HZK10.out HPZ10.out ?_)
  refine (zbj t ⟨apd, npd, cpd, ald, nld, cld, ahd, nhd, chd⟩ true (decide_eq_true HM0.out) w10 HGd5.out.i HFD.out).mono ?_
  clear c0 c1 c2 c3 c4 c5 c6 c7 c8 c9 c10 c11 c12 c13 c14 c15
  rintro e w11 ⟨rfl, hb⟩
  replace HI0 := Zh (HI0.out.below hb)
  replace KS1 := Zk KS1 hb
  replace KE2 := Zk KE2 hb
  replace HGd5 := Zh (HGd5.out.below hb)
  replace KT6 := Zk KT6 hb
  replace HGu7 := Zh (HGu7.out.below hb)
  replace KU8 := Zk KU8 hb
  replace HGv9 := Zh (HGv9.out.below hb)
  replace KV10 := Zk KV10 hb
  replace HB0 := Zt HB0 hb
  clear hb
  obtain ⟨c0, c1, c2, c3, c4, c5, c6, c7, c8, c9, c10, c11, c12, c13, c14, c15⟩ := Y.cs16 KT6.out
  as_aux_lemma =>
  clear c0 c1 c2 c3 c4 c5 c6 c7 c8 c9 c10 c11 c12 c13 c14 c15
  have HFV : Hid (Y.Fits ⟨apv, npv, cpv, alv, nlv, clv, ahv, nhv, chv⟩ t) := Zh (J.may_fits HM0.out HGv9.out.i)
  obtain ⟨c0, c1, c2, c3, c4, c5, c6, c7, c8, c9, c10, c11, c12, c13, c14, c15⟩ := Y.cs16 KV10.out
  have t0 := Y.cs16 KT6.out
  go_wp2_with fail
  refine (zea t t ⟨apv, npv, cpv, alv, nlv, clv, ahv, nhv, chv⟩ ⟨apd, npd, cpd, ald, nld, cld, ahd, nhd, chd⟩ w11 HGv9.out.i HGd5.out.i ⟨HFV.out.p, HFV.out.l, HFV.out.h⟩ true (decide_eq_true rfl)).mono ?_
  clear c0 c1 c2 c3 c4 c5 c6 c7 c8 c9 c10 c11 c12 c13 c14 c15
  clear t0
  rintro e w12 ⟨rfl, hb⟩
  replace HI0 := Zh (HI0.out.below hb)
  replace KS1 := Zk KS1 hb
  replace KE2 := Zk KE2 hb
  replace HGd5 := Zh (HGd5.out.below hb)
  replace KT6 := Zk KT6 hb
  replace HGu7 := Zh (HGu7.out.below hb)
  replace KU8 := Zk KU8 hb
  replace HGv9 := Zh (HGv9.out.below hb)
  replace KV10 := Zk KV10 hb
  replace HB0 := Zt HB0 hb
  clear hb
  obtain ⟨c0, c1, c2, c3, c4, c5, c6, c7, c8, c9, c10, c11, c12, c13, c14, c15⟩ := Y.cs16 KV10.out
  have t0 := Y.cs16 KT6.out
  as_aux_lemma =>
  clear c0 c1 c2 c3 c4 c5 c6 c7 c8 c9 c10 c11 c12 c13 c14 c15
  clear t0
  obtain ⟨c0, c1, c2, c3, c4, c5, c6, c7, c8, c9, c10, c11, c12, c13, c14, c15⟩ := J.as16 KU8.out
  go_wp2_with fail
  refine (zbj (⟨s.d, tp, e.t, tps, tl, th⟩ : Y.St) ⟨apu, npu, cpu, alu, nlu, clu, ahu, nhu, chu⟩ true (decide_eq_true HMU.out) w12 HGu7.out.i HFU.out).mono ?_
  clear c0 c1 c2 c3 c4 c5 c6 c7 c8 c9 c10 c11 c12 c13 c14 c15
  rintro e w13 ⟨rfl, hb⟩
  replace HI0 := Zh (HI0.out.below hb)
  replace KS1 := Zk KS1 hb
  replace KE2 := Zk KE2 hb
  replace HGd5 := Zh (HGd5.out.below hb)
  replace KT6 := Zk KT6 hb
  replace HGu7 := Zh (HGu7.out.below hb)
  replace KU8 := Zk KU8 hb
  replace HGv9 := Zh (HGv9.out.below hb)
  replace KV10 := Zk KV10 hb
  replace HB0 := Zt HB0 hb
  clear hb
  obtain ⟨c0, c1, c2, c3, c4, c5, c6, c7, c8, c9, c10, c11, c12, c13, c14, c15⟩ := J.as16 KU8.out
  as_aux_lemma =>
  have t0 := Y.cs16 KS1.out
  have v1 := Zv KE2.out 1 (.int .i64 e.t)
  go_wp2
  go_ret
  exact ⟨rfl, HB0.out⟩
theorem StateStays_in (s : Y.St) (ap : Option Addr) (np cp : Nat) (al : Option Addr) (nl cl : Nat) (ah : Option Addr) (nh ch : Nat) (e : Y.Ev) (now : Int) (w : World) (h : Y.SIn w ⟨ap, np, cp, al, nl, cl, ah, nh, ch⟩ s) (sm : O.Sm s.ps) (hb : s.d.b <= 9223372036854775807) (hc : s.d.c <= 9223372036854775807) :
  Calls Tryz.prog 6 #[.agg #[.int .i64 s.d.b, .int .i64 s.d.k, .int .i64 s.d.c, .int .i64 s.d.j, .int .i64 s.d.lo, .int .i64 s.d.hi, .int .i64 s.d.dy, .int .i64 s.d.bl, .int .i64 s.p.q, .int .i64 s.p.i, .int .i64 s.p.h, .bool s.p.pair, .int .i64 s.now, .slice ap np cp, .slice al nl cl, .slice ah nh ch], .agg #[.int .i64 e.k, .int .i64 e.t, .int .i64 e.a, .int .i64 e.b, .int .i64 e.c, .int .i64 e.p.q, .int .i64 e.p.i, .int .i64 e.p.h, .bool e.p.pair], .int .i64 now] w fun e w' => e = .returned (.bool true) /\ Below w.heap.size w w' := by
 obtain ⟨⟨u, f⟩, hap⟩ : ∃ q, J.apply s e = q := ⟨_, rfl⟩
 by_cases hf : f = 0
 ·subst hf
  by_cases hs : J.can s now
  ·exact zpl s ap np cp al nl cl ah nh ch e now w h sm hb hc _ (J.settle_yes hs) u hap
  ·exact zpj s ap np cp al nl cl ah nh ch e now w h sm hb hc (J.settle_no hs) u hap
 ·have hu := J.apply_err hap hf
  subst hu
  by_cases hs : J.can u now
  ·exact zpk u ap np cp al nl cl ah nh ch e now w h sm hb hc _ (J.settle_yes hs) f hap hf
  ·exact zpi u ap np cp al nl cl ah nh ch e now w h sm hb hc (J.settle_no hs) f hap hf
end Go.Proofs.YtijkbflimbffmaaGreat
