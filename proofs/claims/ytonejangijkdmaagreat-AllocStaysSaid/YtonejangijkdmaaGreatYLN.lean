import Derived.Test.YtonejangijkdmaaGreatYWK
namespace Go.Proofs.YtonejangijkdmaaGreat
set_option maxHeartbeats 4000000
set_option maxRecDepth 100000
open Go.RowKit
theorem AllocStays_no (s : Y.St) (ap : Option Addr) (np cp : Nat) (al : Option Addr) (nl cl : Nat) (ah : Option Addr) (nh ch : Nat) (r : Y.Rq) (w : World) (h : Y.SIn w ⟨ap, np, cp, al, nl, cl, ah, nh, ch⟩ s) (sm : O.Sm s.ps) (hb : s.d.b <= 9223372036854775807) (hc : s.d.c <= 9223372036854775807) (ra : r.a <= 9223372036854775807) (hgd : ∃ e, e ≠ 0 /\ Y.step s r = Y.err s e) :
  Calls Tryz.prog 4 #[.agg #[.int .i64 s.d.b, .int .i64 s.d.k, .int .i64 s.d.c, .int .i64 s.d.j, .int .i64 s.d.lo, .int .i64 s.d.hi, .int .i64 s.d.dy, .int .i64 s.d.bl, .int .i64 s.p.q, .int .i64 s.p.i, .int .i64 s.p.h, .bool s.p.pair, .int .i64 s.now, .slice ap np cp, .slice al nl cl, .slice ah nh ch], .agg #[.int .i64 r.k, .int .i64 r.s, .int .i64 r.a, .int .i64 r.b, .int .i64 r.n, .int .i64 r.p.q, .int .i64 r.p.i, .int .i64 r.p.h, .bool r.p.pair]] w fun e w' => e = .returned (.bool true) /\ Below w.heap.size w w' := by
 have HB0 := Zh (Below.refl w.heap.size w)
 have HI0 := Zh (h)
 have HSM := Zh sm
 clear h sm
 obtain ⟨w1, hw1, hb, hk⟩ := Zn w 32 #[.int .i64 s.d.b, .int .i64 s.d.k, .int .i64 s.d.c, .int .i64 s.d.j, .int .i64 s.d.lo, .int .i64 s.d.hi, .int .i64 s.d.dy, .int .i64 s.d.bl, .int .i64 s.p.q, .int .i64 s.p.i, .int .i64 s.p.h, .bool s.p.pair, .int .i64 s.now, .slice ap np cp, .slice al nl cl, .slice ah nh ch]
 replace HI0 := Zh (HI0.out.below hb)
 replace HB0 := Zt HB0 hb
 have KS1 := Zh hk
 clear hb hk
 obtain ⟨w2, hw2, hb, hk⟩ := Zn w1 34 #[.int .i64 r.k, .int .i64 r.s, .int .i64 r.a, .int .i64 r.b, .int .i64 r.n, .int .i64 r.p.q, .int .i64 r.p.i, .int .i64 r.p.h, .bool r.p.pair]
 replace HI0 := Zh (HI0.out.below hb)
 replace KS1 := Zk KS1 hb
 replace HB0 := Zt HB0 hb
 have KR2 := Zh hk
 clear hb hk
 have c0 := Y.cs16 KS1.out
 obtain ⟨fw, hfw⟩ : ∃ b, (decide (nl <= 40) && decide (nh <= 40) && decide (np <= 6)) = b := ⟨_, rfl⟩
 have HFW := Zh hfw
 clear hfw
 go_enter Tryz.func4, Tryz.ntmps4
 go_wp2_with fail
 try rw [hw1]
 try rw [hw2]
 refine (zb0 w2).mono ?_
 clear c0
 rintro e w3 ⟨rfl, hb⟩
 replace HI0 := Zh (HI0.out.below hb)
 replace KS1 := Zk KS1 hb
 replace KR2 := Zk KR2 hb
 replace HB0 := Zt HB0 hb
 clear hb
 have c0 := Y.cs16 KS1.out
 clear hw1 hw2
 go_wp2_with fail
 refine (zcx s ap np cp al nl cl ah nh ch fw HFW.out w3).mono ?_
 clear c0
 rintro e w4 ⟨rfl, hb⟩
 replace HI0 := Zh (HI0.out.below hb)
 replace KS1 := Zk KS1 hb
 replace KR2 := Zk KR2 hb
 replace HB0 := Zt HB0 hb
 clear hb
 have c0 := Y.cs16 KS1.out
 cases fw with
 | false =>
  go_wp2
  go_ret
  exact ⟨rfl, HB0.out⟩
 | true =>
  have hfe := HFW.out
  simp only [Bool.and_eq_true, decide_eq_true_eq] at hfe
  obtain ⟨⟨hnl, hnh⟩, hnp⟩ := hfe
  have HFT : Hid (Y.Fits ⟨ap, np, cp, al, nl, cl, ah, nh, ch⟩ s) := Zh ⟨by show np <= 600; omega, by show nl <= 600; omega, by show nh <= 600; omega, HSM.out, hb, hc⟩
  have r0 := Y.cs9 KR2.out
  obtain ⟨er, her, hst⟩ := hgd
  have HST := Zh hst
  clear hst
  have e1 : (er != 0) = true := by simpa using her
  go_wp2_with fail
  refine (zca s ap np cp al nl cl ah nh ch r s [] er 0 0 0 HST.out rfl w4 HI0.out HFT.out (fun _ => ra)).mono ?_
  clear c0
  clear r0
  rintro e w5 ⟨ap2, np2, cp2, al2, nl2, cl2, ah2, nh2, ch2, ea, ec, rfl, hi, hv, hf2, hu, he, hb⟩
  replace HI0 := Zh (HI0.out.below hb)
  replace KS1 := Zk KS1 hb
  replace KR2 := Zk KR2 hb
  replace HB0 := Zt HB0 hb
  clear hb
  have HT5 := hi
  have HV5 := hv
  have c0 := Y.cs16 KS1.out
  have r0 := Y.cs9 KR2.out
  have HF2 := hf2
  have HU2 := hu
  have HE2 := he
  clear hi hv hf2 hu he
  clear c0
  clear r0
  obtain ⟨w6, he6⟩ : ∃ W, w5.alloc (.cells #[.int .i64 0, .int .i64 0, .int .i64 0, .int .i64 0, .int .i64 0, .int .i64 0, .int .i64 0, .int .i64 0, .int .i64 0, .int .i64 0, .int .i64 0, .bool false, .int .i64 0, .slice none 0 0, .slice none 0 0, .slice none 0 0] 32) = W := ⟨_, rfl⟩
  obtain ⟨w7, he7⟩ : ∃ W, w6.alloc (.cells #[.int .i64 0, .int .i64 0, .int .i64 0] 40) = W := ⟨_, rfl⟩
  obtain ⟨w8, hp8⟩ : ∃ W, w7.setRow w5.heap.size #[.int .i64 s.d.b, .int .i64 s.d.k, .int .i64 s.d.c, .int .i64 s.d.j, .int .i64 s.d.lo, .int .i64 s.d.hi, .int .i64 s.d.dy, .int .i64 s.d.bl, .int .i64 s.p.q, .int .i64 s.p.i, .int .i64 s.p.h, .bool s.p.pair, .int .i64 s.now, .slice ap2 np2 cp2, .slice al2 nl2 cl2, .slice ah2 nh2 ch2] = W := ⟨_, rfl⟩
  obtain ⟨w9, hp9⟩ : ∃ W, w8.setRow w6.heap.size #[.int .i64 er, .int .i64 0, .int .i64 0] = W := ⟨_, rfl⟩
  obtain ⟨kz1, kz2, kt, ka, hb, hsz⟩ := box2 he6 he7 hp8 hp9
  have HZ1 := Zh kz1
  have HZ2 := Zh kz2
  have HP1 := Zh hp8
  have HP2 := Zh hp9
  have HSZ9 := Zh hsz
  clear hsz
  replace HI0 := Zh (HI0.out.below hb)
  replace KS1 := Zk KS1 hb
  replace KR2 := Zk KR2 hb
  replace HT5 := Zh (HT5.out.below hb)
  replace HV5 := Zh (HV5.out.below hb)
  replace HB0 := Zt HB0 hb
  have KT9 := Zh kt
  have KA9 := Zh ka
  have hlt9 := hb.size
  clear kz1 kz2 kt ka hb hp8 hp9
  have a0 := Zv KA9.out 0 (.int .i64 er)
  have a1 := Zv KA9.out 1 (.int .i64 0)
  have a2 := Zv KA9.out 2 (.int .i64 0)
  have c0 := Y.cs16 KS1.out
  have t0 := Y.cs16 KT9.out
  go_wp2_with (first | (refine Zw HZ1.out HP1.out ?_) | (refine Zw HZ2.out HP2.out ?_))
  clear he6 he7 HZ1 HZ2 HP1 HP2 hlt9
  refine (zea s s ⟨ap2, np2, cp2, al2, nl2, cl2, ah2, nh2, ch2⟩ ⟨ap, np, cp, al, nl, cl, ah, nh, ch⟩ w9 HT5.out HI0.out ⟨HF2.out.p, HF2.out.l, HF2.out.h⟩ true (decide_eq_true rfl)).mono ?_
  clear c0
  clear t0
  rintro e w10 ⟨rfl, hb⟩
  replace HI0 := Zh (HI0.out.below hb)
  replace KS1 := Zk KS1 hb
  replace KR2 := Zk KR2 hb
  replace HT5 := Zh (HT5.out.below hb)
  replace HV5 := Zh (HV5.out.below hb)
  replace KT9 := Zk KT9 hb
  replace KA9 := Zk KA9 hb
  replace HB0 := Zt HB0 hb
  clear hb
  have c0 := Y.cs16 KS1.out
  have t0 := Y.cs16 KT9.out
  clear c0
  clear t0
  clear a0 a1 a2
  have a0 := Zv KA9.out 0 (.int .i64 er)
  have a1 := Zv KA9.out 1 (.int .i64 0)
  have a2 := Zv KA9.out 2 (.int .i64 0)
  go_wp2
  go_ret
  exact ⟨rfl, HB0.out⟩
end Go.Proofs.YtonejangijkdmaaGreat
