import Derived.Test.YtijkbflimbffmaaGreatJAwake
import Derived.Test.YtijkbflimbffmaaGreatP42
namespace Go.Proofs.YtijkbflimbffmaaGreat
set_option maxHeartbeats 1000000
set_option maxRecDepth 100000
open Go.RowKit
theorem zou (s : Y.St) (A : Y.A9) (hp : J.put s = none) (w : World) (h : Y.SIn w A s) (hf : Y.Fits A s) : Calls Tryz.prog 18 #[Y.val s A] w fun e w' => ∃ a c, e = .returned (.tuple #[.slice a 0 c, .bool false]) /\ Below w.heap.size w w' /\ (a = none -> c = 0) := by
 refine (zn9 s A w h hf).mono ?_
 rw [hp]
 rintro e w' ⟨a, c, he, _, hb, hz⟩
 exact ⟨a, c, he, hb, fun h => (hz h).2⟩
theorem zp0 (s : Y.St) (ap : Option Addr) (np cp : Nat) (al : Option Addr) (nl cl : Nat) (ah : Option Addr) (nh ch : Nat) (w : World) (h : Y.SIn w ⟨ap, np, cp, al, nl, cl, ah, nh, ch⟩ s) (sm : O.Sm s.ps) (hb : s.d.b <= 9223372036854775807) (hc : s.d.c <= 9223372036854775807) (hgd : J.put s = none /\ J.settle s s.now = (s, false)) :
  Calls Tryz.prog 8 #[.agg #[.int .i64 s.d.b, .int .i64 s.d.k, .int .i64 s.d.c, .int .i64 s.d.j, .int .i64 s.d.lo, .int .i64 s.d.hi, .int .i64 s.d.dy, .int .i64 s.d.bl, .int .i64 s.p.q, .int .i64 s.p.i, .int .i64 s.p.h, .bool s.p.pair, .int .i64 s.now, .slice ap np cp, .slice al nl cl, .slice ah nh ch]] w fun e w' => e = .returned (.bool true) /\ Below w.heap.size w w' := by
 have HB0 := Zh (Below.refl w.heap.size w)
 have HI0 := Zh (h)
 have HSM := Zh sm
 clear h sm
 obtain ⟨w1, hw1, hb, hk⟩ := Zn w 32 #[.int .i64 s.d.b, .int .i64 s.d.k, .int .i64 s.d.c, .int .i64 s.d.j, .int .i64 s.d.lo, .int .i64 s.d.hi, .int .i64 s.d.dy, .int .i64 s.d.bl, .int .i64 s.p.q, .int .i64 s.p.i, .int .i64 s.p.h, .bool s.p.pair, .int .i64 s.now, .slice ap np cp, .slice al nl cl, .slice ah nh ch]
 replace HI0 := Zh (HI0.out.below hb)
 replace HB0 := Zt HB0 hb
 have KS1 := Zh hk
 clear hb hk
 have c0 := Y.cs16 KS1.out
 obtain ⟨fw, hfw⟩ : ∃ b, (decide (nl <= 40) && decide (nh <= 40) && decide (np <= 6)) = b := ⟨_, rfl⟩
 have HFW := Zh hfw
 clear hfw
 go_enter Tryz.func8, Tryz.ntmps8
 go_wp2_with fail
 try rw [hw1]
 refine (zna w1).mono ?_
 clear c0
 rintro e w2 ⟨rfl, hb⟩
 replace HI0 := Zh (HI0.out.below hb)
 replace KS1 := Zk KS1 hb
 replace HB0 := Zt HB0 hb
 clear hb
 have c0 := Y.cs16 KS1.out
 clear hw1
 go_wp2_with fail
 refine (zcx s ap np cp al nl cl ah nh ch fw HFW.out w2).mono ?_
 clear c0
 rintro e w3 ⟨rfl, hb⟩
 replace HI0 := Zh (HI0.out.below hb)
 replace KS1 := Zk KS1 hb
 replace HB0 := Zt HB0 hb
 clear hb
 have c0 := Y.cs16 KS1.out
 cases fw with
 | false =>
  go_wp2
  go_ret
  exact ⟨rfl, HB0.out⟩
 | true =>
  have hfe := HFW.out
  simp only [Bool.and_eq_true, decide_eq_true_eq] at hfe
  obtain ⟨⟨hnl, hnh⟩, hnp⟩ := hfe
  have HFT : Hid (Y.Fits ⟨ap, np, cp, al, nl, cl, ah, nh, ch⟩ s) := Zh ⟨by show np <= 600; omega, by show nl <= 600; omega, by show nh <= 600; omega, HSM.out, hb, hc⟩
  obtain ⟨hput, hset⟩ := hgd
  have HPN := Zh hput
  have HST := Zh hset
  clear hput hset
  go_wp2_with fail
  refine (zou s ⟨ap, np, cp, al, nl, cl, ah, nh, ch⟩ HPN.out w3 HI0.out HFT.out).mono ?_
  clear c0
  rintro e w4 ⟨pa, pc, rfl, hb, hz⟩
  replace HI0 := Zh (HI0.out.below hb)
  replace KS1 := Zk KS1 hb
  replace HB0 := Zt HB0 hb
  clear hb
  have c0 := Y.cs16 KS1.out
  clear hz
  go_wp2_with fail
  refine (zm8 s ⟨ap, np, cp, al, nl, cl, ah, nh, ch⟩ s.now s false HST.out w4 HI0.out HFT.out).mono ?_
  clear c0
  rintro e w5 ⟨apd, npd, cpd, ald, nld, cld, ahd, nhd, chd, rfl, hG, hb⟩
  replace HI0 := Zh (HI0.out.below hb)
  replace KS1 := Zk KS1 hb
  replace HB0 := Zt HB0 hb
  clear hb
  have HGd5 := hG
  have c0 := Y.cs16 KS1.out
  clear hG
  clear c0
  obtain ⟨w6, hw6, hb, hk⟩ := Zn w5 32 #[.int .i64 s.d.b, .int .i64 s.d.k, .int .i64 s.d.c, .int .i64 s.d.j, .int .i64 s.d.lo, .int .i64 s.d.hi, .int .i64 s.d.dy, .int .i64 s.d.bl, .int .i64 s.p.q, .int .i64 s.p.i, .int .i64 s.p.h, .bool s.p.pair, .int .i64 s.now, .slice apd npd cpd, .slice ald nld cld, .slice ahd nhd chd]
  replace HI0 := Zh (HI0.out.below hb)
  replace KS1 := Zk KS1 hb
  replace HGd5 := Zh (HGd5.out.below hb)
  replace HB0 := Zt HB0 hb
  have KT6 := Zh hk
  clear hb hk
  obtain ⟨wz6, hz6⟩ : ∃ W, w5.alloc (.cells #[.int .i64 0, .int .i64 0, .int .i64 0, .int .i64 0, .int .i64 0, .int .i64 0, .int .i64 0, .int .i64 0, .int .i64 0, .int .i64 0, .int .i64 0, .bool false, .int .i64 0, .slice none 0 0, .slice none 0 0, .slice none 0 0] 32) = W := ⟨_, rfl⟩
  have HZK6 : Hid (Blok wz6 w5.heap.size 32 #[.int .i64 0, .int .i64 0, .int .i64 0, .int .i64 0, .int .i64 0, .int .i64 0, .int .i64 0, .int .i64 0, .int .i64 0, .int .i64 0, .int .i64 0, .bool false, .int .i64 0, .slice none 0 0, .slice none 0 0, .slice none 0 0]) := Zh (by rw [<- hz6]; exact Blok.new w5 _ _)
  have HPZ6 : Hid (wz6.setRow w5.heap.size #[.int .i64 s.d.b, .int .i64 s.d.k, .int .i64 s.d.c, .int .i64 s.d.j, .int .i64 s.d.lo, .int .i64 s.d.hi, .int .i64 s.d.dy, .int .i64 s.d.bl, .int .i64 s.p.q, .int .i64 s.p.i, .int .i64 s.p.h, .bool s.p.pair, .int .i64 s.now, .slice apd npd cpd, .slice ald nld cld, .slice ahd nhd chd] = w6) := Zh (by rw [<- hz6, World.setRow_alloc_new, hw6])
  clear hw6
  have hn1 : s.ps.length = npd := HGd5.out.i.p.1
  have hn2 : s.l.length = nld := HGd5.out.i.l.1
  have hn3 : s.h.length = nhd := HGd5.out.i.h.1
  have hm1 : s.ps.length = np := HI0.out.p.1
  have hm2 : s.l.length = nl := HI0.out.l.1
  have hm3 : s.h.length = nh := HI0.out.h.1
  have HFD : Hid (Y.Fits ⟨apd, npd, cpd, ald, nld, cld, ahd, nhd, chd⟩ s) := Zh ⟨by show npd <= 600; omega, by show nld <= 600; omega, by show nhd <= 600; omega, HSM.out, hb, hc⟩
  go_wp2_with (first | (with_reducible refine J.zx HZK6.out HPZ6.out ?_) | (with_reducible refine J.zl KT6.out Tryz.underlying32 ?_))
  refine (zou s ⟨apd, npd, cpd, ald, nld, cld, ahd, nhd, chd⟩ HPN.out w6 HGd5.out.i HFD.out).mono ?_
  rintro e w7 ⟨pa2, pc2, rfl, hb, hz⟩
  replace HI0 := Zh (HI0.out.below hb)
  replace KS1 := Zk KS1 hb
  replace HGd5 := Zh (HGd5.out.below hb)
  replace KT6 := Zk KT6 hb
  replace HB0 := Zt HB0 hb
  clear hb
  clear hz
  go_wp2
  go_ret
  exact ⟨rfl, HB0.out⟩
theorem zp1 (s : Y.St) (ap : Option Addr) (np cp : Nat) (al : Option Addr) (nl cl : Nat) (ah : Option Addr) (nh ch : Nat) (w : World) (h : Y.SIn w ⟨ap, np, cp, al, nl, cl, ah, nh, ch⟩ s) (sm : O.Sm s.ps) (hb : s.d.b <= 9223372036854775807) (hc : s.d.c <= 9223372036854775807) (t : Y.St) (bs : List Int) (hgd : J.put s = none /\ J.settle s s.now = (t, true) /\ J.put t = some bs /\ True) :
  Calls Tryz.prog 8 #[.agg #[.int .i64 s.d.b, .int .i64 s.d.k, .int .i64 s.d.c, .int .i64 s.d.j, .int .i64 s.d.lo, .int .i64 s.d.hi, .int .i64 s.d.dy, .int .i64 s.d.bl, .int .i64 s.p.q, .int .i64 s.p.i, .int .i64 s.p.h, .bool s.p.pair, .int .i64 s.now, .slice ap np cp, .slice al nl cl, .slice ah nh ch]] w fun e w' => e = .returned (.bool true) /\ Below w.heap.size w w' := by
 have HB0 := Zh (Below.refl w.heap.size w)
 have HI0 := Zh (h)
 have HSM := Zh sm
 clear h sm
 obtain ⟨w1, hw1, hb, hk⟩ := Zn w 32 #[.int .i64 s.d.b, .int .i64 s.d.k, .int .i64 s.d.c, .int .i64 s.d.j, .int .i64 s.d.lo, .int .i64 s.d.hi, .int .i64 s.d.dy, .int .i64 s.d.bl, .int .i64 s.p.q, .int .i64 s.p.i, .int .i64 s.p.h, .bool s.p.pair, .int .i64 s.now, .slice ap np cp, .slice al nl cl, .slice ah nh ch]
 replace HI0 := Zh (HI0.out.below hb)
 replace HB0 := Zt HB0 hb
 have KS1 := Zh hk
 clear hb hk
 have c0 := Y.cs16 KS1.out
 obtain ⟨fw, hfw⟩ : ∃ b, (decide (nl <= 40) && decide (nh <= 40) && decide (np <= 6)) = b := ⟨_, rfl⟩
 have HFW := Zh hfw
 clear hfw
 go_enter Tryz.func8, Tryz.ntmps8
 go_wp2_with fail
 try rw [hw1]
 refine (zna w1).mono ?_
 clear c0
 rintro e w2 ⟨rfl, hb⟩
 replace HI0 := Zh (HI0.out.below hb)
 replace KS1 := Zk KS1 hb
 replace HB0 := Zt HB0 hb
 clear hb
 have c0 := Y.cs16 KS1.out
 clear hw1
 go_wp2_with fail
 refine (zcx s ap np cp al nl cl ah nh ch fw HFW.out w2).mono ?_
 clear c0
 rintro e w3 ⟨rfl, hb⟩
 replace HI0 := Zh (HI0.out.below hb)
 replace KS1 := Zk KS1 hb
 replace HB0 := Zt HB0 hb
 clear hb
 have c0 := Y.cs16 KS1.out
 cases fw with
 | false =>
  go_wp2
  go_ret
  exact ⟨rfl, HB0.out⟩
 | true =>
  have hfe := HFW.out
  simp only [Bool.and_eq_true, decide_eq_true_eq] at hfe
  obtain ⟨⟨hnl, hnh⟩, hnp⟩ := hfe
  have HFT : Hid (Y.Fits ⟨ap, np, cp, al, nl, cl, ah, nh, ch⟩ s) := Zh ⟨by show np <= 600; omega, by show nl <= 600; omega, by show nh <= 600; omega, HSM.out, hb, hc⟩
  obtain ⟨hput, hset, hpt, hfd0⟩ := hgd
  have HPN := Zh hput
  have HST := Zh hset
  have HPT := Zh hpt
  have HM0 := Zh (J.zc7.1 hpt).1.1
  have hbl : bs.length <= 600 := by rw [(J.zc7.1 hpt).2]; exact J.bytes_len (J.zc7.1 hpt).1.1
  clear hput hset hpt
  go_wp2_with fail
  refine (zou s ⟨ap, np, cp, al, nl, cl, ah, nh, ch⟩ HPN.out w3 HI0.out HFT.out).mono ?_
  clear c0
  rintro e w4 ⟨pa, pc, rfl, hb, hz⟩
  replace HI0 := Zh (HI0.out.below hb)
  replace KS1 := Zk KS1 hb
  replace HB0 := Zt HB0 hb
  clear hb
  have c0 := Y.cs16 KS1.out
  clear hz
  go_wp2_with fail
  refine (zm8 s ⟨ap, np, cp, al, nl, cl, ah, nh, ch⟩ s.now t true HST.out w4 HI0.out HFT.out).mono ?_
  clear c0
  rintro e w5 ⟨apd, npd, cpd, ald, nld, cld, ahd, nhd, chd, rfl, hG, hb⟩
  replace HI0 := Zh (HI0.out.below hb)
  replace KS1 := Zk KS1 hb
  replace HB0 := Zt HB0 hb
  clear hb
  have HGd5 := hG
  have c0 := Y.cs16 KS1.out
  clear hG
  clear c0
  obtain ⟨w6, hw6, hb, hk⟩ := Zn w5 32 #[.int .i64 t.d.b, .int .i64 t.d.k, .int .i64 t.d.c, .int .i64 t.d.j, .int .i64 t.d.lo, .int .i64 t.d.hi, .int .i64 t.d.dy, .int .i64 t.d.bl, .int .i64 t.p.q, .int .i64 t.p.i, .int .i64 t.p.h, .bool t.p.pair, .int .i64 t.now, .slice apd npd cpd, .slice ald nld cld, .slice ahd nhd chd]
  replace HI0 := Zh (HI0.out.below hb)
  replace KS1 := Zk KS1 hb
  replace HGd5 := Zh (HGd5.out.below hb)
  replace HB0 := Zt HB0 hb
  have KT6 := Zh hk
  clear hb hk
  obtain ⟨wz6, hz6⟩ : ∃ W, w5.alloc (.cells #[.int .i64 0, .int .i64 0, .int .i64 0, .int .i64 0, .int .i64 0, .int .i64 0, .int .i64 0, .int .i64 0, .int .i64 0, .int .i64 0, .int .i64 0, .bool false, .int .i64 0, .slice none 0 0, .slice none 0 0, .slice none 0 0] 32) = W := ⟨_, rfl⟩
  have HZK6 : Hid (Blok wz6 w5.heap.size 32 #[.int .i64 0, .int .i64 0, .int .i64 0, .int .i64 0, .int .i64 0, .int .i64 0, .int .i64 0, .int .i64 0, .int .i64 0, .int .i64 0, .int .i64 0, .bool false, .int .i64 0, .slice none 0 0, .slice none 0 0, .slice none 0 0]) := Zh (by rw [<- hz6]; exact Blok.new w5 _ _)
  have HPZ6 : Hid (wz6.setRow w5.heap.size #[.int .i64 t.d.b, .int .i64 t.d.k, .int .i64 t.d.c, .int .i64 t.d.j, .int .i64 t.d.lo, .int .i64 t.d.hi, .int .i64 t.d.dy, .int .i64 t.d.bl, .int .i64 t.p.q, .int .i64 t.p.i, .int .i64 t.p.h, .bool t.p.pair, .int .i64 t.now, .slice apd npd cpd, .slice ald nld cld, .slice ahd nhd chd] = w6) := Zh (by rw [<- hz6, World.setRow_alloc_new, hw6])
  clear hw6
  have HFD : Hid (Y.Fits ⟨apd, npd, cpd, ald, nld, cld, ahd, nhd, chd⟩ t) := Zh (J.may_fits HM0.out HGd5.out.i)
  go_wp2_with (first | (with_reducible refine J.zx HZK6.out HPZ6.out ?_) | (with_reducible refine J.zl KT6.out Tryz.underlying32 ?_))
  refine (znw t ⟨apd, npd, cpd, ald, nld, cld, ahd, nhd, chd⟩ bs HPT.out w6 HGd5.out.i HFD.out).mono ?_
  rintro e w7 ⟨pa2, pc2, rfl, hrow, hb, hz⟩
  replace HI0 := Zh (HI0.out.below hb)
  replace KS1 := Zk KS1 hb
  replace HGd5 := Zh (HGd5.out.below hb)
  replace KT6 := Zk KT6 hb
  replace HB0 := Zt HB0 hb
  clear hb
  clear hz hrow
  have hd6 : decide ((bs.length : Int) <= 600) = true := by simp; omega
  go_wp2
  go_ret
  exact ⟨rfl, HB0.out⟩
theorem zp2 (s : Y.St) (ap : Option Addr) (np cp : Nat) (al : Option Addr) (nl cl : Nat) (ah : Option Addr) (nh ch : Nat) (w : World) (h : Y.SIn w ⟨ap, np, cp, al, nl, cl, ah, nh, ch⟩ s) (sm : O.Sm s.ps) (hb : s.d.b <= 9223372036854775807) (hc : s.d.c <= 9223372036854775807) (bs : List Int) (hgd : J.put s = some bs) :
  Calls Tryz.prog 8 #[.agg #[.int .i64 s.d.b, .int .i64 s.d.k, .int .i64 s.d.c, .int .i64 s.d.j, .int .i64 s.d.lo, .int .i64 s.d.hi, .int .i64 s.d.dy, .int .i64 s.d.bl, .int .i64 s.p.q, .int .i64 s.p.i, .int .i64 s.p.h, .bool s.p.pair, .int .i64 s.now, .slice ap np cp, .slice al nl cl, .slice ah nh ch]] w fun e w' => e = .returned (.bool true) /\ Below w.heap.size w w' := by
 have HB0 := Zh (Below.refl w.heap.size w)
 have HI0 := Zh (h)
 have HSM := Zh sm
 clear h sm
 obtain ⟨w1, hw1, hb, hk⟩ := Zn w 32 #[.int .i64 s.d.b, .int .i64 s.d.k, .int .i64 s.d.c, .int .i64 s.d.j, .int .i64 s.d.lo, .int .i64 s.d.hi, .int .i64 s.d.dy, .int .i64 s.d.bl, .int .i64 s.p.q, .int .i64 s.p.i, .int .i64 s.p.h, .bool s.p.pair, .int .i64 s.now, .slice ap np cp, .slice al nl cl, .slice ah nh ch]
 replace HI0 := Zh (HI0.out.below hb)
 replace HB0 := Zt HB0 hb
 have KS1 := Zh hk
 clear hb hk
 have c0 := Y.cs16 KS1.out
 obtain ⟨fw, hfw⟩ : ∃ b, (decide (nl <= 40) && decide (nh <= 40) && decide (np <= 6)) = b := ⟨_, rfl⟩
 have HFW := Zh hfw
 clear hfw
 go_enter Tryz.func8, Tryz.ntmps8
 go_wp2_with fail
 try rw [hw1]
 refine (zna w1).mono ?_
 clear c0
 rintro e w2 ⟨rfl, hb⟩
 replace HI0 := Zh (HI0.out.below hb)
 replace KS1 := Zk KS1 hb
 replace HB0 := Zt HB0 hb
 clear hb
 have c0 := Y.cs16 KS1.out
 clear hw1
 go_wp2_with fail
 refine (zcx s ap np cp al nl cl ah nh ch fw HFW.out w2).mono ?_
 clear c0
 rintro e w3 ⟨rfl, hb⟩
 replace HI0 := Zh (HI0.out.below hb)
 replace KS1 := Zk KS1 hb
 replace HB0 := Zt HB0 hb
 clear hb
 have c0 := Y.cs16 KS1.out
 cases fw with
 | false =>
  go_wp2
  go_ret
  exact ⟨rfl, HB0.out⟩
 | true =>
  have hfe := HFW.out
  simp only [Bool.and_eq_true, decide_eq_true_eq] at hfe
  obtain ⟨⟨hnl, hnh⟩, hnp⟩ := hfe
  have HFT : Hid (Y.Fits ⟨ap, np, cp, al, nl, cl, ah, nh, ch⟩ s) := Zh ⟨by show np <= 600; omega, by show nl <= 600; omega, by show nh <= 600; omega, HSM.out, hb, hc⟩
  have HPT := Zh hgd
  have HOK := Zh (J.zc7.1 hgd).1
  have HST : Hid (J.settle s s.now = (s, true)) := Zh (by rw [J.settle_yes (J.ok_settled HOK.out).2, (J.ok_settled HOK.out).1])
  have hbl : bs.length <= 600 := by rw [(J.zc7.1 hgd).2]; exact J.bytes_len HOK.out.1
  clear hgd
  go_wp2_with fail
  refine (znw s ⟨ap, np, cp, al, nl, cl, ah, nh, ch⟩ bs HPT.out w3 HI0.out HFT.out).mono ?_
  clear c0
  rintro e w4 ⟨pa, pc, rfl, hrow, hb, hz⟩
  replace HI0 := Zh (HI0.out.below hb)
  replace KS1 := Zk KS1 hb
  replace HB0 := Zt HB0 hb
  clear hb
  have HW4 := hrow
  have c0 := Y.cs16 KS1.out
  as_aux_lemma =>
  clear hz hrow
  go_wp2_with fail
  refine (zm8 s ⟨ap, np, cp, al, nl, cl, ah, nh, ch⟩ s.now s true HST.out w4 HI0.out HFT.out).mono ?_
  clear c0
  rintro e w5 ⟨apd, npd, cpd, ald, nld, cld, ahd, nhd, chd, rfl, hG, hb⟩
  replace HI0 := Zh (HI0.out.below hb)
  replace KS1 := Zk KS1 hb
  have HW5 := Zh (HW4.out.below hb)
  replace HB0 := Zt HB0 hb
  clear hb HW4
  have HGd5 := hG
  have c0 := Y.cs16 KS1.out
  as_aux_lemma =>
  clear hG
  clear c0
  obtain ⟨w6, hw6, hb, hk⟩ := Zn w5 32 #[.int .i64 s.d.b, .int .i64 s.d.k, .int .i64 s.d.c, .int .i64 s.d.j, .int .i64 s.d.lo, .int .i64 s.d.hi, .int .i64 s.d.dy, .int .i64 s.d.bl, .int .i64 s.p.q, .int .i64 s.p.i, .int .i64 s.p.h, .bool s.p.pair, .int .i64 s.now, .slice apd npd cpd, .slice ald nld cld, .slice ahd nhd chd]
  replace HI0 := Zh (HI0.out.below hb)
  replace KS1 := Zk KS1 hb
  have HW6 := Zh (HW5.out.below hb)
  replace HGd5 := Zh (HGd5.out.below hb)
  replace HB0 := Zt HB0 hb
  have KT6 := Zh hk
  clear hb hk HW5
  obtain ⟨wz6, hz6⟩ : ∃ W, w5.alloc (.cells #[.int .i64 0, .int .i64 0, .int .i64 0, .int .i64 0, .int .i64 0, .int .i64 0, .int .i64 0, .int .i64 0, .int .i64 0, .int .i64 0, .int .i64 0, .bool false, .int .i64 0, .slice none 0 0, .slice none 0 0, .slice none 0 0] 32) = W := ⟨_, rfl⟩
  have HZK6 : Hid (Blok wz6 w5.heap.size 32 #[.int .i64 0, .int .i64 0, .int .i64 0, .int .i64 0, .int .i64 0, .int .i64 0, .int .i64 0, .int .i64 0, .int .i64 0, .int .i64 0, .int .i64 0, .bool false, .int .i64 0, .slice none 0 0, .slice none 0 0, .slice none 0 0]) := Zh (by rw [<- hz6]; exact Blok.new w5 _ _)
  have HPZ6 : Hid (wz6.setRow w5.heap.size #[.int .i64 s.d.b, .int .i64 s.d.k, .int .i64 s.d.c, .int .i64 s.d.j, .int .i64 s.d.lo, .int .i64 s.d.hi, .int .i64 s.d.dy, .int .i64 s.d.bl, .int .i64 s.p.q, .int .i64 s.p.i, .int .i64 s.p.h, .bool s.p.pair, .int .i64 s.now, .slice apd npd cpd, .slice ald nld cld, .slice ahd nhd chd] = w6) := Zh (by rw [<- hz6, World.setRow_alloc_new, hw6])
  clear hw6
  have HFD : Hid (Y.Fits ⟨apd, npd, cpd, ald, nld, cld, ahd, nhd, chd⟩ s) := Zh (J.may_fits HOK.out.1 HGd5.out.i)
  go_wp2_with (first | (with_reducible refine J.zx HZK6.out HPZ6.out ?_) | (with_reducible refine J.zl KT6.out Tryz.underlying32 ?_))
  refine (znw s ⟨apd, npd, cpd, ald, nld, cld, ahd, nhd, chd⟩ bs HPT.out w6 HGd5.out.i HFD.out).mono ?_
  rintro e w7 ⟨pa2, pc2, rfl, hrow, hb, hz⟩
  replace HI0 := Zh (HI0.out.below hb)
  replace KS1 := Zk KS1 hb
  have HW7 := Zh (HW6.out.below hb)
  replace HGd5 := Zh (HGd5.out.below hb)
  replace KT6 := Zk KT6 hb
  replace HB0 := Zt HB0 hb
  clear hb HW6
  have HW27 := hrow
  as_aux_lemma =>
  clear hz hrow
  have c0 := Y.cs16 KS1.out
  have t0 := Y.cs16 KT6.out
  go_wp2_with fail
  refine (zea s s ⟨apd, npd, cpd, ald, nld, cld, ahd, nhd, chd⟩ ⟨ap, np, cp, al, nl, cl, ah, nh, ch⟩ w7 HGd5.out.i HI0.out ⟨HFD.out.p, HFD.out.l, HFD.out.h⟩ true (decide_eq_true rfl)).mono ?_
  clear c0
  clear t0
  rintro e w8 ⟨rfl, hb⟩
  replace HI0 := Zh (HI0.out.below hb)
  replace KS1 := Zk KS1 hb
  have HW8 := Zh (HW7.out.below hb)
  replace HGd5 := Zh (HGd5.out.below hb)
  replace KT6 := Zk KT6 hb
  have HW28 := Zh (HW27.out.below hb)
  replace HB0 := Zt HB0 hb
  clear hb HW7 HW27
  have c0 := Y.cs16 KS1.out
  have t0 := Y.cs16 KT6.out
  as_aux_lemma =>
  clear c0
  clear t0
  have p1 := znu HW8.out rfl
  have p2 := znu HW28.out rfl
  obtain ⟨sb, hsb⟩ : ∃ z, zrg bs = z := ⟨_, rfl⟩
  rw [hsb] at p1 p2
  clear hsb
  have q1 : (sb.toList == sb.toList) = true := beq_self_eq_true _
  have hd6 : decide ((bs.length : Int) <= 600) = true := by simp; omega
  go_wp2
  go_ret
  exact ⟨rfl, HB0.out⟩
theorem StateShort_in (s : Y.St) (ap : Option Addr) (np cp : Nat) (al : Option Addr) (nl cl : Nat) (ah : Option Addr) (nh ch : Nat) (w : World) (h : Y.SIn w ⟨ap, np, cp, al, nl, cl, ah, nh, ch⟩ s) (sm : O.Sm s.ps) (hb : s.d.b <= 9223372036854775807) (hc : s.d.c <= 9223372036854775807) :
  Calls Tryz.prog 8 #[.agg #[.int .i64 s.d.b, .int .i64 s.d.k, .int .i64 s.d.c, .int .i64 s.d.j, .int .i64 s.d.lo, .int .i64 s.d.hi, .int .i64 s.d.dy, .int .i64 s.d.bl, .int .i64 s.p.q, .int .i64 s.p.i, .int .i64 s.p.h, .bool s.p.pair, .int .i64 s.now, .slice ap np cp, .slice al nl cl, .slice ah nh ch]] w fun e w' => e = .returned (.bool true) /\ Below w.heap.size w w' := by
 cases hp : J.put s with
 | some bs => exact zp2 s ap np cp al nl cl ah nh ch w h sm hb hc bs hp
 | none =>
  by_cases hs : J.can s s.now
  ·exact zp1 s ap np cp al nl cl ah nh ch w h sm hb hc (J.settled s s.now) _ ⟨hp, J.settle_yes hs, J.put_yes (J.settled_ok hs), trivial⟩
  ·exact zp0 s ap np cp al nl cl ah nh ch w h sm hb hc ⟨hp, J.settle_no hs⟩
end Go.Proofs.YtijkbflimbffmaaGreat
