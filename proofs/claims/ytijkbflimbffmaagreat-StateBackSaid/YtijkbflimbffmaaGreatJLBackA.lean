import Derived.Test.YtijkbflimbffmaaGreatJAwake
import Derived.Test.YtijkbflimbffmaaGreatP43
import Derived.Test.YtijkbflimbffmaaGreatP42
namespace Go.Proofs.YtijkbflimbffmaaGreat
set_option maxHeartbeats 4000000
set_option maxRecDepth 100000
open Go.RowKit
theorem zp3 (s : Y.St) (ap : Option Addr) (np cp : Nat) (al : Option Addr) (nl cl : Nat) (ah : Option Addr) (nh ch : Nat) (now : Int) (a : Option Addr) (n c : Nat) (m : List Int) (w : World) (h : Y.SIn w ⟨ap, np, cp, al, nl, cl, ah, nh, ch⟩ s) (sm : O.Sm s.ps) (hb : s.d.b <= 9223372036854775807) (hc : s.d.c <= 9223372036854775807) (hml : m.length = n) (hm : zfv .u8 w a c m) (hmn : a = none -> n = 0 /\ c = 0) (hst : J.settle s now = (s, false)) (hrd : J.read m = none) :
  Calls Tryz.prog 4 #[.agg #[.int .i64 s.d.b, .int .i64 s.d.k, .int .i64 s.d.c, .int .i64 s.d.j, .int .i64 s.d.lo, .int .i64 s.d.hi, .int .i64 s.d.dy, .int .i64 s.d.bl, .int .i64 s.p.q, .int .i64 s.p.i, .int .i64 s.p.h, .bool s.p.pair, .int .i64 s.now, .slice ap np cp, .slice al nl cl, .slice ah nh ch], .int .i64 now, .slice a n c] w fun e w' => e = .returned (.bool true) /\ Below w.heap.size w w' := by
 have HB0 := Zh (Below.refl w.heap.size w)
 have HI0 := Zh (h)
 have HM0 := Zh (hm)
 have HSM := Zh sm
 have HML := Zh hml
 have HMN := Zh hmn
 clear h sm hml hmn hm
 obtain ⟨w1, hw1, hb, hk⟩ := Zn w 32 #[.int .i64 s.d.b, .int .i64 s.d.k, .int .i64 s.d.c, .int .i64 s.d.j, .int .i64 s.d.lo, .int .i64 s.d.hi, .int .i64 s.d.dy, .int .i64 s.d.bl, .int .i64 s.p.q, .int .i64 s.p.i, .int .i64 s.p.h, .bool s.p.pair, .int .i64 s.now, .slice ap np cp, .slice al nl cl, .slice ah nh ch]
 replace HI0 := Zh (HI0.out.below hb)
 replace HM0 := Zh (HM0.out.below hb)
 replace HB0 := Zt HB0 hb
 have KS1 := Zh hk
 clear hb hk
 have c0 := Y.cs16 KS1.out
 obtain ⟨fw, hfw⟩ : ∃ b, (decide (nl <= 40) && decide (nh <= 40) && decide (np <= 6)) = b := ⟨_, rfl⟩
 have HFW := Zh hfw
 clear hfw
 go_enter Tryz.func4, Tryz.ntmps4
 go_wp2_with fail
 try rw [hw1]
 refine (zna w1).mono ?_
 clear c0
 rintro e w2 ⟨rfl, hb⟩
 replace HI0 := Zh (HI0.out.below hb)
 replace HM0 := Zh (HM0.out.below hb)
 replace KS1 := Zk KS1 hb
 replace HB0 := Zt HB0 hb
 clear hb
 have c0 := Y.cs16 KS1.out
 clear hw1
 go_wp2_with fail
 refine (zcx s ap np cp al nl cl ah nh ch fw HFW.out w2).mono ?_
 clear c0
 rintro e w3 ⟨rfl, hb⟩
 replace HI0 := Zh (HI0.out.below hb)
 replace HM0 := Zh (HM0.out.below hb)
 replace KS1 := Zk KS1 hb
 replace HB0 := Zt HB0 hb
 clear hb
 have c0 := Y.cs16 KS1.out
 cases fw with
 | false =>
  go_wp2
  go_ret
  exact ⟨rfl, HB0.out⟩
 | true =>
  have hfe := HFW.out
  simp only [Bool.and_eq_true, decide_eq_true_eq] at hfe
  obtain ⟨⟨hnl, hnh⟩, hnp⟩ := hfe
  have HFT : Hid (Y.Fits ⟨ap, np, cp, al, nl, cl, ah, nh, ch⟩ s) := Zh ⟨by show np <= 600; omega, by show nl <= 600; omega, by show nh <= 600; omega, HSM.out, hb, hc⟩
  by_cases hk0 : 600 < n
  ·have d0 : decide (600 < (n : Int)) = true := by simp; omega
   go_wp2
   go_ret
   exact ⟨rfl, HB0.out⟩
  have d0 : decide (600 < (n : Int)) = false := by simp; omega
  have hn6 : n <= 600 := by omega
  clear hk0
  have HST := Zh hst
  have HRD := Zh hrd
  clear hst hrd
  go_wp2_with fail
  refine (zm8 s ⟨ap, np, cp, al, nl, cl, ah, nh, ch⟩ now s false HST.out w3 HI0.out HFT.out).mono ?_
  clear c0
  rintro e w4 ⟨apd, npd, cpd, ald, nld, cld, ahd, nhd, chd, rfl, hG, hb⟩
  replace HI0 := Zh (HI0.out.below hb)
  replace HM0 := Zh (HM0.out.below hb)
  replace KS1 := Zk KS1 hb
  replace HB0 := Zt HB0 hb
  clear hb
  have HGd4 := hG
  have c0 := Y.cs16 KS1.out
  as_aux_lemma =>
  clear hG
  clear c0
  obtain ⟨w5, hw5, hb, hk⟩ := Zn w4 32 #[.int .i64 s.d.b, .int .i64 s.d.k, .int .i64 s.d.c, .int .i64 s.d.j, .int .i64 s.d.lo, .int .i64 s.d.hi, .int .i64 s.d.dy, .int .i64 s.d.bl, .int .i64 s.p.q, .int .i64 s.p.i, .int .i64 s.p.h, .bool s.p.pair, .int .i64 s.now, .slice apd npd cpd, .slice ald nld cld, .slice ahd nhd chd]
  replace HI0 := Zh (HI0.out.below hb)
  replace HM0 := Zh (HM0.out.below hb)
  replace KS1 := Zk KS1 hb
  replace HGd4 := Zh (HGd4.out.below hb)
  replace HB0 := Zt HB0 hb
  have KT5 := Zh hk
  clear hb hk
  obtain ⟨wz5, hz5⟩ : ∃ W, w4.alloc (.cells #[.int .i64 0, .int .i64 0, .int .i64 0, .int .i64 0, .int .i64 0, .int .i64 0, .int .i64 0, .int .i64 0, .int .i64 0, .int .i64 0, .int .i64 0, .bool false, .int .i64 0, .slice none 0 0, .slice none 0 0, .slice none 0 0] 32) = W := ⟨_, rfl⟩
  have HZK5 : Hid (Blok wz5 w4.heap.size 32 #[.int .i64 0, .int .i64 0, .int .i64 0, .int .i64 0, .int .i64 0, .int .i64 0, .int .i64 0, .int .i64 0, .int .i64 0, .int .i64 0, .int .i64 0, .bool false, .int .i64 0, .slice none 0 0, .slice none 0 0, .slice none 0 0]) := Zh (by rw [<- hz5]; exact Blok.new w4 _ _)
  have HPZ5 : Hid (wz5.setRow w4.heap.size #[.int .i64 s.d.b, .int .i64 s.d.k, .int .i64 s.d.c, .int .i64 s.d.j, .int .i64 s.d.lo, .int .i64 s.d.hi, .int .i64 s.d.dy, .int .i64 s.d.bl, .int .i64 s.p.q, .int .i64 s.p.i, .int .i64 s.p.h, .bool s.p.pair, .int .i64 s.now, .slice apd npd cpd, .slice ald nld cld, .slice ahd nhd chd] = w5) := Zh (by rw [<- hz5, World.setRow_alloc_new, hw5])
  clear hw5
  have HFD : Hid (Y.Fits ⟨apd, npd, cpd, ald, nld, cld, ahd, nhd, chd⟩ s) := Zh (J.fits_too HI0.out HGd4.out.i HFT.out)
  obtain ⟨bs, hbs⟩ : ∃ b, (J.put s).getD [] = b := ⟨_, rfl⟩
  obtain ⟨pv, hpv⟩ : ∃ b, (J.put s).isSome = b := ⟨_, rfl⟩
  obtain ⟨tx, htx⟩ : ∃ t, (J.read bs).getD J.s00 = t := ⟨_, rfl⟩
  obtain ⟨xv, hxv⟩ : ∃ b, (J.read bs).isSome = b := ⟨_, rfl⟩
  have HPT := Zh hbs
  have HPV := Zh hpv
  have HRT := Zh htx
  have HRV := Zh hxv
  clear hbs hpv htx hxv
  have hbl : bs.length <= 600 := by rw [<- HPT.out]; exact J.put_bd
  go_wp2_with (first | (with_reducible refine J.zx HZK5.out HPZ5.out ?_) | (with_reducible refine J.zl KT5.out Tryz.underlying32 ?_))
  refine (zno s ⟨apd, npd, cpd, ald, nld, cld, ahd, nhd, chd⟩ bs pv HPT.out HPV.out w5 HGd4.out.i HFD.out).mono ?_
  rintro e w6 ⟨pa, pc, rfl, hrow, hb, hz⟩
  replace HI0 := Zh (HI0.out.below hb)
  replace HM0 := Zh (HM0.out.below hb)
  replace KS1 := Zk KS1 hb
  replace HGd4 := Zh (HGd4.out.below hb)
  replace KT5 := Zk KT5 hb
  replace HB0 := Zt HB0 hb
  clear hb
  have HW6 := hrow
  as_aux_lemma =>
  have HNZ := Zh hz
  clear hz hrow
  go_wp2_with fail
  refine (znb tx xv pa bs.length pc bs HRT.out HRV.out w6 (by omega) rfl HW6.out HNZ.out).mono ?_
  rintro e w7 ⟨apx, npx, cpx, alx, nlx, clx, ahx, nhx, chx, rfl, hG, hb⟩
  replace HI0 := Zh (HI0.out.below hb)
  replace HM0 := Zh (HM0.out.below hb)
  replace KS1 := Zk KS1 hb
  replace HGd4 := Zh (HGd4.out.below hb)
  replace KT5 := Zk KT5 hb
  replace HW6 := Zh (HW6.out.below hb)
  replace HB0 := Zt HB0 hb
  clear hb
  have HGx7 := hG
  as_aux_lemma =>
  clear hG
  obtain ⟨w8, hw8, hb, hk⟩ := Zn w7 32 #[.int .i64 tx.d.b, .int .i64 tx.d.k, .int .i64 tx.d.c, .int .i64 tx.d.j, .int .i64 tx.d.lo, .int .i64 tx.d.hi, .int .i64 tx.d.dy, .int .i64 tx.d.bl, .int .i64 tx.p.q, .int .i64 tx.p.i, .int .i64 tx.p.h, .bool tx.p.pair, .int .i64 tx.now, .slice apx npx cpx, .slice alx nlx clx, .slice ahx nhx chx]
  replace HI0 := Zh (HI0.out.below hb)
  replace HM0 := Zh (HM0.out.below hb)
  replace KS1 := Zk KS1 hb
  replace HGd4 := Zh (HGd4.out.below hb)
  replace KT5 := Zk KT5 hb
  replace HW6 := Zh (HW6.out.below hb)
  replace HGx7 := Zh (HGx7.out.below hb)
  replace HB0 := Zt HB0 hb
  have KX8 := Zh hk
  clear hb hk
  obtain ⟨wz8, hz8⟩ : ∃ W, w7.alloc (.cells #[.int .i64 0, .int .i64 0, .int .i64 0, .int .i64 0, .int .i64 0, .int .i64 0, .int .i64 0, .int .i64 0, .int .i64 0, .int .i64 0, .int .i64 0, .bool false, .int .i64 0, .slice none 0 0, .slice none 0 0, .slice none 0 0] 32) = W := ⟨_, rfl⟩
  have HZK8 : Hid (Blok wz8 w7.heap.size 32 #[.int .i64 0, .int .i64 0, .int .i64 0, .int .i64 0, .int .i64 0, .int .i64 0, .int .i64 0, .int .i64 0, .int .i64 0, .int .i64 0, .int .i64 0, .bool false, .int .i64 0, .slice none 0 0, .slice none 0 0, .slice none 0 0]) := Zh (by rw [<- hz8]; exact Blok.new w7 _ _)
  have HPZ8 : Hid (wz8.setRow w7.heap.size #[.int .i64 tx.d.b, .int .i64 tx.d.k, .int .i64 tx.d.c, .int .i64 tx.d.j, .int .i64 tx.d.lo, .int .i64 tx.d.hi, .int .i64 tx.d.dy, .int .i64 tx.d.bl, .int .i64 tx.p.q, .int .i64 tx.p.i, .int .i64 tx.p.h, .bool tx.p.pair, .int .i64 tx.now, .slice apx npx cpx, .slice alx nlx clx, .slice ahx nhx chx] = w8) := Zh (by rw [<- hz8, World.setRow_alloc_new, hw8])
  clear hw8
  have HPY : Hid (J.put J.s00 = J.put J.s00) := Zh rfl
  go_wp2_with (with_reducible refine J.zx HZK8.out HPZ8.out ?_)
  refine (znb J.s00 false a n c m (by rw [HRD.out]; rfl) (by rw [HRD.out]; rfl) w8 (by omega) HML.out HM0.out HMN.out).mono ?_
  rintro e w9 ⟨apy, npy, cpy, aly, nly, cly, ahy, nhy, chy, rfl, hG, hb⟩
  replace HI0 := Zh (HI0.out.below hb)
  replace HM0 := Zh (HM0.out.below hb)
  replace KS1 := Zk KS1 hb
  replace HGd4 := Zh (HGd4.out.below hb)
  replace KT5 := Zk KT5 hb
  replace HW6 := Zh (HW6.out.below hb)
  replace HGx7 := Zh (HGx7.out.below hb)
  replace KX8 := Zk KX8 hb
  replace HB0 := Zt HB0 hb
  clear hb
  have HGy9 := hG
  as_aux_lemma =>
  clear hG
  obtain ⟨w10, hw10, hb, hk⟩ := Zn w9 32 #[.int .i64 J.s00.d.b, .int .i64 J.s00.d.k, .int .i64 J.s00.d.c, .int .i64 J.s00.d.j, .int .i64 J.s00.d.lo, .int .i64 J.s00.d.hi, .int .i64 J.s00.d.dy, .int .i64 J.s00.d.bl, .int .i64 J.s00.p.q, .int .i64 J.s00.p.i, .int .i64 J.s00.p.h, .bool J.s00.p.pair, .int .i64 J.s00.now, .slice apy npy cpy, .slice aly nly cly, .slice ahy nhy chy]
  replace HI0 := Zh (HI0.out.below hb)
  replace HM0 := Zh (HM0.out.below hb)
  replace KS1 := Zk KS1 hb
  replace HGd4 := Zh (HGd4.out.below hb)
  replace KT5 := Zk KT5 hb
  replace HW6 := Zh (HW6.out.below hb)
  replace HGx7 := Zh (HGx7.out.below hb)
  replace KX8 := Zk KX8 hb
  replace HGy9 := Zh (HGy9.out.below hb)
  replace HB0 := Zt HB0 hb
  have KY10 := Zh hk
  clear hb hk
  obtain ⟨wz10, hz10⟩ : ∃ W, w9.alloc (.cells #[.int .i64 0, .int .i64 0, .int .i64 0, .int .i64 0, .int .i64 0, .int .i64 0, .int .i64 0, .int .i64 0, .int .i64 0, .int .i64 0, .int .i64 0, .bool false, .int .i64 0, .slice none 0 0, .slice none 0 0, .slice none 0 0] 32) = W := ⟨_, rfl⟩
  have HZK10 : Hid (Blok wz10 w9.heap.size 32 #[.int .i64 0, .int .i64 0, .int .i64 0, .int .i64 0, .int .i64 0, .int .i64 0, .int .i64 0, .int .i64 0, .int .i64 0, .int .i64 0, .int .i64 0, .bool false, .int .i64 0, .slice none 0 0, .slice none 0 0, .slice none 0 0]) := Zh (by rw [<- hz10]; exact Blok.new w9 _ _)
  have HPZ10 : Hid (wz10.setRow w9.heap.size #[.int .i64 J.s00.d.b, .int .i64 J.s00.d.k, .int .i64 J.s00.d.c, .int .i64 J.s00.d.j, .int .i64 J.s00.d.lo, .int .i64 J.s00.d.hi, .int .i64 J.s00.d.dy, .int .i64 J.s00.d.bl, .int .i64 J.s00.p.q, .int .i64 J.s00.p.i, .int .i64 J.s00.p.h, .bool J.s00.p.pair, .int .i64 J.s00.now, .slice apy npy cpy, .slice aly nly cly, .slice ahy nhy chy] = w10) := Zh (by rw [<- hz10, World.setRow_alloc_new, hw10])
  clear hw10
  have HFY : Hid (Y.Fits ⟨apy, npy, cpy, aly, nly, cly, ahy, nhy, chy⟩ J.s00) := Zh (zny (L := m) (by rw [HRD.out]; rfl) HGy9.out.i)
  obtain ⟨qs, hqs⟩ : ∃ b, (J.put J.s00).getD [] = b := ⟨_, rfl⟩
  obtain ⟨qv, hqv⟩ : ∃ b, (J.put J.s00).isSome = b := ⟨_, rfl⟩
  have HQS := Zh hqs
  have HQV := Zh hqv
  clear hqs hqv
  go_wp2_with (first | (with_reducible refine J.zx HZK10.out HPZ10.out ?_) | (with_reducible refine J.zl KY10.out Tryz.underlying32 ?_))
  refine (zno J.s00 ⟨apy, npy, cpy, aly, nly, cly, ahy, nhy, chy⟩ qs qv HQS.out HQV.out w10 HGy9.out.i HFY.out).mono ?_
  rintro e w11 ⟨qa, qc, rfl, hrow, hb, hz⟩
  replace HI0 := Zh (HI0.out.below hb)
  replace HM0 := Zh (HM0.out.below hb)
  replace KS1 := Zk KS1 hb
  replace HGd4 := Zh (HGd4.out.below hb)
  replace KT5 := Zk KT5 hb
  replace HW6 := Zh (HW6.out.below hb)
  replace HGx7 := Zh (HGx7.out.below hb)
  replace KX8 := Zk KX8 hb
  replace HGy9 := Zh (HGy9.out.below hb)
  replace KY10 := Zk KY10 hb
  replace HB0 := Zt HB0 hb
  clear hb
  have HQ11 := hrow
  as_aux_lemma =>
  clear hz hrow
  go_wp2
  go_ret
  exact ⟨rfl, HB0.out⟩
theorem zp4 (s : Y.St) (ap : Option Addr) (np cp : Nat) (al : Option Addr) (nl cl : Nat) (ah : Option Addr) (nh ch : Nat) (now : Int) (a : Option Addr) (n c : Nat) (m : List Int) (w : World) (h : Y.SIn w ⟨ap, np, cp, al, nl, cl, ah, nh, ch⟩ s) (sm : O.Sm s.ps) (hb : s.d.b <= 9223372036854775807) (hc : s.d.c <= 9223372036854775807) (hml : m.length = n) (hm : zfv .u8 w a c m) (hmn : a = none -> n = 0 /\ c = 0) (hst : J.settle s now = (s, false)) (y : Y.St) (hrd : J.read m = some y) :
  Calls Tryz.prog 4 #[.agg #[.int .i64 s.d.b, .int .i64 s.d.k, .int .i64 s.d.c, .int .i64 s.d.j, .int .i64 s.d.lo, .int .i64 s.d.hi, .int .i64 s.d.dy, .int .i64 s.d.bl, .int .i64 s.p.q, .int .i64 s.p.i, .int .i64 s.p.h, .bool s.p.pair, .int .i64 s.now, .slice ap np cp, .slice al nl cl, .slice ah nh ch], .int .i64 now, .slice a n c] w fun e w' => e = .returned (.bool true) /\ Below w.heap.size w w' := by
 have HB0 := Zh (Below.refl w.heap.size w)
 have HI0 := Zh (h)
 have HM0 := Zh (hm)
 have HSM := Zh sm
 have HML := Zh hml
 have HMN := Zh hmn
 clear h sm hml hmn hm
 obtain ⟨w1, hw1, hb, hk⟩ := Zn w 32 #[.int .i64 s.d.b, .int .i64 s.d.k, .int .i64 s.d.c, .int .i64 s.d.j, .int .i64 s.d.lo, .int .i64 s.d.hi, .int .i64 s.d.dy, .int .i64 s.d.bl, .int .i64 s.p.q, .int .i64 s.p.i, .int .i64 s.p.h, .bool s.p.pair, .int .i64 s.now, .slice ap np cp, .slice al nl cl, .slice ah nh ch]
 replace HI0 := Zh (HI0.out.below hb)
 replace HM0 := Zh (HM0.out.below hb)
 replace HB0 := Zt HB0 hb
 have KS1 := Zh hk
 clear hb hk
 have c0 := Y.cs16 KS1.out
 obtain ⟨fw, hfw⟩ : ∃ b, (decide (nl <= 40) && decide (nh <= 40) && decide (np <= 6)) = b := ⟨_, rfl⟩
 have HFW := Zh hfw
 clear hfw
 go_enter Tryz.func4, Tryz.ntmps4
 go_wp2_with fail
 try rw [hw1]
 refine (zna w1).mono ?_
 clear c0
 rintro e w2 ⟨rfl, hb⟩
 replace HI0 := Zh (HI0.out.below hb)
 replace HM0 := Zh (HM0.out.below hb)
 replace KS1 := Zk KS1 hb
 replace HB0 := Zt HB0 hb
 clear hb
 have c0 := Y.cs16 KS1.out
 clear hw1
 go_wp2_with fail
 refine (zcx s ap np cp al nl cl ah nh ch fw HFW.out w2).mono ?_
 clear c0
 rintro e w3 ⟨rfl, hb⟩
 replace HI0 := Zh (HI0.out.below hb)
 replace HM0 := Zh (HM0.out.below hb)
 replace KS1 := Zk KS1 hb
 replace HB0 := Zt HB0 hb
 clear hb
 have c0 := Y.cs16 KS1.out
 cases fw with
 | false =>
  go_wp2
  go_ret
  exact ⟨rfl, HB0.out⟩
 | true =>
  have hfe := HFW.out
  simp only [Bool.and_eq_true, decide_eq_true_eq] at hfe
  obtain ⟨⟨hnl, hnh⟩, hnp⟩ := hfe
  have HFT : Hid (Y.Fits ⟨ap, np, cp, al, nl, cl, ah, nh, ch⟩ s) := Zh ⟨by show np <= 600; omega, by show nl <= 600; omega, by show nh <= 600; omega, HSM.out, hb, hc⟩
  by_cases hk0 : 600 < n
  ·have d0 : decide (600 < (n : Int)) = true := by simp; omega
   go_wp2
   go_ret
   exact ⟨rfl, HB0.out⟩
  have d0 : decide (600 < (n : Int)) = false := by simp; omega
  have hn6 : n <= 600 := by omega
  clear hk0
  have HST := Zh hst
  have HRD := Zh hrd
  clear hst hrd
  go_wp2_with fail
  refine (zm8 s ⟨ap, np, cp, al, nl, cl, ah, nh, ch⟩ now s false HST.out w3 HI0.out HFT.out).mono ?_
  clear c0
  rintro e w4 ⟨apd, npd, cpd, ald, nld, cld, ahd, nhd, chd, rfl, hG, hb⟩
  replace HI0 := Zh (HI0.out.below hb)
  replace HM0 := Zh (HM0.out.below hb)
  replace KS1 := Zk KS1 hb
  replace HB0 := Zt HB0 hb
  clear hb
  have HGd4 := hG
  have c0 := Y.cs16 KS1.out
  as_aux_lemma =>
  clear hG
  clear c0
  obtain ⟨w5, hw5, hb, hk⟩ := Zn w4 32 #[.int .i64 s.d.b, .int .i64 s.d.k, .int .i64 s.d.c, .int .i64 s.d.j, .int .i64 s.d.lo, .int .i64 s.d.hi, .int .i64 s.d.dy, .int .i64 s.d.bl, .int .i64 s.p.q, .int .i64 s.p.i, .int .i64 s.p.h, .bool s.p.pair, .int .i64 s.now, .slice apd npd cpd, .slice ald nld cld, .slice ahd nhd chd]
  replace HI0 := Zh (HI0.out.below hb)
  replace HM0 := Zh (HM0.out.below hb)
  replace KS1 := Zk KS1 hb
  replace HGd4 := Zh (HGd4.out.below hb)
  replace HB0 := Zt HB0 hb
  have KT5 := Zh hk
  clear hb hk
  obtain ⟨wz5, hz5⟩ : ∃ W, w4.alloc (.cells #[.int .i64 0, .int .i64 0, .int .i64 0, .int .i64 0, .int .i64 0, .int .i64 0, .int .i64 0, .int .i64 0, .int .i64 0, .int .i64 0, .int .i64 0, .bool false, .int .i64 0, .slice none 0 0, .slice none 0 0, .slice none 0 0] 32) = W := ⟨_, rfl⟩
  have HZK5 : Hid (Blok wz5 w4.heap.size 32 #[.int .i64 0, .int .i64 0, .int .i64 0, .int .i64 0, .int .i64 0, .int .i64 0, .int .i64 0, .int .i64 0, .int .i64 0, .int .i64 0, .int .i64 0, .bool false, .int .i64 0, .slice none 0 0, .slice none 0 0, .slice none 0 0]) := Zh (by rw [<- hz5]; exact Blok.new w4 _ _)
  have HPZ5 : Hid (wz5.setRow w4.heap.size #[.int .i64 s.d.b, .int .i64 s.d.k, .int .i64 s.d.c, .int .i64 s.d.j, .int .i64 s.d.lo, .int .i64 s.d.hi, .int .i64 s.d.dy, .int .i64 s.d.bl, .int .i64 s.p.q, .int .i64 s.p.i, .int .i64 s.p.h, .bool s.p.pair, .int .i64 s.now, .slice apd npd cpd, .slice ald nld cld, .slice ahd nhd chd] = w5) := Zh (by rw [<- hz5, World.setRow_alloc_new, hw5])
  clear hw5
  have HFD : Hid (Y.Fits ⟨apd, npd, cpd, ald, nld, cld, ahd, nhd, chd⟩ s) := Zh (J.fits_too HI0.out HGd4.out.i HFT.out)
  obtain ⟨bs, hbs⟩ : ∃ b, (J.put s).getD [] = b := ⟨_, rfl⟩
  obtain ⟨pv, hpv⟩ : ∃ b, (J.put s).isSome = b := ⟨_, rfl⟩
  obtain ⟨tx, htx⟩ : ∃ t, (J.read bs).getD J.s00 = t := ⟨_, rfl⟩
  obtain ⟨xv, hxv⟩ : ∃ b, (J.read bs).isSome = b := ⟨_, rfl⟩
  have HPT := Zh hbs
  have HPV := Zh hpv
  have HRT := Zh htx
  have HRV := Zh hxv
  clear hbs hpv htx hxv
  have hbl : bs.length <= 600 := by rw [<- HPT.out]; exact J.put_bd
  go_wp2_with (first | (with_reducible refine J.zx HZK5.out HPZ5.out ?_) | (with_reducible refine J.zl KT5.out Tryz.underlying32 ?_))
  refine (zno s ⟨apd, npd, cpd, ald, nld, cld, ahd, nhd, chd⟩ bs pv HPT.out HPV.out w5 HGd4.out.i HFD.out).mono ?_
  rintro e w6 ⟨pa, pc, rfl, hrow, hb, hz⟩
  replace HI0 := Zh (HI0.out.below hb)
  replace HM0 := Zh (HM0.out.below hb)
  replace KS1 := Zk KS1 hb
  replace HGd4 := Zh (HGd4.out.below hb)
  replace KT5 := Zk KT5 hb
  replace HB0 := Zt HB0 hb
  clear hb
  have HW6 := hrow
  as_aux_lemma =>
  have HNZ := Zh hz
  clear hz hrow
  go_wp2_with fail
  refine (znb tx xv pa bs.length pc bs HRT.out HRV.out w6 (by omega) rfl HW6.out HNZ.out).mono ?_
  rintro e w7 ⟨apx, npx, cpx, alx, nlx, clx, ahx, nhx, chx, rfl, hG, hb⟩
  replace HI0 := Zh (HI0.out.below hb)
  replace HM0 := Zh (HM0.out.below hb)
  replace KS1 := Zk KS1 hb
  replace HGd4 := Zh (HGd4.out.below hb)
  replace KT5 := Zk KT5 hb
  replace HW6 := Zh (HW6.out.below hb)
  replace HB0 := Zt HB0 hb
  clear hb
  have HGx7 := hG
  as_aux_lemma =>
  clear hG
  obtain ⟨w8, hw8, hb, hk⟩ := Zn w7 32 #[.int .i64 tx.d.b, .int .i64 tx.d.k, .int .i64 tx.d.c, .int .i64 tx.d.j, .int .i64 tx.d.lo, .int .i64 tx.d.hi, .int .i64 tx.d.dy, .int .i64 tx.d.bl, .int .i64 tx.p.q, .int .i64 tx.p.i, .int .i64 tx.p.h, .bool tx.p.pair, .int .i64 tx.now, .slice apx npx cpx, .slice alx nlx clx, .slice ahx nhx chx]
  replace HI0 := Zh (HI0.out.below hb)
  replace HM0 := Zh (HM0.out.below hb)
  replace KS1 := Zk KS1 hb
  replace HGd4 := Zh (HGd4.out.below hb)
  replace KT5 := Zk KT5 hb
  replace HW6 := Zh (HW6.out.below hb)
  replace HGx7 := Zh (HGx7.out.below hb)
  replace HB0 := Zt HB0 hb
  have KX8 := Zh hk
  clear hb hk
  obtain ⟨wz8, hz8⟩ : ∃ W, w7.alloc (.cells #[.int .i64 0, .int .i64 0, .int .i64 0, .int .i64 0, .int .i64 0, .int .i64 0, .int .i64 0, .int .i64 0, .int .i64 0, .int .i64 0, .int .i64 0, .bool false, .int .i64 0, .slice none 0 0, .slice none 0 0, .slice none 0 0] 32) = W := ⟨_, rfl⟩
  have HZK8 : Hid (Blok wz8 w7.heap.size 32 #[.int .i64 0, .int .i64 0, .int .i64 0, .int .i64 0, .int .i64 0, .int .i64 0, .int .i64 0, .int .i64 0, .int .i64 0, .int .i64 0, .int .i64 0, .bool false, .int .i64 0, .slice none 0 0, .slice none 0 0, .slice none 0 0]) := Zh (by rw [<- hz8]; exact Blok.new w7 _ _)
  have HPZ8 : Hid (wz8.setRow w7.heap.size #[.int .i64 tx.d.b, .int .i64 tx.d.k, .int .i64 tx.d.c, .int .i64 tx.d.j, .int .i64 tx.d.lo, .int .i64 tx.d.hi, .int .i64 tx.d.dy, .int .i64 tx.d.bl, .int .i64 tx.p.q, .int .i64 tx.p.i, .int .i64 tx.p.h, .bool tx.p.pair, .int .i64 tx.now, .slice apx npx cpx, .slice alx nlx clx, .slice ahx nhx chx] = w8) := Zh (by rw [<- hz8, World.setRow_alloc_new, hw8])
  clear hw8
  have HPY : Hid (J.put y = some m) := Zh (J.read_some.1 HRD.out)
  have HMY : Hid (Y.May y) := Zh (J.zc7.1 HPY.out).1.1
  go_wp2_with (with_reducible refine J.zx HZK8.out HPZ8.out ?_)
  refine (znb y true a n c m (by rw [HRD.out]; rfl) (by rw [HRD.out]; rfl) w8 (by omega) HML.out HM0.out HMN.out).mono ?_
  rintro e w9 ⟨apy, npy, cpy, aly, nly, cly, ahy, nhy, chy, rfl, hG, hb⟩
  replace HI0 := Zh (HI0.out.below hb)
  replace HM0 := Zh (HM0.out.below hb)
  replace KS1 := Zk KS1 hb
  replace HGd4 := Zh (HGd4.out.below hb)
  replace KT5 := Zk KT5 hb
  replace HW6 := Zh (HW6.out.below hb)
  replace HGx7 := Zh (HGx7.out.below hb)
  replace KX8 := Zk KX8 hb
  replace HB0 := Zt HB0 hb
  clear hb
  have HGy9 := hG
  as_aux_lemma =>
  clear hG
  obtain ⟨w10, hw10, hb, hk⟩ := Zn w9 32 #[.int .i64 y.d.b, .int .i64 y.d.k, .int .i64 y.d.c, .int .i64 y.d.j, .int .i64 y.d.lo, .int .i64 y.d.hi, .int .i64 y.d.dy, .int .i64 y.d.bl, .int .i64 y.p.q, .int .i64 y.p.i, .int .i64 y.p.h, .bool y.p.pair, .int .i64 y.now, .slice apy npy cpy, .slice aly nly cly, .slice ahy nhy chy]
  replace HI0 := Zh (HI0.out.below hb)
  replace HM0 := Zh (HM0.out.below hb)
  replace KS1 := Zk KS1 hb
  replace HGd4 := Zh (HGd4.out.below hb)
  replace KT5 := Zk KT5 hb
  replace HW6 := Zh (HW6.out.below hb)
  replace HGx7 := Zh (HGx7.out.below hb)
  replace KX8 := Zk KX8 hb
  replace HGy9 := Zh (HGy9.out.below hb)
  replace HB0 := Zt HB0 hb
  have KY10 := Zh hk
  clear hb hk
  obtain ⟨wz10, hz10⟩ : ∃ W, w9.alloc (.cells #[.int .i64 0, .int .i64 0, .int .i64 0, .int .i64 0, .int .i64 0, .int .i64 0, .int .i64 0, .int .i64 0, .int .i64 0, .int .i64 0, .int .i64 0, .bool false, .int .i64 0, .slice none 0 0, .slice none 0 0, .slice none 0 0] 32) = W := ⟨_, rfl⟩
  have HZK10 : Hid (Blok wz10 w9.heap.size 32 #[.int .i64 0, .int .i64 0, .int .i64 0, .int .i64 0, .int .i64 0, .int .i64 0, .int .i64 0, .int .i64 0, .int .i64 0, .int .i64 0, .int .i64 0, .bool false, .int .i64 0, .slice none 0 0, .slice none 0 0, .slice none 0 0]) := Zh (by rw [<- hz10]; exact Blok.new w9 _ _)
  have HPZ10 : Hid (wz10.setRow w9.heap.size #[.int .i64 y.d.b, .int .i64 y.d.k, .int .i64 y.d.c, .int .i64 y.d.j, .int .i64 y.d.lo, .int .i64 y.d.hi, .int .i64 y.d.dy, .int .i64 y.d.bl, .int .i64 y.p.q, .int .i64 y.p.i, .int .i64 y.p.h, .bool y.p.pair, .int .i64 y.now, .slice apy npy cpy, .slice aly nly cly, .slice ahy nhy chy] = w10) := Zh (by rw [<- hz10, World.setRow_alloc_new, hw10])
  clear hw10
  have HFY : Hid (Y.Fits ⟨apy, npy, cpy, aly, nly, cly, ahy, nhy, chy⟩ y) := Zh (zny (L := m) (by rw [HRD.out]; rfl) HGy9.out.i)
  go_wp2_with (first | (with_reducible refine J.zx HZK10.out HPZ10.out ?_) | (with_reducible refine J.zl KY10.out Tryz.underlying32 ?_))
  refine (znw y ⟨apy, npy, cpy, aly, nly, cly, ahy, nhy, chy⟩ m HPY.out w10 HGy9.out.i HFY.out).mono ?_
  rintro e w11 ⟨qa, qc, rfl, hrow, hb, hz⟩
  replace HI0 := Zh (HI0.out.below hb)
  replace HM0 := Zh (HM0.out.below hb)
  replace KS1 := Zk KS1 hb
  replace HGd4 := Zh (HGd4.out.below hb)
  replace KT5 := Zk KT5 hb
  replace HW6 := Zh (HW6.out.below hb)
  replace HGx7 := Zh (HGx7.out.below hb)
  replace KX8 := Zk KX8 hb
  replace HGy9 := Zh (HGy9.out.below hb)
  replace KY10 := Zk KY10 hb
  replace HB0 := Zt HB0 hb
  clear hb
  have HQ11 := hrow
  as_aux_lemma =>
  clear hz hrow
  have c0 := Y.cs16 KY10.out
  go_wp2_with fail
  refine (zbj y ⟨apy, npy, cpy, aly, nly, cly, ahy, nhy, chy⟩ true (decide_eq_true HMY.out) w11 HGy9.out.i HFY.out).mono ?_
  clear c0
  rintro e w12 ⟨rfl, hb⟩
  replace HI0 := Zh (HI0.out.below hb)
  replace HM0 := Zh (HM0.out.below hb)
  replace KS1 := Zk KS1 hb
  replace HGd4 := Zh (HGd4.out.below hb)
  replace KT5 := Zk KT5 hb
  replace HW6 := Zh (HW6.out.below hb)
  replace HGx7 := Zh (HGx7.out.below hb)
  replace KX8 := Zk KX8 hb
  replace HGy9 := Zh (HGy9.out.below hb)
  replace KY10 := Zk KY10 hb
  replace HQ11 := Zh (HQ11.out.below hb)
  replace HB0 := Zt HB0 hb
  clear hb
  have c0 := Y.cs16 KY10.out
  as_aux_lemma =>
  clear c0
  have p1 := znu HQ11.out rfl
  have p2 := znu HM0.out HML.out
  obtain ⟨sb, hsb⟩ : ∃ z, zrg m = z := ⟨_, rfl⟩
  rw [hsb] at p1 p2
  clear hsb
  have q1 : (sb.toList == sb.toList) = true := beq_self_eq_true _
  go_wp2
  go_ret
  exact ⟨rfl, HB0.out⟩
end Go.Proofs.YtijkbflimbffmaaGreat
