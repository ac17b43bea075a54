import Derived.Test.YtonejangijkdmaaGreatYWK
namespace Go.Proofs.YtonejangijkdmaaGreat
set_option maxHeartbeats 1000000
set_option maxRecDepth 100000
open Go.RowKit
theorem Y.twice_is {s t u v : Y.St} {fi ti : Int} {ev1 ev2 ev3 : List Y.Ev} {er3 x1 x2 x3 z1 z2 z3 : Int} (hm : Y.May s)
  (h1 : Y.step s ⟨3, 0, 0, 0, ti, ⟨0, 0, 0, false⟩⟩ = (t, ev1, 0, x1, z1)) (h2 : Y.step s ⟨3, 0, 0, 0, fi, ⟨0, 0, 0, false⟩⟩ = (u, ev2, 0, x2, z2)) (h3 : Y.step u ⟨3, 0, 0, 0, ti, ⟨0, 0, 0, false⟩⟩ = (v, ev3, er3, x3, z3)) (hf : fi <= ti) :
  ev1 = ev2 ++ ev3 /\ t = v /\ er3 = 0 /\ x1 = (ev1.length : Int) /\ x2 = (ev2.length : Int) /\ x3 = (ev3.length : Int) /\ ev1.length <= 33 := by
 have hu := (Y.step_yes (s := s) (r := ⟨3, 0, 0, 0, fi, ⟨0, 0, 0, false⟩⟩) (by rw [h2])).2.1
 rw [h2] at hu
 have hl := Y.step_evlen s ⟨3, 0, 0, 0, ti, ⟨0, 0, 0, false⟩⟩
 rw [h1] at hl
 rw [Y.step_tick hm rfl] at h1 h2
 rw [Y.step_tick hu rfl] at h3
 have i1 := Y.tick_in (s := s) (n := ti) (by rw [h1])
 have i2 := Y.tick_in (s := s) (n := fi) (by rw [h2])
 obtain ⟨q1, q2⟩ := Y.tick_twice (s := s) (n := fi) (m := ti) hm i2.1 hf i1.2
 have e2 := Y.tick_ok i2
 rw [h2] at e2
 obtain rfl : u = Y.after s fi := congrArg (·.1) e2
 rw [h1, h2, h3] at q1
 rw [h3] at q2
 have e1 := Y.tick_ok i1
 rw [h1] at e1
 have e3 := Y.tick_ok (s := Y.after s fi) (n := ti) ⟨by rw [(Y.after_keep s fi).2.2.1]; exact hf, i1.2⟩
 rw [h3] at e3
 simp only [Prod.mk.injEq] at q1 q2 e1 e2 e3
 refine ⟨q1.2.1, q1.1, q2, ?_, ?_, ?_, hl⟩
 ·rw [e1.2.2.2.1, e1.2.1]
 ·rw [e2.2.2.2.1, e2.2.1]
 ·rw [e3.2.2.2.1, e3.2.1]
theorem AllocTwice_in (s : Y.St) (ap : Option Addr) (np cp : Nat) (al : Option Addr) (nl cl : Nat) (ah : Option Addr) (nh ch : Nat) (fi ti : Int) (w : World) (h : Y.SIn w ⟨ap, np, cp, al, nl, cl, ah, nh, ch⟩ s) (sm : O.Sm s.ps) (hb : s.d.b <= 9223372036854775807) (hc : s.d.c <= 9223372036854775807) :
  Calls Tryz.prog 8 #[.agg #[.int .i64 s.d.b, .int .i64 s.d.k, .int .i64 s.d.c, .int .i64 s.d.j, .int .i64 s.d.lo, .int .i64 s.d.hi, .int .i64 s.d.dy, .int .i64 s.d.bl, .int .i64 s.p.q, .int .i64 s.p.i, .int .i64 s.p.h, .bool s.p.pair, .int .i64 s.now, .slice ap np cp, .slice al nl cl, .slice ah nh ch], .int .i64 fi, .int .i64 ti] w fun e w' => e = .returned (.bool true) /\ Below w.heap.size w w' := by
 have HB0 := Zh (Below.refl w.heap.size w)
 have HI0 := Zh (h)
 have HSM := Zh sm
 clear h sm
 obtain ⟨w1, hw1, hb, hk⟩ := Zn w 32 #[.int .i64 s.d.b, .int .i64 s.d.k, .int .i64 s.d.c, .int .i64 s.d.j, .int .i64 s.d.lo, .int .i64 s.d.hi, .int .i64 s.d.dy, .int .i64 s.d.bl, .int .i64 s.p.q, .int .i64 s.p.i, .int .i64 s.p.h, .bool s.p.pair, .int .i64 s.now, .slice ap np cp, .slice al nl cl, .slice ah nh ch]
 replace HI0 := Zh (HI0.out.below hb)
 have HB1 := Zt HB0 hb
 have KS1 := Zh hk
 clear hb hk HB0
 have c0 := Y.cs16 KS1.out
 obtain ⟨fw, hfw⟩ : ∃ b, (decide (nl <= 40) && decide (nh <= 40) && decide (np <= 6)) = b := ⟨_, rfl⟩
 have HFW := Zh hfw
 clear hfw
 go_enter Tryz.func8, Tryz.ntmps8
 go_wp2_with fail
 try rw [hw1]
 refine (zb0 w1).mono ?_
 clear c0
 rintro e w2 ⟨rfl, hb⟩
 replace HI0 := Zh (HI0.out.below hb)
 have KS2 := Zk KS1 hb
 have HB2 := Zt HB1 hb
 clear hb KS1 HB1
 have c0 := Y.cs16 KS2.out
 clear hw1
 go_wp2_with fail
 refine (zcx s ap np cp al nl cl ah nh ch fw HFW.out w2).mono ?_
 clear c0
 rintro e w3 ⟨rfl, hb⟩
 replace HI0 := Zh (HI0.out.below hb)
 have KS3 := Zk KS2 hb
 have HB3 := Zt HB2 hb
 clear hb KS2 HB2
 have c0 := Y.cs16 KS3.out
 cases fw with
 | false =>
  go_wp2
  go_ret
  exact ⟨rfl, HB3.out⟩
 | true =>
  have hfe := HFW.out
  simp only [Bool.and_eq_true, decide_eq_true_eq] at hfe
  obtain ⟨⟨hnl, hnh⟩, hnp⟩ := hfe
  have HFT : Hid (Y.Fits ⟨ap, np, cp, al, nl, cl, ah, nh, ch⟩ s) := Zh ⟨by show np <= 600; omega, by show nl <= 600; omega, by show nh <= 600; omega, HSM.out, hb, hc⟩
  by_cases g1 : ti < fi
  ·have d1_0 : decide (fi > ti) = true := decide_eq_true (by omega)
   have d1_1 : decide (ti < fi) = true := decide_eq_true (by omega)
   go_wp2
   go_ret
   exact ⟨rfl, HB3.out⟩
  have d1_0 : decide (fi > ti) = false := decide_eq_false (by omega)
  have d1_1 : decide (ti < fi) = false := decide_eq_false (by omega)
  obtain ⟨⟨t, ev1, er1, x1, z1⟩, hst⟩ : ∃ q, Y.step s ⟨3, 0, 0, 0, ti, ⟨0, 0, 0, false⟩⟩ = q := ⟨_, rfl⟩
  have HS1 := Zh hst
  clear hst
  obtain ⟨n1, hne⟩ : ∃ n, ev1.length = n := ⟨_, rfl⟩
  have HN1 := Zh hne
  clear hne
  obtain ⟨⟨u, ev2, er2, x2, z2⟩, hst⟩ : ∃ q, Y.step s ⟨3, 0, 0, 0, fi, ⟨0, 0, 0, false⟩⟩ = q := ⟨_, rfl⟩
  have HS2 := Zh hst
  clear hst
  obtain ⟨n2, hne⟩ : ∃ n, ev2.length = n := ⟨_, rfl⟩
  have HN2 := Zh hne
  clear hne
  obtain ⟨⟨v, ev3, er3, x3, z3⟩, hst⟩ : ∃ q, Y.step u ⟨3, 0, 0, 0, ti, ⟨0, 0, 0, false⟩⟩ = q := ⟨_, rfl⟩
  have HS3 := Zh hst
  clear hst
  obtain ⟨n3, hne⟩ : ∃ n, ev3.length = n := ⟨_, rfl⟩
  have HN3 := Zh hne
  clear hne
  go_wp2_with (first | (refine zak KS3.out rfl rfl (by kernel_rfl) Tryz.underlying32 rfl (by kernel_rfl) ?_))
  refine (zca s ap np cp al nl cl ah nh ch ⟨3, 0, 0, 0, ti, ⟨0, 0, 0, false⟩⟩ t ev1 er1 x1 z1 n1 HS1.out HN1.out w3 HI0.out HFT.out (fun h => by cases h)).mono ?_
  clear c0
  rintro e w4 ⟨apa, npa, cpa, ala, nla, cla, aha, nha, cha, eaa, eca, rfl, hi, hv, hf2, hu, he, hb⟩
  replace HI0 := Zh (HI0.out.below hb)
  have KS4 := Zk KS3 hb
  have HB4 := Zt HB3 hb
  clear hb KS3 HB3
  have HTa4 := hi
  have HVa4 := hv
  have c0 := Y.cs16 KS4.out
  have HFa := hf2
  have HUa := hu
  have HEa := he
  clear hi hv hf2 hu he
  clear c0
  obtain ⟨w5, he5⟩ : ∃ W, w4.alloc (.cells #[.int .i64 0, .int .i64 0, .int .i64 0, .int .i64 0, .int .i64 0, .int .i64 0, .int .i64 0, .int .i64 0, .int .i64 0, .int .i64 0, .int .i64 0, .bool false, .int .i64 0, .slice none 0 0, .slice none 0 0, .slice none 0 0] 32) = W := ⟨_, rfl⟩
  obtain ⟨w6, he6⟩ : ∃ W, w5.alloc (.cells #[.int .i64 0, .int .i64 0, .int .i64 0] 40) = W := ⟨_, rfl⟩
  obtain ⟨w7, hp7⟩ : ∃ W, w6.setRow w4.heap.size #[.int .i64 t.d.b, .int .i64 t.d.k, .int .i64 t.d.c, .int .i64 t.d.j, .int .i64 t.d.lo, .int .i64 t.d.hi, .int .i64 t.d.dy, .int .i64 t.d.bl, .int .i64 t.p.q, .int .i64 t.p.i, .int .i64 t.p.h, .bool t.p.pair, .int .i64 t.now, .slice apa npa cpa, .slice ala nla cla, .slice aha nha cha] = W := ⟨_, rfl⟩
  obtain ⟨w8, hp8⟩ : ∃ W, w7.setRow w5.heap.size #[.int .i64 er1, .int .i64 x1, .int .i64 z1] = W := ⟨_, rfl⟩
  obtain ⟨kz1, kz2, kt, ka, hb, hsz⟩ := box2 he5 he6 hp7 hp8
  have HZ1 := Zh kz1
  have HZ2 := Zh kz2
  have HP1 := Zh hp7
  have HP2 := Zh hp8
  have HSZ8 := Zh hsz
  clear hsz
  replace HI0 := Zh (HI0.out.below hb)
  have KS8 := Zk KS4 hb
  have HTa8 := Zh (HTa4.out.below hb)
  have HVa8 := Zh (HVa4.out.below hb)
  have HB8 := Zt HB4 hb
  have KA8 := Zh kt
  have KC8 := Zh ka
  have hlt8 := hb.size
  clear kz1 kz2 kt ka hb hp7 hp8 KS4 HTa4 HVa4 HB4
  have HZ18 := HZ1
  have HZ28 := HZ2
  have HP18 := HP1
  have HP28 := HP2
  clear HZ1 HZ2 HP1 HP2 hlt8
  go_wp2_with (first | (refine Zw HZ18.out HP18.out ?_) | (refine Zw HZ28.out HP28.out ?_) | (refine zak KS8.out rfl rfl (by kernel_rfl) Tryz.underlying32 rfl (by kernel_rfl) ?_))
  clear he5 he6 HZ18 HZ28 HP18 HP28
  refine (zca s ap np cp al nl cl ah nh ch ⟨3, 0, 0, 0, fi, ⟨0, 0, 0, false⟩⟩ u ev2 er2 x2 z2 n2 HS2.out HN2.out w8 HI0.out HFT.out (fun h => by cases h)).mono ?_
  rintro e w9 ⟨apb, npb, cpb, alb, nlb, clb, ahb, nhb, chb, eab, ecb, rfl, hi, hv, hf2, hu, he, hb⟩
  replace HI0 := Zh (HI0.out.below hb)
  have KS9 := Zk KS8 hb
  have HTa9 := Zh (HTa8.out.below hb)
  have HVa9 := Zh (HVa8.out.below hb)
  have KA9 := Zk KA8 hb
  have KC9 := Zk KC8 hb
  have HB9 := Zt HB8 hb
  clear hb KS8 HTa8 HVa8 KA8 KC8 HB8
  have HTb9 := hi
  have HVb9 := hv
  have HFb := hf2
  have HUb := hu
  have HEb := he
  clear hi hv hf2 hu he
  clear HI0
  have QKS := KS9
  have QKA := KA9
  have QKC := KC9
  have QHTa := HTa9
  have QHVa := HVa9
  have QHVb := HVb9
  have HX9 : Hid (Below w9.heap.size w9 w9) := Zh (Below.refl _ _)
  have LWB := Zh HB9.out.size
  obtain ⟨w10, he10⟩ : ∃ W, w9.alloc (.cells #[.int .i64 0, .int .i64 0, .int .i64 0, .int .i64 0, .int .i64 0, .int .i64 0, .int .i64 0, .int .i64 0, .int .i64 0, .int .i64 0, .int .i64 0, .bool false, .int .i64 0, .slice none 0 0, .slice none 0 0, .slice none 0 0] 32) = W := ⟨_, rfl⟩
  obtain ⟨w11, he11⟩ : ∃ W, w10.alloc (.cells #[.int .i64 0, .int .i64 0, .int .i64 0] 40) = W := ⟨_, rfl⟩
  obtain ⟨w12, hp12⟩ : ∃ W, w11.setRow w9.heap.size #[.int .i64 u.d.b, .int .i64 u.d.k, .int .i64 u.d.c, .int .i64 u.d.j, .int .i64 u.d.lo, .int .i64 u.d.hi, .int .i64 u.d.dy, .int .i64 u.d.bl, .int .i64 u.p.q, .int .i64 u.p.i, .int .i64 u.p.h, .bool u.p.pair, .int .i64 u.now, .slice apb npb cpb, .slice alb nlb clb, .slice ahb nhb chb] = W := ⟨_, rfl⟩
  obtain ⟨w13, hp13⟩ : ∃ W, w12.setRow w10.heap.size #[.int .i64 er2, .int .i64 x2, .int .i64 z2] = W := ⟨_, rfl⟩
  obtain ⟨kz1, kz2, kt, ka, hb, hsz⟩ := box2 he10 he11 hp12 hp13
  have HZ1 := Zh kz1
  have HZ2 := Zh kz2
  have HP1 := Zh hp12
  have HP2 := Zh hp13
  have HSZ13 := Zh hsz
  clear hsz
  have KS13 := Zk KS9 hb
  have HTa13 := Zh (HTa9.out.below hb)
  have HVa13 := Zh (HVa9.out.below hb)
  have KA13 := Zk KA9 hb
  have KC13 := Zk KC9 hb
  replace HTb9 := Zh (HTb9.out.below hb)
  have HVb13 := Zh (HVb9.out.below hb)
  have HX13 := Zt HX9 hb
  have HB13 := Zt HB9 hb
  have KB13 := Zh kt
  have KD13 := Zh ka
  have hlt13 := hb.size
  clear kz1 kz2 kt ka hb hp12 hp13 KS9 HTa9 HVa9 KA9 KC9 HVb9 HX9 HB9
  have HZ113 := HZ1
  have HZ213 := HZ2
  have HP113 := HP1
  have HP213 := HP2
  clear HZ1 HZ2 HP1 HP2 hlt13
  have LKB := Zh KB13.out.lt
  go_wp2_with (first | (refine Zw HZ113.out HP113.out ?_) | (refine Zw HZ213.out HP213.out ?_) | (refine zak KB13.out rfl rfl (by kernel_rfl) Tryz.underlying32 rfl (by kernel_rfl) ?_))
  clear he10 he11 HZ113 HZ213 HP113 HP213
  refine (zca u apb npb cpb alb nlb clb ahb nhb chb ⟨3, 0, 0, 0, ti, ⟨0, 0, 0, false⟩⟩ v ev3 er3 x3 z3 n3 HS3.out HN3.out w13 HTb9.out HFb.out (fun h => by cases h)).mono ?_
  rintro e w14 ⟨apc, npc, cpc, alc, nlc, clc, ahc, nhc, chc, eac, ecc, rfl, hi, hv, hf2, hu, he, hb⟩
  have KS14 := Zk KS13 hb
  have HTa14 := Zh (HTa13.out.below hb)
  have HVa14 := Zh (HVa13.out.below hb)
  have KA14 := Zk KA13 hb
  have KC14 := Zk KC13 hb
  replace HTb9 := Zh (HTb9.out.below hb)
  have HVb14 := Zh (HVb13.out.below hb)
  have HX14 := Zt HX13 hb
  have KB14 := Zk KB13 hb
  have KD14 := Zk KD13 hb
  have HB14 := Zt HB13 hb
  clear hb KS13 HTa13 HVa13 KA13 KC13 HVb13 HX13 KB13 KD13 HB13
  have HTc14 := hi
  have HVc14 := hv
  have HFc := hf2
  have HUc := hu
  have HEc := he
  clear hi hv hf2 hu he
  obtain ⟨w15, he15⟩ : ∃ W, w14.alloc (.cells #[.int .i64 0, .int .i64 0, .int .i64 0] 40) = W := ⟨_, rfl⟩
  obtain ⟨w16, hp16⟩ : ∃ W, w15.setRow (w9.heap.size) #[.int .i64 v.d.b, .int .i64 v.d.k, .int .i64 v.d.c, .int .i64 v.d.j, .int .i64 v.d.lo, .int .i64 v.d.hi, .int .i64 v.d.dy, .int .i64 v.d.bl, .int .i64 v.p.q, .int .i64 v.p.i, .int .i64 v.p.h, .bool v.p.pair, .int .i64 v.now, .slice apc npc cpc, .slice alc nlc clc, .slice ahc nhc chc] = W := ⟨_, rfl⟩
  obtain ⟨w17, hp17⟩ : ∃ W, w16.setRow w14.heap.size #[.int .i64 er3, .int .i64 x3, .int .i64 z3] = W := ⟨_, rfl⟩
  obtain ⟨kz0, kz1, kt, ka, hg, hl⟩ := box1 KB14.out he15 hp16 hp17
  have HZ117 := Zh kz0
  have HZ217 := Zh kz1
  have HP117 := Zh hp16
  have HP217 := Zh hp17
  have HX17 := Zh (zbb HX14.out hg HX14.out.size (Nat.le_refl _))
  have KD17 := Zh (KD14.out.keep KB14.out (by simp) hg)
  have HTc17 := Zh (HTc14.out.up HUc.out hg LKB.out)
  have HVc17 := Zh (Y.vin_up HVc14.out HEc.out hg LKB.out)
  have KS17 := Zh (QKS.out.below HX17.out QKS.out.lt)
  have KA17 := Zh (QKA.out.below HX17.out QKA.out.lt)
  have KC17 := Zh (QKC.out.below HX17.out QKC.out.lt)
  have HTa17 := Zh (QHTa.out.below HX17.out)
  have HVa17 := Zh (QHVa.out.below HX17.out)
  have HVb17 := Zh (QHVb.out.below HX17.out)
  have HB17 := Zh (zbb HB14.out hg HB14.out.size (LWB.out))
  have KB17 := Zh kt
  have KE17 := Zh ka
  clear kz0 kz1 kt ka hg hl hp16 hp17 KS14 HTa14 HVa14 KA14 KC14 HTb9 HVb14 HX14 KB14 KD14 HTc14 HVc14 HB14
  obtain ⟨a0, a1, a2⟩ := Y.as3 KC17.out
  obtain ⟨b0, b1, b2⟩ := Y.as3 KD17.out
  obtain ⟨e0, e1, e2⟩ := Y.as3 KE17.out
  by_cases f1 : er1 = 0
  ·subst f1
   have e1 : ((0 : Int) != 0) = false := rfl
   by_cases f2 : er2 = 0
   ·subst f2
    have hm := Y.step_ok (s := s) (r := ⟨3, 0, 0, 0, ti, ⟨0, 0, 0, false⟩⟩) (by rw [HS1.out])
    have hM := Y.twice_is hm HS1.out HS2.out HS3.out (by omega)
    obtain ⟨hE, rfl, rfl, hx1, hx2, hx3, hl33⟩ := hM
    have HE := Zh hE
    have hE' := hE
    clear hE
    have k1 : n1 = n2 + n3 := by rw [<- HN1.out, <- HN2.out, <- HN3.out, HE.out, List.length_append]
    have k2 : n1 <= 33 := by rw [<- HN1.out]; exact hl33
    have k3 : x2 + x3 = x1 := by rw [hx1, hx2, hx3, hE', List.length_append]; simp
    have k4 : -9223372036854775808 <= x2 + x3 /\ x2 + x3 <= 9223372036854775807 := by rw [k3, hx1]; omega
    have HQ1 := Zh (show wrap64 (x2 + x3) = x1 by rw [IntWalk.wrap64_in _ k4]; exact k3)
    have HQ2 := Zh (show IntKind.i64.wrap (x2 + x3) = x1 by rw [IntWalk.i64_left, IntWalk.wrap64_in _ k4]; exact k3)
    clear k3 k4 hx1 hx2 hx3 hE'
    skip
    skip
    have HN12 : Hid (n1 = n2 + n3 /\ n1 <= 33) := Zh ⟨k1, k2⟩
    have nb1 : n1 <= 33 := HN12.out.2
    have nb2 : n2 <= 33 := by omega
    have nb3 : n3 <= 33 := by omega
    clear k1 k2 hl33
    go_wp2_with (first | (refine Zw HZ117.out HP117.out ?_) | (refine Zw HZ217.out HP217.out ?_) | (at_builtin; first | (refine zb8 (α := Y.Ev) rfl _ _ 37 66 rfl (.agg #[.int .i64 0, .int .i64 0, .int .i64 0, .int .i64 0, .int .i64 0, .int .i64 0, .int .i64 0, .int .i64 0, .bool false]) 72 Tryz.underlying37 zcj rfl (by decide) w17.heap.size (.slice none 0 0) 0 [] rfl (World.ownsRow_nil _ _ _ _) eab n2 ecb ev2 rfl HVb17.out (by omega) (Nat.le_refl _) ?_; intro v1 wa ho1 hg1) | (refine zb8 (α := Y.Ev) rfl _ _ 37 66 rfl (.agg #[.int .i64 0, .int .i64 0, .int .i64 0, .int .i64 0, .int .i64 0, .int .i64 0, .int .i64 0, .int .i64 0, .bool false]) 72 Tryz.underlying37 zcj rfl (by decide) w17.heap.size v1 (0 + n2) ([] ++ ev2) rfl ho1 eac n3 ecc ev3 rfl (HVc17.out.on hg1) (by omega) (hg1.size) ?_; intro v2 wb ho2 hg2; obtain ⟨aw, cw, rfl, hvw⟩ := ze3 (α := Y.Ev) (n := n1) (l := ev1) (by have h := ho2; rw [Nat.zero_add, List.nil_append, <- HE.out, <- HN12.out.1] at h; exact h) HN1.out; have hb : Below w17.heap.size w17 wb := ((Below.refl _ _).grown hg1 (Nat.le_refl _) (fun q hq => by cases hq)).grown hg2 hg1.size (fun q hq => (ho1.lt q hq).1); have HVW := Zh hvw; clear ho2 ho1 hg1 hg2 hvw)))
    clear he15 HZ117 HZ217 HP117 HP217
    clear a0 a1 a2
    clear b0 b1 b2
    clear e0 e1 e2
    have HX19 := Zt HX17 hb
    have KD19 := Zk KD17 hb
    replace HTc17 := Zh (HTc17.out.below hb)
    replace HVc17 := Zh (HVc17.out.below hb)
    have KS19 := Zk KS17 hb
    have KA19 := Zk KA17 hb
    have KC19 := Zk KC17 hb
    have HTa19 := Zh (HTa17.out.below hb)
    have HVa19 := Zh (HVa17.out.below hb)
    have HVb19 := Zh (HVb17.out.below hb)
    have KB19 := Zk KB17 hb
    replace KE17 := Zk KE17 hb
    have HB19 := Zt HB17 hb
    clear hb HX17 KD17 KS17 KA17 KC17 HTa17 HVa17 HVb17 KB17 HB17
    go_loopw [18] (fun i wr => ∃ k : Nat, i = .int .i64 k /\ k <= n1 /\ Hid (Below wb.heap.size wb wr)) (fun i _ => n1 - (intOf i).toNat)
    case atStart => exact ⟨0, rfl, by omega, Zh (Below.refl _ _)⟩
    case round =>
     obtain ⟨k, rfl, hkn, HW⟩ := hrel
     have HWK := HW
     by_cases hlt : k < n1
     ·have d1 : decide ((k : Int) < n1) = true := decide_eq_true (by omega)
      have d1' : decide (k < n1) = true := decide_eq_true hlt
      have k0 : (0 : Int) <= k := by omega
      have k1 : (k : Int) < n1 := by omega
      have HLT := Zh hlt
      obtain ⟨b1, o1, x, hal, -, hx, hc1⟩ := (HVa19.out.below HW.out).at hlt
      subst hal
      obtain ⟨b2, o2, x', hal, -, hx', hc2⟩ := (HVW.out.below HW.out).at hlt
      subst hal
      obtain rfl : x = x' := Option.some.inj (hx.symm.trans hx')
      clear hx hx'
      have p0 : wr.cell? ⟨b1, o1 + k * 9, none⟩ = some (.int .i64 x.k) := hc1 0 _ rfl
      have r0 : wr.cell? ⟨b2, o2 + k * 9, none⟩ = some (.int .i64 x.k) := hc2 0 _ rfl
      have p1 : wr.cell? ⟨b1, o1 + k * 9 + 1, none⟩ = some (.int .i64 x.t) := hc1 1 _ rfl
      have r1 : wr.cell? ⟨b2, o2 + k * 9 + 1, none⟩ = some (.int .i64 x.t) := hc2 1 _ rfl
      have p2 : wr.cell? ⟨b1, o1 + k * 9 + 2, none⟩ = some (.int .i64 x.a) := hc1 2 _ rfl
      have r2 : wr.cell? ⟨b2, o2 + k * 9 + 2, none⟩ = some (.int .i64 x.a) := hc2 2 _ rfl
      have p3 : wr.cell? ⟨b1, o1 + k * 9 + 3, none⟩ = some (.int .i64 x.b) := hc1 3 _ rfl
      have r3 : wr.cell? ⟨b2, o2 + k * 9 + 3, none⟩ = some (.int .i64 x.b) := hc2 3 _ rfl
      have p4 : wr.cell? ⟨b1, o1 + k * 9 + 4, none⟩ = some (.int .i64 x.c) := hc1 4 _ rfl
      have r4 : wr.cell? ⟨b2, o2 + k * 9 + 4, none⟩ = some (.int .i64 x.c) := hc2 4 _ rfl
      have p5 : wr.cell? ⟨b1, o1 + k * 9 + 5, none⟩ = some (.int .i64 x.p.q) := hc1 5 _ rfl
      have r5 : wr.cell? ⟨b2, o2 + k * 9 + 5, none⟩ = some (.int .i64 x.p.q) := hc2 5 _ rfl
      have p6 : wr.cell? ⟨b1, o1 + k * 9 + 6, none⟩ = some (.int .i64 x.p.i) := hc1 6 _ rfl
      have r6 : wr.cell? ⟨b2, o2 + k * 9 + 6, none⟩ = some (.int .i64 x.p.i) := hc2 6 _ rfl
      have p7 : wr.cell? ⟨b1, o1 + k * 9 + 7, none⟩ = some (.int .i64 x.p.h) := hc1 7 _ rfl
      have r7 : wr.cell? ⟨b2, o2 + k * 9 + 7, none⟩ = some (.int .i64 x.p.h) := hc2 7 _ rfl
      have p8 : wr.cell? ⟨b1, o1 + k * 9 + 8, none⟩ = some (.bool x.p.pair) := hc1 8 _ rfl
      have r8 : wr.cell? ⟨b2, o2 + k * 9 + 8, none⟩ = some (.bool x.p.pair) := hc2 8 _ rfl
      clear hc1 hc2
      go_wp2_with fail
      go_quiet (fail)
      go_wp2
      go_roundw
      case rel => exact ⟨k + 1, by go_num, by have := HLT.out; omega, Zh (HWK.out.trans (zad _ _ _))⟩
      case measure => have := HLT.out; simp [intOf] <;> omega
     have d1 : decide ((k : Int) < n1) = false := decide_eq_false (by omega)
     have d1' : decide (k < n1) = false := decide_eq_false hlt
     have hb := HW.out
     have HX20 := Zt HX19 hb
     have KD20 := Zk KD19 hb
     replace HTc17 := Zh (HTc17.out.below hb)
     replace HVc17 := Zh (HVc17.out.below hb)
     have KS20 := Zk KS19 hb
     have KA20 := Zk KA19 hb
     have KC20 := Zk KC19 hb
     have HTa20 := Zh (HTa19.out.below hb)
     have HVa20 := Zh (HVa19.out.below hb)
     have HVb20 := Zh (HVb19.out.below hb)
     have KB20 := Zk KB19 hb
     replace KE17 := Zk KE17 hb
     have HB20 := Zt HB19 hb
     clear hb HW HX19 KD19 KS19 KA19 KC19 HTa19 HVa19 HVb19 KB19 HB19
     have c0 := Y.cs16 KA20.out
     obtain ⟨d0, d1, d2, d3, d4, d5, d6, d7, d8, d9, d10, d11, d12, d13, d14, d15⟩ := Y.cs16 KB20.out
     obtain ⟨e0, e1, e2⟩ := Y.as3 KE17.out
     go_wp2_with fail
     refine (zea t t ⟨apa, npa, cpa, ala, nla, cla, aha, nha, cha⟩ ⟨apc, npc, cpc, alc, nlc, clc, ahc, nhc, chc⟩ wr HTa20.out HTc17.out ⟨HFa.out.p, HFa.out.l, HFa.out.h⟩ true (decide_eq_true rfl)).mono ?_
     clear c0
     clear d0 d1 d2 d3 d4 d5 d6 d7 d8 d9 d10 d11 d12 d13 d14 d15
     clear e0 e1 e2
     rintro e w21 ⟨rfl, hb⟩
     have HX21 := Zt HX20 hb
     have KD21 := Zk KD20 hb
     replace HTc17 := Zh (HTc17.out.below hb)
     replace HVc17 := Zh (HVc17.out.below hb)
     have KS21 := Zk KS20 hb
     have KA21 := Zk KA20 hb
     have KC21 := Zk KC20 hb
     have HTa21 := Zh (HTa20.out.below hb)
     have HVa21 := Zh (HVa20.out.below hb)
     have HVb21 := Zh (HVb20.out.below hb)
     have KB21 := Zk KB20 hb
     replace KE17 := Zk KE17 hb
     have HB21 := Zt HB20 hb
     clear hb HX20 KD20 KS20 KA20 KC20 HTa20 HVa20 HVb20 KB20 HB20
     have c0 := Y.cs16 KA21.out
     obtain ⟨d0, d1, d2, d3, d4, d5, d6, d7, d8, d9, d10, d11, d12, d13, d14, d15⟩ := Y.cs16 KB21.out
     obtain ⟨e0, e1, e2⟩ := Y.as3 KE17.out
     clear c0
     clear d0 d1 d2 d3 d4 d5 d6 d7 d8 d9 d10 d11 d12 d13 d14 d15
     obtain ⟨a0, a1, a2⟩ := Y.as3 KC21.out
     obtain ⟨b0, b1, b2⟩ := Y.as3 KD21.out
     have q1 := HQ1.out
     have q2 := HQ2.out
     go_wp2
     go_ret
     exact ⟨rfl, HB21.out⟩
   ·have e2 : (er2 != 0) = true := by simpa using f2
    go_wp2_with (first | (refine Zw HZ117.out HP117.out ?_) | (refine Zw HZ217.out HP217.out ?_))
    clear he15 HZ117 HZ217 HP117 HP217
    go_ret
    exact ⟨rfl, HB17.out⟩
  ·have e1 : (er1 != 0) = true := by simpa using f1
   go_wp2_with (first | (refine Zw HZ117.out HP117.out ?_) | (refine Zw HZ217.out HP217.out ?_))
   clear he15 HZ117 HZ217 HP117 HP217
   go_ret
   exact ⟨rfl, HB17.out⟩
end Go.Proofs.YtonejangijkdmaaGreat
