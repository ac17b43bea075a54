import Derived.Test.YtonejangijkdmaaGreatYWK
namespace Go.Proofs.YtonejangijkdmaaGreat
set_option maxHeartbeats 1000000
set_option maxRecDepth 100000
open Go.RowKit
theorem zk6 {a b : Int} (h1 : 0 <= a /\ a <= 1073741824) (h2 : 0 <= b /\ b <= 2097152) : wrap64 (a + b) = a + b := IntWalk.wrap64_in _ (by omega)
theorem AllocIdle_in (s : Y.St) (ap : Option Addr) (np cp : Nat) (al : Option Addr) (nl cl : Nat) (ah : Option Addr) (nh ch : Nat) (i bt : Int) (w : World) (h : Y.SIn w ⟨ap, np, cp, al, nl, cl, ah, nh, ch⟩ s) (sm : O.Sm s.ps) (hb : s.d.b <= 9223372036854775807) (hc : s.d.c <= 9223372036854775807) :
  Calls Tryz.prog 9 #[.agg #[.int .i64 s.d.b, .int .i64 s.d.k, .int .i64 s.d.c, .int .i64 s.d.j, .int .i64 s.d.lo, .int .i64 s.d.hi, .int .i64 s.d.dy, .int .i64 s.d.bl, .int .i64 s.p.q, .int .i64 s.p.i, .int .i64 s.p.h, .bool s.p.pair, .int .i64 s.now, .slice ap np cp, .slice al nl cl, .slice ah nh ch], .int .i64 i, .int .i64 bt] w fun e w' => e = .returned (.bool true) /\ Below w.heap.size w w' := by
 have HB0 := Zh (Below.refl w.heap.size w)
 have HI0 := Zh (h)
 have HSM := Zh sm
 clear h sm
 obtain ⟨w1, hw1, hb, hk⟩ := Zn w 32 #[.int .i64 s.d.b, .int .i64 s.d.k, .int .i64 s.d.c, .int .i64 s.d.j, .int .i64 s.d.lo, .int .i64 s.d.hi, .int .i64 s.d.dy, .int .i64 s.d.bl, .int .i64 s.p.q, .int .i64 s.p.i, .int .i64 s.p.h, .bool s.p.pair, .int .i64 s.now, .slice ap np cp, .slice al nl cl, .slice ah nh ch]
 replace HI0 := Zh (HI0.out.below hb)
 replace HB0 := Zt HB0 hb
 have KS1 := Zh hk
 clear hb hk
 obtain ⟨c0, c1, c2, c3, c4, c5, c6, c7, c8, c9, c10, c11, c12, c13, c14, c15⟩ := Y.cs16 KS1.out
 obtain ⟨fw, hfw⟩ : ∃ b, (decide (nl <= 40) && decide (nh <= 40) && decide (np <= 6)) = b := ⟨_, rfl⟩
 have HFW := Zh hfw
 clear hfw
 go_enter Tryz.func9, Tryz.ntmps9
 go_wp2_with fail
 try rw [hw1]
 refine (zb0 w1).mono ?_
 clear c0 c1 c2 c3 c4 c5 c6 c7 c8 c9 c10 c11 c12 c13 c14 c15
 rintro e w2 ⟨rfl, hb⟩
 replace HI0 := Zh (HI0.out.below hb)
 replace KS1 := Zk KS1 hb
 replace HB0 := Zt HB0 hb
 clear hb
 obtain ⟨c0, c1, c2, c3, c4, c5, c6, c7, c8, c9, c10, c11, c12, c13, c14, c15⟩ := Y.cs16 KS1.out
 clear hw1
 go_wp2_with fail
 refine (zcx s ap np cp al nl cl ah nh ch fw HFW.out w2).mono ?_
 clear c0 c1 c2 c3 c4 c5 c6 c7 c8 c9 c10 c11 c12 c13 c14 c15
 rintro e w3 ⟨rfl, hb⟩
 replace HI0 := Zh (HI0.out.below hb)
 replace KS1 := Zk KS1 hb
 replace HB0 := Zt HB0 hb
 clear hb
 obtain ⟨c0, c1, c2, c3, c4, c5, c6, c7, c8, c9, c10, c11, c12, c13, c14, c15⟩ := Y.cs16 KS1.out
 cases fw with
 | false =>
  go_wp2
  go_ret
  exact ⟨rfl, HB0.out⟩
 | true =>
  have hfe := HFW.out
  simp only [Bool.and_eq_true, decide_eq_true_eq] at hfe
  obtain ⟨⟨hnl, hnh⟩, hnp⟩ := hfe
  have HFT : Hid (Y.Fits ⟨ap, np, cp, al, nl, cl, ah, nh, ch⟩ s) := Zh ⟨by show np <= 600; omega, by show nl <= 600; omega, by show nh <= 600; omega, HSM.out, hb, hc⟩
  by_cases g1 : i < 0
  ·have d1_0 : decide (i < 0) = true := decide_eq_true (by omega)
   go_wp2
   go_ret
   exact ⟨rfl, HB0.out⟩
  have d1_0 : decide (i < 0) = false := decide_eq_false (by omega)
  obtain ⟨k, rfl⟩ := Int.eq_ofNat_of_zero_le (show 0 <= i by omega)
  by_cases g2 : nl <= k
  ·have d2_0 : decide ((k : Int) ≥ (nl : Int)) = true := decide_eq_true (by omega)
   have d2_1 : decide ((nl : Int) <= (k : Int)) = true := decide_eq_true (by omega)
   have d2_2 : decide (nl <= k) = true := decide_eq_true (by omega)
   go_wp2
   go_ret
   exact ⟨rfl, HB0.out⟩
  have d2_0 : decide ((k : Int) ≥ (nl : Int)) = false := decide_eq_false (by omega)
  have d2_1 : decide ((nl : Int) <= (k : Int)) = false := decide_eq_false (by omega)
  have d2_2 : decide (nl <= k) = false := decide_eq_false (by omega)
  have hk : k < nl := by omega
  by_cases g3 : bt < 0
  ·have d3_0 : decide (bt < 0) = true := decide_eq_true (by omega)
   go_wp2
   go_ret
   exact ⟨rfl, HB0.out⟩
  have d3_0 : decide (bt < 0) = false := decide_eq_false (by omega)
  by_cases g4 : 2097152 < bt
  ·have d4_0 : decide (bt > 2097152) = true := decide_eq_true (by omega)
   have d4_1 : decide (2097152 < bt) = true := decide_eq_true (by omega)
   go_wp2
   go_ret
   exact ⟨rfl, HB0.out⟩
  have d4_0 : decide (bt > 2097152) = false := decide_eq_false (by omega)
  have d4_1 : decide (2097152 < bt) = false := decide_eq_false (by omega)
  obtain ⟨b0, off, y, hal, hb0, hy, p0, p1, p2, p3, p4⟩ := HI0.out.l.at5 hk
  have hal' : al = some ⟨b0, off, none⟩ := hal
  rw [hal'] at c14
  clear hal hal'
  have HY := Zh hy
  clear hy hb0
  have u0 : decide ((k : Int) < (nl : Int)) = true := decide_eq_true (by omega)
  have u1 : decide (k < nl) = true := decide_eq_true hk
  have u2 : (0 : Int) <= k := by omega
  have u3 : (k : Int) < nl := by omega
  obtain ⟨⟨t, ev1, er1, x1, z1⟩, hst⟩ : ∃ q, Y.step s ⟨1, y.s, y.a, y.b, 0, ⟨0, 0, 0, false⟩⟩ = q := ⟨_, rfl⟩
  have HS1 := Zh hst
  clear hst
  obtain ⟨n1, hne⟩ : ∃ n, ev1.length = n := ⟨_, rfl⟩
  have HN1 := Zh hne
  clear hne
  obtain ⟨q, hq⟩ : ∃ q, wrap64 (t.now + bt) = q := ⟨_, rfl⟩
  have HQ := Zh hq
  obtain ⟨⟨u, ev2, er2, x2, z2⟩, hst⟩ : ∃ q', Y.step t ⟨3, 0, 0, 0, q, ⟨0, 0, 0, false⟩⟩ = q' := ⟨_, rfl⟩
  have HS2 := Zh hst
  clear hst
  obtain ⟨n2, hne⟩ : ∃ n, ev2.length = n := ⟨_, rfl⟩
  have HN2 := Zh hne
  clear hne
  obtain ⟨w4, he4⟩ : ∃ W, w3.alloc (.cells #[.int .i64 0, .int .i64 0, .int .i64 0, .int .i64 0, .int .i64 0] 58) = W := ⟨_, rfl⟩
  obtain ⟨w5, hp5⟩ : ∃ W, w4.setRow w3.heap.size #[.int .i64 y.s, .int .i64 y.a, .int .i64 y.b, .int .i64 y.f, .int .i64 y.t] = W := ⟨_, rfl⟩
  obtain ⟨kz1, ka, hb, hsz⟩ := box0 he4 hp5
  have HZ5 := Zh kz1
  have HP5 := Zh hp5
  clear hsz
  replace HI0 := Zh (HI0.out.below hb)
  replace KS1 := Zk KS1 hb
  replace HB0 := Zt HB0 hb
  have KY5 := Zh ka
  clear kz1 ka hb hp5
  skip
  obtain ⟨y0, y1, y2, y3, y4⟩ := Y.as5 KY5.out
  go_wp2_with (first | (refine Zw HZ5.out HP5.out ?_) | (refine zak KS1.out rfl rfl (by kernel_rfl) Tryz.underlying32 rfl (by kernel_rfl) ?_))
  clear he4 HZ5 HP5
  clear c0 c1 c2 c3 c4 c5 c6 c7 c8 c9 c10 c11 c12 c13 c14 c15
  clear p0 p1 p2 p3 p4
  refine (zca s ap np cp al nl cl ah nh ch ⟨1, y.s, y.a, y.b, 0, ⟨0, 0, 0, false⟩⟩ t ev1 er1 x1 z1 n1 HS1.out HN1.out w5 HI0.out HFT.out (fun h => by cases h)).mono ?_
  clear y0 y1 y2 y3 y4
  rintro e w6 ⟨apa, npa, cpa, ala, nla, cla, aha, nha, cha, eaa, eca, rfl, hi, hv, hf2, hu, he, hb⟩
  replace HI0 := Zh (HI0.out.below hb)
  replace KS1 := Zk KS1 hb
  replace KY5 := Zk KY5 hb
  replace HB0 := Zt HB0 hb
  clear hb
  have HTa6 := hi
  have HVa6 := hv
  obtain ⟨y0, y1, y2, y3, y4⟩ := Y.as5 KY5.out
  have HFa := hf2
  have HUa := hu
  have HEa := he
  clear hi hv hf2 hu he
  clear y0 y1 y2 y3 y4
  obtain ⟨w7, he7⟩ : ∃ W, w6.alloc (.cells #[.int .i64 0, .int .i64 0, .int .i64 0, .int .i64 0, .int .i64 0, .int .i64 0, .int .i64 0, .int .i64 0, .int .i64 0, .int .i64 0, .int .i64 0, .bool false, .int .i64 0, .slice none 0 0, .slice none 0 0, .slice none 0 0] 32) = W := ⟨_, rfl⟩
  obtain ⟨w8, he8⟩ : ∃ W, w7.alloc (.cells #[.int .i64 0, .int .i64 0, .int .i64 0] 40) = W := ⟨_, rfl⟩
  obtain ⟨w9, hp9⟩ : ∃ W, w8.setRow w6.heap.size #[.int .i64 t.d.b, .int .i64 t.d.k, .int .i64 t.d.c, .int .i64 t.d.j, .int .i64 t.d.lo, .int .i64 t.d.hi, .int .i64 t.d.dy, .int .i64 t.d.bl, .int .i64 t.p.q, .int .i64 t.p.i, .int .i64 t.p.h, .bool t.p.pair, .int .i64 t.now, .slice apa npa cpa, .slice ala nla cla, .slice aha nha cha] = W := ⟨_, rfl⟩
  obtain ⟨w10, hp10⟩ : ∃ W, w9.setRow w7.heap.size #[.int .i64 er1, .int .i64 x1, .int .i64 z1] = W := ⟨_, rfl⟩
  obtain ⟨kz1, kz2, kt, ka, hb, hsz⟩ := box2 he7 he8 hp9 hp10
  have HZ1 := Zh kz1
  have HZ2 := Zh kz2
  have HP1 := Zh hp9
  have HP2 := Zh hp10
  have HSZ10 := Zh hsz
  clear hsz
  replace HI0 := Zh (HI0.out.below hb)
  replace KS1 := Zk KS1 hb
  replace KY5 := Zk KY5 hb
  replace HTa6 := Zh (HTa6.out.below hb)
  replace HVa6 := Zh (HVa6.out.below hb)
  replace HB0 := Zt HB0 hb
  have KT10 := Zh kt
  have KA10 := Zh ka
  have hlt10 := hb.size
  clear kz1 kz2 kt ka hb hp9 hp10
  have HZ110 := HZ1
  have HZ210 := HZ2
  have HP110 := HP1
  have HP210 := HP2
  clear HZ1 HZ2 HP1 HP2 hlt10
  obtain ⟨c0, c1, c2, c3, c4, c5, c6, c7, c8, c9, c10, c11, c12, c13, c14, c15⟩ := Y.cs16 KT10.out
  go_wp2_with (first | (refine Zw HZ110.out HP110.out ?_) | (refine Zw HZ210.out HP210.out ?_) | (refine zak KT10.out rfl rfl (by kernel_rfl) Tryz.underlying32 rfl (by kernel_rfl) ?_))
  clear he7 he8 HZ110 HZ210 HP110 HP210
  refine (zca t apa npa cpa ala nla cla aha nha cha ⟨3, 0, 0, 0, q, ⟨0, 0, 0, false⟩⟩ u ev2 er2 x2 z2 n2 HS2.out HN2.out w10 HTa6.out HFa.out (fun h => by cases h)).mono ?_
  clear c0 c1 c2 c3 c4 c5 c6 c7 c8 c9 c10 c11 c12 c13 c14 c15
  rintro e w11 ⟨apb, npb, cpb, alb, nlb, clb, ahb, nhb, chb, eab, ecb, rfl, hi, hv, hf2, hu, he, hb⟩
  replace HI0 := Zh (HI0.out.below hb)
  replace KS1 := Zk KS1 hb
  replace KY5 := Zk KY5 hb
  replace HTa6 := Zh (HTa6.out.below hb)
  replace HVa6 := Zh (HVa6.out.below hb)
  replace KT10 := Zk KT10 hb
  replace KA10 := Zk KA10 hb
  replace HB0 := Zt HB0 hb
  clear hb
  have HTb11 := hi
  have HVb11 := hv
  obtain ⟨c0, c1, c2, c3, c4, c5, c6, c7, c8, c9, c10, c11, c12, c13, c14, c15⟩ := Y.cs16 KT10.out
  have HFb := hf2
  have HUb := hu
  have HEb := he
  clear hi hv hf2 hu he
  clear c0 c1 c2 c3 c4 c5 c6 c7 c8 c9 c10 c11 c12 c13 c14 c15
  obtain ⟨w12, he12⟩ : ∃ W, w11.alloc (.cells #[.int .i64 0, .int .i64 0, .int .i64 0, .int .i64 0, .int .i64 0, .int .i64 0, .int .i64 0, .int .i64 0, .int .i64 0, .int .i64 0, .int .i64 0, .bool false, .int .i64 0, .slice none 0 0, .slice none 0 0, .slice none 0 0] 32) = W := ⟨_, rfl⟩
  obtain ⟨w13, he13⟩ : ∃ W, w12.alloc (.cells #[.int .i64 0, .int .i64 0, .int .i64 0] 40) = W := ⟨_, rfl⟩
  obtain ⟨w14, hp14⟩ : ∃ W, w13.setRow w11.heap.size #[.int .i64 u.d.b, .int .i64 u.d.k, .int .i64 u.d.c, .int .i64 u.d.j, .int .i64 u.d.lo, .int .i64 u.d.hi, .int .i64 u.d.dy, .int .i64 u.d.bl, .int .i64 u.p.q, .int .i64 u.p.i, .int .i64 u.p.h, .bool u.p.pair, .int .i64 u.now, .slice apb npb cpb, .slice alb nlb clb, .slice ahb nhb chb] = W := ⟨_, rfl⟩
  obtain ⟨w15, hp15⟩ : ∃ W, w14.setRow w12.heap.size #[.int .i64 er2, .int .i64 x2, .int .i64 z2] = W := ⟨_, rfl⟩
  obtain ⟨kz1, kz2, kt, ka, hb, hsz⟩ := box2 he12 he13 hp14 hp15
  have HZ1 := Zh kz1
  have HZ2 := Zh kz2
  have HP1 := Zh hp14
  have HP2 := Zh hp15
  have HSZ15 := Zh hsz
  clear hsz
  replace HI0 := Zh (HI0.out.below hb)
  replace KS1 := Zk KS1 hb
  replace KY5 := Zk KY5 hb
  replace HTa6 := Zh (HTa6.out.below hb)
  replace HVa6 := Zh (HVa6.out.below hb)
  replace KT10 := Zk KT10 hb
  replace KA10 := Zk KA10 hb
  replace HTb11 := Zh (HTb11.out.below hb)
  replace HVb11 := Zh (HVb11.out.below hb)
  replace HB0 := Zt HB0 hb
  have KU15 := Zh kt
  have KC15 := Zh ka
  have hlt15 := hb.size
  clear kz1 kz2 kt ka hb hp14 hp15
  have HZ115 := HZ1
  have HZ215 := HZ2
  have HP115 := HP1
  have HP215 := HP2
  clear HZ1 HZ2 HP1 HP2 hlt15
  obtain ⟨a0, a1, a2⟩ := Y.as3 KA10.out
  obtain ⟨e0, e1, e2⟩ := Y.as3 KC15.out
  by_cases f1 : er1 = 0
  ·subst f1
   have e1 : ((0 : Int) != 0) = false := rfl
   by_cases f2 : er2 = 0
   ·subst f2
    obtain ⟨v, hv⟩ : ∃ v, L.find u.l y.a y.b = v := ⟨_, rfl⟩
    have HV := Zh hv
    clear hv
    obtain ⟨b1, hb1⟩ : ∃ b, decide (bt < s.p.i) = b := ⟨_, rfl⟩
    have hfin : (decide (v ≥ 0) == decide (bt < s.p.i)) = true := by
     have h1 := HS1.out
     have h2 := HS2.out
     have h3 := HV.out
     have hm := Y.step_ok (s := s) (r := ⟨1, y.s, y.a, y.b, 0, ⟨0, 0, 0, false⟩⟩) (by rw [h1])
     have ht := (Y.step_yes (s := s) (r := ⟨1, y.s, y.a, y.b, 0, ⟨0, 0, 0, false⟩⟩) (by rw [h1])).2.1
     rw [h1] at ht
     have hq2 : q = t.now + bt := by
      rw [<- HQ.out]
      have := ht.2.2.2.1
      simp only at this
      exact zk6 (by omega) (by omega)
     have h4 := Y.idle (s := s) (y := y) (k := bt) (r := ⟨1, y.s, y.a, y.b, 0, ⟨0, 0, 0, false⟩⟩) (q := ⟨3, 0, 0, 0, q, ⟨0, 0, 0, false⟩⟩) (List.mem_of_getElem? HY.out) rfl rfl rfl rfl rfl (by rw [h1]; exact hq2) (by rw [h1]) (by rw [h1, h2])
     rw [h1] at h4
     simp only at h4
     rw [h2] at h4
     simp only at h4
     rw [h3] at h4
     simpa using h4
    have q0 : decide (v ≥ 0) = b1 := by rw [<- hb1]; simpa using hfin
    have q1 : decide (0 <= v) = b1 := q0
    clear hfin
    go_wp2_with (first | (refine Zw HZ115.out HP115.out ?_) | (refine Zw HZ215.out HP215.out ?_))
    clear he12 he13 HZ115 HZ215 HP115 HP215
    refine Zd (fun w' => Below w15.heap.size w15 w') (zaa w15) fun RS0 => ?_
    refine Zq 0 w11.heap.size 14 RS0 ?_
    refine Zl 1 (.slice alb nlb clb) rfl (fun w9 hS => by
       have y14 := Zv (KU15.out.below hS KU15.out.lt) 14 (.slice alb nlb clb)
       go_simp) RS0 ?_
    refine Zq 2 w3.heap.size 1 RS0 ?_
    refine Zl 3 (.int .i64 y.a) rfl (fun w9 hS => by
       have y1 := Zv (KY5.out.below hS KY5.out.lt) 1 (.int .i64 y.a)
       go_simp) RS0 ?_
    refine Zq 4 w3.heap.size 2 RS0 ?_
    refine Zl 5 (.int .i64 y.b) rfl (fun w9 hS => by
       have y2 := Zv (KY5.out.below hS KY5.out.lt) 2 (.int .i64 y.b)
       go_simp) RS0 ?_
    refine tk 8 (.int .i64 bt) RS0 ?_
    refine Zq 9 w.heap.size 8 RS0 ?_
    refine Zq 10 w.heap.size 9 RS0 ?_
    refine Zl 11 (.int .i64 s.p.i) rfl (fun w9 hS => by
       have y9 := Zv (KS1.out.below hS KS1.out.lt) 9 (.int .i64 s.p.i)
       go_simp) RS0 ?_
    refine wpAnyH_take (i := 12) (v := .bool b1) rfl (by kernel_rfl) (by kernel_rfl) (by kernel_rfl) (fun _ _ _ h => h) (.inl ⟨by kernel_rfl, fun w9 hS => by go_simp⟩) RS0 ?_
    refine Zc 6 30 #[.slice alb nlb clb, .int .i64 y.a, .int .i64 y.b] (find_any alb nlb clb u.l y.a y.b v HV.out _ (HTb11.out.l.below RS0) (by have := HFb.out.l; exact Nat.le_trans this (by decide))) ?_
    rintro e w16 ⟨rfl, hb⟩
    refine Zu (Zr RS0 hb) fun RS1 => ?_
    refine wpAnyH_take (i := 7) (v := .bool b1) rfl (by kernel_rfl) (by kernel_rfl) (by kernel_rfl) (fun _ _ _ h => h) (.inl ⟨by kernel_rfl, fun w9 hS => by go_simp⟩) RS1 ?_
    refine wpAnyH_take (i := 13) (v := .bool true) rfl (by kernel_rfl) (by kernel_rfl) (by kernel_rfl) (fun _ _ _ h => h) (.inl ⟨by kernel_rfl, fun w9 hS => by go_simp⟩) RS1 ?_
    refine tk 14 (.bool true) RS1 ?_
    refine wpAnyH_done (by kernel_rfl) ?_ _
    simp only [List.getElem_toArray, List.getElem_cons_succ, List.getElem_cons_zero, zc7, List.setIfInBounds_toArray, List.set_cons_succ, List.set_cons_zero]
    go_wp2
    go_ret
    exact ⟨rfl, HB0.out.trans (RS1.mono HB0.out.size)⟩
   ·have e2 : (er2 != 0) = true := by simpa using f2
    go_wp2_with (first | (refine Zw HZ115.out HP115.out ?_) | (refine Zw HZ215.out HP215.out ?_))
    clear he12 he13 HZ115 HZ215 HP115 HP215
    go_ret
    exact ⟨rfl, HB0.out⟩
  ·have e1 : (er1 != 0) = true := by simpa using f1
   go_wp2_with (first | (refine Zw HZ115.out HP115.out ?_) | (refine Zw HZ215.out HP215.out ?_))
   clear he12 he13 HZ115 HZ215 HP115 HP215
   go_ret
   exact ⟨rfl, HB0.out⟩
end Go.Proofs.YtonejangijkdmaaGreat
