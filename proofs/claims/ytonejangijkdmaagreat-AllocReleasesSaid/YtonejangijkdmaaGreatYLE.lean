import Derived.Test.YtonejangijkdmaaGreatYWK
namespace Go.Proofs.YtonejangijkdmaaGreat
set_option maxHeartbeats 3000000
set_option maxRecDepth 100000
open Go.RowKit
theorem Y.rel_is {s : Y.St} {y : L.Ls} (hm : Y.May s) (hy : y ∈ s.l) : ∃ t : Y.St, Y.step s ⟨2, y.s, y.a, y.b, 0, ⟨0, 0, 0, false⟩⟩ = (t, [Y.evF y s.now], 0, y.a, y.b) /\ Y.step t ⟨2, y.s, y.a, y.b, 0, ⟨0, 0, 0, false⟩⟩ = (t, [], 5, 0, 0) /\ Y.step t ⟨1, y.s, y.a, y.b, 0, ⟨0, 0, 0, false⟩⟩ = (t, [], 5, 0, 0) /\
  (t.h.any fun z => decide (z = ⟨y.a, y.b, s.now + s.p.h⟩)) = decide (0 < s.p.h) /\ L.find t.l y.a y.b = -1 /\ t.l.length + 1 = s.l.length := by
 obtain ⟨h1, h2, h3, h4, h5, h6⟩ := Y.released (s := s) (y := y) (r := ⟨2, y.s, y.a, y.b, 0, ⟨0, 0, 0, false⟩⟩) (q := ⟨1, y.s, y.a, y.b, 0, ⟨0, 0, 0, false⟩⟩) hm hy rfl rfl rfl rfl rfl rfl rfl
 exact ⟨_, h1, h2, h3, h4, h5, h6⟩
theorem L.any_take {α : Type} {p : α -> Bool} {l : List α} {k : Nat} {z : α} (h : l[k]? = some z) : (l.take (k + 1)).any p = ((l.take k).any p || p z) := by
 rw [List.take_add_one, h]; simp
theorem AllocReleases_in (s : Y.St) (ap : Option Addr) (np cp : Nat) (al : Option Addr) (nl cl : Nat) (ah : Option Addr) (nh ch : Nat) (i : Int) (w : World) (h : Y.SIn w ⟨ap, np, cp, al, nl, cl, ah, nh, ch⟩ s) (sm : O.Sm s.ps) (hb : s.d.b <= 9223372036854775807) (hc : s.d.c <= 9223372036854775807) :
  Calls Tryz.prog 11 #[.agg #[.int .i64 s.d.b, .int .i64 s.d.k, .int .i64 s.d.c, .int .i64 s.d.j, .int .i64 s.d.lo, .int .i64 s.d.hi, .int .i64 s.d.dy, .int .i64 s.d.bl, .int .i64 s.p.q, .int .i64 s.p.i, .int .i64 s.p.h, .bool s.p.pair, .int .i64 s.now, .slice ap np cp, .slice al nl cl, .slice ah nh ch], .int .i64 i] w fun e w' => e = .returned (.bool true) /\ Below w.heap.size w w' := by
 have HB0 := Zh (Below.refl w.heap.size w)
 have HI0 := Zh (h)
 have HSM := Zh sm
 clear h sm
 obtain ⟨w1, hw1, hb, hk⟩ := Zn w 32 #[.int .i64 s.d.b, .int .i64 s.d.k, .int .i64 s.d.c, .int .i64 s.d.j, .int .i64 s.d.lo, .int .i64 s.d.hi, .int .i64 s.d.dy, .int .i64 s.d.bl, .int .i64 s.p.q, .int .i64 s.p.i, .int .i64 s.p.h, .bool s.p.pair, .int .i64 s.now, .slice ap np cp, .slice al nl cl, .slice ah nh ch]
 have HI1 := Zh (HI0.out.below hb)
 have HB1 := Zt HB0 hb
 have KS1 := Zh hk
 clear hb hk HI0 HB0
 obtain ⟨c0, c1, c2, c3, c4, c5, c6, c7, c8, c9, c10, c11, c12, c13, c14, c15⟩ := Y.cs16 KS1.out
 obtain ⟨fw, hfw⟩ : ∃ b, (decide (nl <= 40) && decide (nh <= 40) && decide (np <= 6)) = b := ⟨_, rfl⟩
 have HFW := Zh hfw
 clear hfw
 go_enter Tryz.func11, Tryz.ntmps11
 go_wp2_with fail
 try rw [hw1]
 refine (zb0 w1).mono ?_
 clear c0 c1 c2 c3 c4 c5 c6 c7 c8 c9 c10 c11 c12 c13 c14 c15
 rintro e w2 ⟨rfl, hb⟩
 have HI2 := Zh (HI1.out.below hb)
 have KS2 := Zk KS1 hb
 have HB2 := Zt HB1 hb
 clear hb HI1 KS1 HB1
 obtain ⟨c0, c1, c2, c3, c4, c5, c6, c7, c8, c9, c10, c11, c12, c13, c14, c15⟩ := Y.cs16 KS2.out
 clear hw1
 go_wp2_with fail
 refine (zcx s ap np cp al nl cl ah nh ch fw HFW.out w2).mono ?_
 clear c0 c1 c2 c3 c4 c5 c6 c7 c8 c9 c10 c11 c12 c13 c14 c15
 rintro e w3 ⟨rfl, hb⟩
 have HI3 := Zh (HI2.out.below hb)
 have KS3 := Zk KS2 hb
 have HB3 := Zt HB2 hb
 clear hb HI2 KS2 HB2
 obtain ⟨c0, c1, c2, c3, c4, c5, c6, c7, c8, c9, c10, c11, c12, c13, c14, c15⟩ := Y.cs16 KS3.out
 cases fw with
 | false =>
  go_wp2
  go_ret
  exact ⟨rfl, HB3.out⟩
 | true =>
  have hfe := HFW.out
  simp only [Bool.and_eq_true, decide_eq_true_eq] at hfe
  obtain ⟨⟨hnl, hnh⟩, hnp⟩ := hfe
  have HFT : Hid (Y.Fits ⟨ap, np, cp, al, nl, cl, ah, nh, ch⟩ s) := Zh ⟨by show np <= 600; omega, by show nl <= 600; omega, by show nh <= 600; omega, HSM.out, hb, hc⟩
  by_cases g1 : i < 0
  ·have d1_0 : decide (i < 0) = true := decide_eq_true (by omega)
   go_wp2
   go_ret
   exact ⟨rfl, HB3.out⟩
  have d1_0 : decide (i < 0) = false := decide_eq_false (by omega)
  obtain ⟨k, rfl⟩ := Int.eq_ofNat_of_zero_le (show 0 <= i by omega)
  by_cases g2 : nl <= k
  ·have d2_0 : decide ((k : Int) ≥ (nl : Int)) = true := decide_eq_true (by omega)
   have d2_1 : decide ((nl : Int) <= (k : Int)) = true := decide_eq_true (by omega)
   have d2_2 : decide (nl <= k) = true := decide_eq_true (by omega)
   go_wp2
   go_ret
   exact ⟨rfl, HB3.out⟩
  have d2_0 : decide ((k : Int) ≥ (nl : Int)) = false := decide_eq_false (by omega)
  have d2_1 : decide ((nl : Int) <= (k : Int)) = false := decide_eq_false (by omega)
  have d2_2 : decide (nl <= k) = false := decide_eq_false (by omega)
  have hk : k < nl := by omega
  obtain ⟨vm, hvm⟩ : ∃ b, decide (Y.May s) = b := ⟨_, rfl⟩
  have HVM := Zh hvm
  clear hvm
  go_wp2_with fail
  refine (zbj s ⟨ap, np, cp, al, nl, cl, ah, nh, ch⟩ vm HVM.out w3 HI3.out HFT.out).mono ?_
  clear c0 c1 c2 c3 c4 c5 c6 c7 c8 c9 c10 c11 c12 c13 c14 c15
  rintro e w4 ⟨rfl, hb⟩
  have HI4 := Zh (HI3.out.below hb)
  have KS4 := Zk KS3 hb
  have HB4 := Zt HB3 hb
  clear hb HI3 KS3 HB3
  obtain ⟨c0, c1, c2, c3, c4, c5, c6, c7, c8, c9, c10, c11, c12, c13, c14, c15⟩ := Y.cs16 KS4.out
  cases vm with
  | false =>
   go_wp2
   go_ret
   exact ⟨rfl, HB4.out⟩
  | true =>
   have hm : Y.May s := of_decide_eq_true HVM.out
   obtain ⟨b0, off, y, hal, hb0, hy, p0, p1, p2, p3, p4⟩ := HI4.out.l.at5 hk
   have hal' : al = some ⟨b0, off, none⟩ := hal
   rw [hal'] at c14
   clear hal hal'
   have HY := Zh hy
   clear hy hb0
   have u0 : decide ((k : Int) < (nl : Int)) = true := decide_eq_true (by omega)
   have u1 : decide (k < nl) = true := decide_eq_true hk
   have u2 : (0 : Int) <= k := by omega
   have u3 : (k : Int) < nl := by omega
   obtain ⟨t, h1, h2, h3, h4, h5, h6⟩ := Y.rel_is hm (List.mem_of_getElem? HY.out)
   have HM := Zh hm
   have HS1 := Zh h1
   have HS2 := Zh h2
   have HS3 := Zh h3
   have HA := Zh h4
   have HFD := Zh h5
   have HLN := Zh h6
   clear h1 h2 h3 h4 h5 h6 hm
   obtain ⟨w5, he5⟩ : ∃ W, w4.alloc (.cells #[.int .i64 0, .int .i64 0, .int .i64 0, .int .i64 0, .int .i64 0] 58) = W := ⟨_, rfl⟩
   obtain ⟨w6, hp6⟩ : ∃ W, w5.setRow w4.heap.size #[.int .i64 y.s, .int .i64 y.a, .int .i64 y.b, .int .i64 y.f, .int .i64 y.t] = W := ⟨_, rfl⟩
   obtain ⟨kz1, ka, hb, hsz⟩ := box0 he5 hp6
   have HZ6 := Zh kz1
   have HP6 := Zh hp6
   clear hsz
   have HI6 := Zh (HI4.out.below hb)
   have KS6 := Zk KS4 hb
   have HB6 := Zt HB4 hb
   have KY6 := Zh ka
   clear kz1 ka hb hp6 HI4 KS4 HB4
   have y0 := Y.as5 KY6.out
   have QHI := HI6
   have QKS := KS6
   have QKY := KY6
   have HX6 : Hid (Below w6.heap.size w6 w6) := Zh (Below.refl _ _)
   have LWB := Zh HB6.out.size
   obtain ⟨w7, he7⟩ : ∃ W, w6.alloc (.cells #[.int .i64 0, .int .i64 0, .int .i64 0, .int .i64 0, .int .i64 0, .int .i64 0, .int .i64 0, .int .i64 0, .bool false] 34) = W := ⟨_, rfl⟩
   obtain ⟨w8, hp8⟩ : ∃ W, w7.setRow w6.heap.size #[.int .i64 2, .int .i64 y.s, .int .i64 y.a, .int .i64 y.b, .int .i64 0, .int .i64 0, .int .i64 0, .int .i64 0, .bool false] = W := ⟨_, rfl⟩
   obtain ⟨kz1, ka, hb, hsz⟩ := box0 he7 hp8
   have HZ8 := Zh kz1
   have HP8 := Zh hp8
   clear hsz
   have HI8 := Zh (HI6.out.below hb)
   have KS8 := Zk KS6 hb
   have KY8 := Zk KY6 hb
   have HX8 := Zt HX6 hb
   have HB8 := Zt HB6 hb
   have KR8 := Zh ka
   clear kz1 ka hb hp8 HI6 KS6 KY6 HX6 HB6
   have LK0 := Zh KR8.out.lt
   go_wp2_with (first | (refine Zw HZ6.out HP6.out ?_) | (refine Zw HZ8.out HP8.out ?_) | (refine zak KS8.out rfl rfl (by kernel_rfl) Tryz.underlying32 rfl (by kernel_rfl) ?_) | (refine zak KR8.out rfl rfl (by kernel_rfl) Tryz.underlying34 rfl (by kernel_rfl) ?_))
   clear he5 HZ6 HP6
   clear c0 c1 c2 c3 c4 c5 c6 c7 c8 c9 c10 c11 c12 c13 c14 c15
   clear p0 p1 p2 p3 p4
   clear he7 HZ8 HP8
   clear y0
   refine (zca s ap np cp al nl cl ah nh ch ⟨2, y.s, y.a, y.b, 0, ⟨0, 0, 0, false⟩⟩ t [Y.evF y s.now] 0 y.a y.b 1 HS1.out rfl w8 HI8.out HFT.out (fun h => by cases h)).mono ?_
   rintro e w9 ⟨apa, npa, cpa, ala, nla, cla, aha, nha, cha, eaa, eca, rfl, hi, hv, hf2, hu, he, hb⟩
   have HI9 := Zh (HI8.out.below hb)
   have KS9 := Zk KS8 hb
   have KY9 := Zk KY8 hb
   have HX9 := Zt HX8 hb
   have KR9 := Zk KR8 hb
   have HB9 := Zt HB8 hb
   clear hb HI8 KS8 KY8 HX8 KR8 HB8
   have HTa9 := hi
   have HVa9 := hv
   have HFa := hf2
   have HUa := hu
   have HEa := he
   clear hi hv hf2 hu he
   obtain ⟨w10, he10⟩ : ∃ W, w9.alloc (.cells #[.int .i64 0, .int .i64 0, .int .i64 0, .int .i64 0, .int .i64 0, .int .i64 0, .int .i64 0, .int .i64 0, .int .i64 0, .int .i64 0, .int .i64 0, .bool false, .int .i64 0, .slice none 0 0, .slice none 0 0, .slice none 0 0] 32) = W := ⟨_, rfl⟩
   obtain ⟨w11, he11⟩ : ∃ W, w10.alloc (.cells #[.int .i64 0, .int .i64 0, .int .i64 0] 40) = W := ⟨_, rfl⟩
   obtain ⟨w12, hp12⟩ : ∃ W, w11.setRow w9.heap.size #[.int .i64 t.d.b, .int .i64 t.d.k, .int .i64 t.d.c, .int .i64 t.d.j, .int .i64 t.d.lo, .int .i64 t.d.hi, .int .i64 t.d.dy, .int .i64 t.d.bl, .int .i64 t.p.q, .int .i64 t.p.i, .int .i64 t.p.h, .bool t.p.pair, .int .i64 t.now, .slice apa npa cpa, .slice ala nla cla, .slice aha nha cha] = W := ⟨_, rfl⟩
   obtain ⟨w13, hp13⟩ : ∃ W, w12.setRow w10.heap.size #[.int .i64 0, .int .i64 y.a, .int .i64 y.b] = W := ⟨_, rfl⟩
   obtain ⟨kz1, kz2, kt, ka, hb, hsz⟩ := box2 he10 he11 hp12 hp13
   have HZ1 := Zh kz1
   have HZ2 := Zh kz2
   have HP1 := Zh hp12
   have HP2 := Zh hp13
   have HSZ13 := Zh hsz
   clear hsz
   have HI13 := Zh (HI9.out.below hb)
   have KS13 := Zk KS9 hb
   have KY13 := Zk KY9 hb
   have HX13 := Zt HX9 hb
   have KR13 := Zk KR9 hb
   have HTa13 := Zh (HTa9.out.below hb)
   have HVa13 := Zh (HVa9.out.below hb)
   have HB13 := Zt HB9 hb
   have KT13 := Zh kt
   have KA13 := Zh ka
   have hlt13 := hb.size
   clear kz1 kz2 kt ka hb hp12 hp13 HI9 KS9 KY9 HX9 KR9 HTa9 HVa9 HB9
   have HZ113 := HZ1
   have HZ213 := HZ2
   have HP113 := HP1
   have HP213 := HP2
   clear HZ1 HZ2 HP1 HP2 hlt13
   go_wp2_with (first | (refine Zw HZ113.out HP113.out ?_) | (refine Zw HZ213.out HP213.out ?_) | (refine zak KT13.out rfl rfl (by kernel_rfl) Tryz.underlying32 rfl (by kernel_rfl) ?_) | (refine zak KR13.out rfl rfl (by kernel_rfl) Tryz.underlying34 rfl (by kernel_rfl) ?_))
   clear he10 he11 HZ113 HZ213 HP113 HP213
   refine (zca t apa npa cpa ala nla cla aha nha cha ⟨2, y.s, y.a, y.b, 0, ⟨0, 0, 0, false⟩⟩ t [] 5 0 0 0 HS2.out rfl w13 HTa13.out HFa.out (fun h => by cases h)).mono ?_
   rintro e w14 ⟨apb, npb, cpb, alb, nlb, clb, ahb, nhb, chb, eab, ecb, rfl, hi, hv, hf2, hu, he, hb⟩
   have HI14 := Zh (HI13.out.below hb)
   have KS14 := Zk KS13 hb
   have KY14 := Zk KY13 hb
   have HX14 := Zt HX13 hb
   have KR14 := Zk KR13 hb
   have HTa14 := Zh (HTa13.out.below hb)
   have HVa14 := Zh (HVa13.out.below hb)
   have KT14 := Zk KT13 hb
   have KA14 := Zk KA13 hb
   have HB14 := Zt HB13 hb
   clear hb HI13 KS13 KY13 HX13 KR13 HTa13 HVa13 KT13 KA13 HB13
   have HTb14 := hi
   have HVb14 := hv
   have HFb := hf2
   have HUb := hu
   have HEb := he
   clear hi hv hf2 hu he
   clear HTb14
   clear HVb14
   obtain ⟨w15, he15⟩ : ∃ W, w14.alloc (.cells #[.int .i64 0, .int .i64 0, .int .i64 0, .int .i64 0, .int .i64 0, .int .i64 0, .int .i64 0, .int .i64 0, .int .i64 0, .int .i64 0, .int .i64 0, .bool false, .int .i64 0, .slice none 0 0, .slice none 0 0, .slice none 0 0] 32) = W := ⟨_, rfl⟩
   obtain ⟨w16, he16⟩ : ∃ W, w15.alloc (.cells #[.int .i64 0, .int .i64 0, .int .i64 0] 40) = W := ⟨_, rfl⟩
   obtain ⟨w17, hp17⟩ : ∃ W, w16.setRow w14.heap.size #[.int .i64 t.d.b, .int .i64 t.d.k, .int .i64 t.d.c, .int .i64 t.d.j, .int .i64 t.d.lo, .int .i64 t.d.hi, .int .i64 t.d.dy, .int .i64 t.d.bl, .int .i64 t.p.q, .int .i64 t.p.i, .int .i64 t.p.h, .bool t.p.pair, .int .i64 t.now, .slice apb npb cpb, .slice alb nlb clb, .slice ahb nhb chb] = W := ⟨_, rfl⟩
   obtain ⟨w18, hp18⟩ : ∃ W, w17.setRow w15.heap.size #[.int .i64 5, .int .i64 0, .int .i64 0] = W := ⟨_, rfl⟩
   obtain ⟨kz1, kz2, kt, ka, hb, hsz⟩ := box2 he15 he16 hp17 hp18
   have HZ1 := Zh kz1
   have HZ2 := Zh kz2
   have HP1 := Zh hp17
   have HP2 := Zh hp18
   have HSZ18 := Zh hsz
   clear hsz
   have HI18 := Zh (HI14.out.below hb)
   have KS18 := Zk KS14 hb
   have KY18 := Zk KY14 hb
   have HX18 := Zt HX14 hb
   have KR18 := Zk KR14 hb
   have HTa18 := Zh (HTa14.out.below hb)
   have HVa18 := Zh (HVa14.out.below hb)
   have KT18 := Zk KT14 hb
   have KA18 := Zk KA14 hb
   have HB18 := Zt HB14 hb
   have KU18 := Zh kt
   have KC18 := Zh ka
   have hlt18 := hb.size
   clear kz1 kz2 kt ka hb hp17 hp18 HI14 KS14 KY14 HX14 KR14 HTa14 HVa14 KT14 KA14 HB14
   have HZ118 := HZ1
   have HZ218 := HZ2
   have HP118 := HP1
   have HP218 := HP2
   clear HZ1 HZ2 HP1 HP2 hlt18
   have old0 := Zv KR18.out 0 (.int .i64 2)
   have fro0 := KR18.out.frozen 0
   obtain ⟨w19, hs19⟩ : ∃ W, w18.setCell ⟨w6.heap.size, 0, none⟩ (.int .i64 1) = W := ⟨_, rfl⟩
   have hg : w18.grownBy w19 (some (w6.heap.size)) := by rw [<- hs19]; exact grown_set _ _ _ _
   have kt : Blok w19 (w6.heap.size) 34 #[.int .i64 1, .int .i64 y.s, .int .i64 y.a, .int .i64 y.b, .int .i64 0, .int .i64 0, .int .i64 0, .int .i64 0, .bool false] := by rw [<- hs19]; have := KR18.out.set 0 (.int .i64 1); simpa using this
   have HX19 := Zh (zbb HX18.out hg HX18.out.size (Nat.le_refl _))
   have HTa19 := Zh (HTa18.out.up HUa.out hg LK0.out)
   have HVa19 := Zh (Y.vin_up HVa18.out HEa.out hg LK0.out)
   have KT19 := Zh (KT18.out.keep KR18.out (by simp) hg)
   have KA19 := Zh (KA18.out.keep KR18.out (by simp) hg)
   have KU19 := Zh (KU18.out.keep KR18.out (by simp) hg)
   have KC19 := Zh (KC18.out.keep KR18.out (by simp) hg)
   have HI19 := Zh (QHI.out.below HX19.out)
   have KS19 := Zh (QKS.out.below HX19.out QKS.out.lt)
   have KY19 := Zh (QKY.out.below HX19.out QKY.out.lt)
   have HB19 := Zh (zbb HB18.out hg HB18.out.size (LWB.out))
   have KR19 := Zh kt
   clear kt hg HI18 KS18 KY18 HX18 KR18 HTa18 HVa18 KT18 KA18 KU18 KC18 HB18
   go_wp2_with (first | (refine Zw HZ118.out HP118.out ?_) | (refine Zw HZ218.out HP218.out ?_) | (refine zak KT19.out rfl rfl (by kernel_rfl) Tryz.underlying32 rfl (by kernel_rfl) ?_) | (refine zak KR19.out rfl rfl (by kernel_rfl) Tryz.underlying34 rfl (by kernel_rfl) ?_))
   clear he15 he16 HZ118 HZ218 HP118 HP218
   try rw [hs19]
   clear hs19 old0 fro0
   refine (zca t apa npa cpa ala nla cla aha nha cha ⟨1, y.s, y.a, y.b, 0, ⟨0, 0, 0, false⟩⟩ t [] 5 0 0 0 HS3.out rfl w19 HTa19.out HFa.out (fun h => by cases h)).mono ?_
   rintro e w20 ⟨apc, npc, cpc, alc, nlc, clc, ahc, nhc, chc, eac, ecc, rfl, hi, hv, hf2, hu, he, hb⟩
   have HX20 := Zt HX19 hb
   have HTa20 := Zh (HTa19.out.below hb)
   have HVa20 := Zh (HVa19.out.below hb)
   have KT20 := Zk KT19 hb
   have KA20 := Zk KA19 hb
   replace KU19 := Zk KU19 hb
   replace KC19 := Zk KC19 hb
   have HI20 := Zh (HI19.out.below hb)
   have KS20 := Zk KS19 hb
   have KY20 := Zk KY19 hb
   have KR20 := Zk KR19 hb
   have HB20 := Zt HB19 hb
   clear hb HX19 HTa19 HVa19 KT19 KA19 HI19 KS19 KY19 KR19 HB19
   have HTc20 := hi
   have HVc20 := hv
   have HFc := hf2
   have HUc := hu
   have HEc := he
   clear hi hv hf2 hu he
   clear HTc20
   clear HVc20
   obtain ⟨w21, he21⟩ : ∃ W, w20.alloc (.cells #[.int .i64 0, .int .i64 0, .int .i64 0, .int .i64 0, .int .i64 0, .int .i64 0, .int .i64 0, .int .i64 0, .int .i64 0, .int .i64 0, .int .i64 0, .bool false, .int .i64 0, .slice none 0 0, .slice none 0 0, .slice none 0 0] 32) = W := ⟨_, rfl⟩
   obtain ⟨w22, he22⟩ : ∃ W, w21.alloc (.cells #[.int .i64 0, .int .i64 0, .int .i64 0] 40) = W := ⟨_, rfl⟩
   obtain ⟨w23, hp23⟩ : ∃ W, w22.setRow w20.heap.size #[.int .i64 t.d.b, .int .i64 t.d.k, .int .i64 t.d.c, .int .i64 t.d.j, .int .i64 t.d.lo, .int .i64 t.d.hi, .int .i64 t.d.dy, .int .i64 t.d.bl, .int .i64 t.p.q, .int .i64 t.p.i, .int .i64 t.p.h, .bool t.p.pair, .int .i64 t.now, .slice apc npc cpc, .slice alc nlc clc, .slice ahc nhc chc] = W := ⟨_, rfl⟩
   obtain ⟨w24, hp24⟩ : ∃ W, w23.setRow w21.heap.size #[.int .i64 5, .int .i64 0, .int .i64 0] = W := ⟨_, rfl⟩
   obtain ⟨kz1, kz2, kt, ka, hb, hsz⟩ := box2 he21 he22 hp23 hp24
   have HZ1 := Zh kz1
   have HZ2 := Zh kz2
   have HP1 := Zh hp23
   have HP2 := Zh hp24
   have HSZ24 := Zh hsz
   clear hsz
   have HX24 := Zt HX20 hb
   have HTa24 := Zh (HTa20.out.below hb)
   have HVa24 := Zh (HVa20.out.below hb)
   have KT24 := Zk KT20 hb
   have KA24 := Zk KA20 hb
   replace KU19 := Zk KU19 hb
   replace KC19 := Zk KC19 hb
   have HI24 := Zh (HI20.out.below hb)
   have KS24 := Zk KS20 hb
   have KY24 := Zk KY20 hb
   have KR24 := Zk KR20 hb
   have HB24 := Zt HB20 hb
   have KV24 := Zh kt
   have KE24 := Zh ka
   have hlt24 := hb.size
   clear kz1 kz2 kt ka hb hp23 hp24 HX20 HTa20 HVa20 KT20 KA20 HI20 KS20 KY20 KR20 HB20
   have HZ124 := HZ1
   have HZ224 := HZ2
   have HP124 := HP1
   have HP224 := HP2
   clear HZ1 HZ2 HP1 HP2 hlt24
   clear KU19
   clear KV24
   clear KR24
   obtain ⟨c0, c1, c2, c3, c4, c5, c6, c7, c8, c9, c10, c11, c12, c13, c14, c15⟩ := Y.cs16 KS24.out
   obtain ⟨t0, t1, t2, t3, t4, t5, t6, t7, t8, t9, t10, t11, t12, t13, t14, t15⟩ := Y.cs16 KT24.out
   have y0 := Y.as5 KY24.out
   go_wp2_with (first | (refine Zw HZ124.out HP124.out ?_) | (refine Zw HZ224.out HP224.out ?_))
   clear he21 he22 HZ124 HZ224 HP124 HP224
   have hnn : s.now + s.p.h <= 9223372036854775807 /\ -9223372036854775808 <= s.now + s.p.h := by have h1 := HM.out.2.1; have h2 := HM.out.2.2.2.1; unfold Y.MayP at h1; omega
   obtain ⟨hnn1, hnn2⟩ := hnn
   have hw1 : IntKind.i64.wrap (s.now + s.p.h) = s.now + s.p.h := by rw [IntWalk.i64_left, IntWalk.wrap64_in _ (by omega)]
   have hw2 : wrap64 (s.now + s.p.h) = s.now + s.p.h := by rw [<- IntWalk.i64_left]; exact hw1
   have hnha : nha <= 600 := HFa.out.h
   have HA2 := HA
   clear HA
   go_loopw [18, 19] (fun s18 s19 wr => ∃ k : Nat, s18 = .bool ((t.h.take k).any fun z => decide (z = ⟨y.a, y.b, s.now + s.p.h⟩)) /\ s19 = .int .i64 k /\ k <= nha /\ Hid (Below w24.heap.size w24 wr)) (fun _ s19 _ => nha - (intOf s19).toNat)
   case atStart => exact ⟨0, by simp, rfl, by omega, Zh (Below.refl _ _)⟩
   case round =>
    obtain ⟨k', rfl, rfl, hkn, HW⟩ := hrel
    have HWK := HW
    obtain ⟨hd, hhd⟩ : ∃ b, ((t.h.take k').any fun z => decide (z = ⟨y.a, y.b, s.now + s.p.h⟩)) = b := ⟨_, rfl⟩
    rw [hhd]
    have HHD := Zh hhd
    clear hhd
    clear c0 c1 c2 c3 c4 c5 c6 c7 c8 c9 c10 c11 c12 c13 c14 c15
    clear t0 t1 t2 t3 t4 t5 t6 t7 t8 t9 t10 t11 t12 t13 t14 t15
    clear y0
    have hb := HW.out
    have HX25 := Zt HX24 hb
    have HTa25 := Zh (HTa24.out.below hb)
    have HVa25 := Zh (HVa24.out.below hb)
    have KT25 := Zk KT24 hb
    have KA25 := Zk KA24 hb
    replace KC19 := Zk KC19 hb
    have HI25 := Zh (HI24.out.below hb)
    have KS25 := Zk KS24 hb
    have KY25 := Zk KY24 hb
    replace KE24 := Zk KE24 hb
    have HB25 := Zt HB24 hb
    clear hb HW HX24 HTa24 HVa24 KT24 KA24 HI24 KS24 KY24 HB24
    obtain ⟨c0, c1, c2, c3, c4, c5, c6, c7, c8, c9, c10, c11, c12, c13, c14, c15⟩ := Y.cs16 KS25.out
    obtain ⟨t0, t1, t2, t3, t4, t5, t6, t7, t8, t9, t10, t11, t12, t13, t14, t15⟩ := Y.cs16 KT25.out
    have y0 := Y.as5 KY25.out
    by_cases hlt : k' < nha
    ·have HLT := Zh hlt
     have d1 : decide ((k' : Int) < nha) = true := decide_eq_true (by omega)
     have d1' : decide (k' < nha) = true := decide_eq_true hlt
     have k0 : (0 : Int) <= k' := by omega
     have k1 : (k' : Int) < nha := by omega
     obtain ⟨b1, off1, z, hal', hb1, hz, z0, z1, z2⟩ := HTa25.out.h.at3 hlt
     have hal2 : aha = some ⟨b1, off1, none⟩ := hal'
     rw [hal2] at t15
     clear hal2 hal' hb1
     have HNX := Zh (L.any_take (p := fun z => decide (z = (⟨y.a, y.b, s.now + s.p.h⟩ : L.T3))) hz)
     rw [HHD.out] at HNX
     clear hz
     cases hd with
     | true =>
      go_wp2_with fail
      go_quiet (fail)
      go_wp2
      go_roundw
      case rel => exact ⟨k' + 1, by rw [HNX.out]; simp, by go_num, by have := HLT.out; omega, Zh (HWK.out.trans (zad _ _ _))⟩
      case measure => have := HLT.out; simp [intOf] <;> omega
     | false =>
      obtain ⟨za, zb, zx⟩ := z
      simp only at z0 z1 z2
      by_cases e0 : za = y.a
      ·subst e0
       by_cases e1 : zb = y.b
       ·subst e1
        by_cases e2 : zx = s.now + s.p.h
        ·subst e2
         go_wp2_with fail
         go_quiet (fail)
         go_wp2
         go_roundw
         case rel => exact ⟨k' + 1, by rw [HNX.out]; simp, by go_num, by have := HLT.out; omega, Zh (HWK.out.trans (zad _ _ _))⟩
         case measure => have := HLT.out; simp [intOf] <;> omega
        ·have e2' : (zx == s.now + s.p.h) = false := by simpa using e2
         go_wp2_with fail
         go_quiet (fail)
         go_wp2
         go_roundw
         case rel => exact ⟨k' + 1, by rw [HNX.out]; simp [e2], by go_num, by have := HLT.out; omega, Zh (HWK.out.trans (zad _ _ _))⟩
         case measure => have := HLT.out; simp [intOf] <;> omega
       ·have e1' : (zb == y.b) = false := by simpa using e1
        go_wp2_with fail
        go_quiet (fail)
        go_wp2
        go_roundw
        case rel => exact ⟨k' + 1, by rw [HNX.out]; simp [e1], by go_num, by have := HLT.out; omega, Zh (HWK.out.trans (zad _ _ _))⟩
        case measure => have := HLT.out; simp [intOf] <;> omega
      ·have e0' : (za == y.a) = false := by simpa using e0
       go_wp2_with fail
       go_quiet (fail)
       go_wp2
       go_roundw
       case rel => exact ⟨k' + 1, by rw [HNX.out]; simp [e0], by go_num, by have := HLT.out; omega, Zh (HWK.out.trans (zad _ _ _))⟩
       case measure => have := HLT.out; simp [intOf] <;> omega
    have d1 : decide ((k' : Int) < nha) = false := decide_eq_false (by omega)
    have d1' : decide (k' < nha) = false := decide_eq_false hlt
    have hlh : t.h.length = nha := HTa25.out.h.1
    have hgt : hd = decide (s.p.h > 0) := by
     rw [<- HHD.out, List.take_of_length_le (by omega)]; exact HA2.out
    clear hlh
    obtain ⟨gb, hgb⟩ : ∃ b, decide (s.p.h > 0) = b := ⟨_, rfl⟩
    have hgb' : decide (0 < s.p.h) = gb := hgb
    rw [hgb] at hgt
    obtain rfl : hd = gb := hgt
    obtain ⟨a0, a1, a2⟩ := Y.as3 KA25.out
    obtain ⟨b0, b1, b2⟩ := Y.as3 KC19.out
    obtain ⟨e0, e1, e2⟩ := Y.as3 KE24.out
    skip
    go_wp2_with fail
    refine (find_any ala nla cla t.l y.a y.b (-1) HFD.out wr HTa25.out.l (by have := HFa.out.l; exact Nat.le_trans this (by decide))).mono ?_
    clear c0 c1 c2 c3 c4 c5 c6 c7 c8 c9 c10 c11 c12 c13 c14 c15
    clear t0 t1 t2 t3 t4 t5 t6 t7 t8 t9 t10 t11 t12 t13 t14 t15
    clear y0
    clear a0 a1 a2
    clear b0 b1 b2
    clear e0 e1 e2
    rintro e w26 ⟨rfl, hb⟩
    have HX26 := Zt HX25 hb
    have HTa26 := Zh (HTa25.out.below hb)
    have HVa26 := Zh (HVa25.out.below hb)
    have KT26 := Zk KT25 hb
    have KA26 := Zk KA25 hb
    replace KC19 := Zk KC19 hb
    have HI26 := Zh (HI25.out.below hb)
    have KS26 := Zk KS25 hb
    have KY26 := Zk KY25 hb
    replace KE24 := Zk KE24 hb
    have HB26 := Zt HB25 hb
    clear hb HX25 HTa25 HVa25 KT25 KA25 HI25 KS25 KY25 HB25
    obtain ⟨c0, c1, c2, c3, c4, c5, c6, c7, c8, c9, c10, c11, c12, c13, c14, c15⟩ := Y.cs16 KS26.out
    obtain ⟨t0, t1, t2, t3, t4, t5, t6, t7, t8, t9, t10, t11, t12, t13, t14, t15⟩ := Y.cs16 KT26.out
    have y0 := Y.as5 KY26.out
    obtain ⟨a0, a1, a2⟩ := Y.as3 KA26.out
    obtain ⟨b0, b1, b2⟩ := Y.as3 KC19.out
    obtain ⟨e0, e1, e2⟩ := Y.as3 KE24.out
    have hq1 : t.l.length = nla := HTa26.out.l.1
    have hq2 : s.l.length = nl := HI26.out.l.1
    have hq : nl = nla + 1 := by have := HLN.out; omega
    clear hq1 hq2
    have q1 : IntKind.i64.wrap ((nl : Int) - 1) = (nla : Int) := by rw [IntWalk.i64_left, IntWalk.wrap64_in _ (by omega)]; omega
    have q2 : wrap64 ((nl : Int) - 1) = (nla : Int) := by rw [<- IntWalk.i64_left]; exact q1
    have q3 : (nl : Int) - 1 = (nla : Int) := by omega
    clear hq
    go_wp2
    go_ret
    exact ⟨rfl, HB26.out⟩
end Go.Proofs.YtonejangijkdmaaGreat
