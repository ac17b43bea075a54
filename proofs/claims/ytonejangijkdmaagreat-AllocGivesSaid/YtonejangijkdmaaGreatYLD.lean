import Derived.Test.YtonejangijkdmaaGreatYWK
namespace Go.Proofs.YtonejangijkdmaaGreat
set_option maxHeartbeats 4000000
set_option maxRecDepth 100000
open Go.RowKit
theorem Y.gives_is {s : Y.St} {sub : Int} (hm : Y.May s) (h0 : (Y.step s ⟨0, sub, 0, 0, 0, ⟨0, 0, 0, false⟩⟩).2.2.1 = 0) :
  ∃ (t : Y.St) (x b : Int) (j : Nat), Y.step s ⟨0, sub, 0, 0, 0, ⟨0, 0, 0, false⟩⟩ = (t, [⟨0, s.now, sub, x, b, Y.zp⟩], 0, x, b) /\ (∀ y ∈ s.h, ¬ (y.a = x /\ y.b = b)) /\ L.find s.l x b = -1 /\ O.gives s.ps x = true /\
   L.find t.l x b = (j : Int) /\ t.l[j]? = some ⟨sub, x, b, s.now, s.now⟩ /\ L.del t.l x b = (s.l, true) /\ t.ps = s.ps := by
 rw [Y.step_grant hm rfl] at h0 ⊢
 rcases Y.grant_cases (s := s) (sub := sub) hm with ⟨e, he, h⟩ | ⟨x, b, _, _, _, _, _, h6, h7, h8, h9, h⟩
 ·rw [h] at h0; exact absurd h0 he
 ·exact ⟨_, x, b, L.spot s.l x b, h, h9, h8, h7, L.put_find h6, L.put_at h6, L.put_del h6, rfl⟩
theorem AllocGives_in (s : Y.St) (ap : Option Addr) (np cp : Nat) (al : Option Addr) (nl cl : Nat) (ah : Option Addr) (nh ch : Nat) (sub : Int) (w : World) (h : Y.SIn w ⟨ap, np, cp, al, nl, cl, ah, nh, ch⟩ s) (sm : O.Sm s.ps) (hb : s.d.b <= 9223372036854775807) (hc : s.d.c <= 9223372036854775807) :
  Calls Tryz.prog 10 #[.agg #[.int .i64 s.d.b, .int .i64 s.d.k, .int .i64 s.d.c, .int .i64 s.d.j, .int .i64 s.d.lo, .int .i64 s.d.hi, .int .i64 s.d.dy, .int .i64 s.d.bl, .int .i64 s.p.q, .int .i64 s.p.i, .int .i64 s.p.h, .bool s.p.pair, .int .i64 s.now, .slice ap np cp, .slice al nl cl, .slice ah nh ch], .int .i64 sub] w fun e w' => e = .returned (.bool true) /\ Below w.heap.size w w' := by
 have HB0 := Zh (Below.refl w.heap.size w)
 have HI0 := Zh (h)
 have HSM := Zh sm
 clear h sm
 obtain ⟨w1, hw1, hb, hk⟩ := Zn w 32 #[.int .i64 s.d.b, .int .i64 s.d.k, .int .i64 s.d.c, .int .i64 s.d.j, .int .i64 s.d.lo, .int .i64 s.d.hi, .int .i64 s.d.dy, .int .i64 s.d.bl, .int .i64 s.p.q, .int .i64 s.p.i, .int .i64 s.p.h, .bool s.p.pair, .int .i64 s.now, .slice ap np cp, .slice al nl cl, .slice ah nh ch]
 replace HI0 := Zh (HI0.out.below hb)
 replace HB0 := Zt HB0 hb
 have KS1 := Zh hk
 clear hb hk
 obtain ⟨c0, c1, c2, c3, c4, c5, c6, c7, c8, c9, c10, c11, c12, c13, c14, c15⟩ := Y.cs16 KS1.out
 obtain ⟨fw, hfw⟩ : ∃ b, (decide (nl <= 40) && decide (nh <= 40) && decide (np <= 6)) = b := ⟨_, rfl⟩
 have HFW := Zh hfw
 clear hfw
 go_enter Tryz.func10, Tryz.ntmps10
 go_wp2_with fail
 try rw [hw1]
 refine (zb0 w1).mono ?_
 clear c0 c1 c2 c3 c4 c5 c6 c7 c8 c9 c10 c11 c12 c13 c14 c15
 rintro e w2 ⟨rfl, hb⟩
 replace HI0 := Zh (HI0.out.below hb)
 replace KS1 := Zk KS1 hb
 replace HB0 := Zt HB0 hb
 clear hb
 obtain ⟨c0, c1, c2, c3, c4, c5, c6, c7, c8, c9, c10, c11, c12, c13, c14, c15⟩ := Y.cs16 KS1.out
 clear hw1
 go_wp2_with fail
 refine (zcx s ap np cp al nl cl ah nh ch fw HFW.out w2).mono ?_
 clear c0 c1 c2 c3 c4 c5 c6 c7 c8 c9 c10 c11 c12 c13 c14 c15
 rintro e w3 ⟨rfl, hb⟩
 replace HI0 := Zh (HI0.out.below hb)
 replace KS1 := Zk KS1 hb
 replace HB0 := Zt HB0 hb
 clear hb
 obtain ⟨c0, c1, c2, c3, c4, c5, c6, c7, c8, c9, c10, c11, c12, c13, c14, c15⟩ := Y.cs16 KS1.out
 cases fw with
 | false =>
  go_wp2
  go_ret
  exact ⟨rfl, HB0.out⟩
 | true =>
  have hfe := HFW.out
  simp only [Bool.and_eq_true, decide_eq_true_eq] at hfe
  obtain ⟨⟨hnl, hnh⟩, hnp⟩ := hfe
  have HFT : Hid (Y.Fits ⟨ap, np, cp, al, nl, cl, ah, nh, ch⟩ s) := Zh ⟨by show np <= 600; omega, by show nl <= 600; omega, by show nh <= 600; omega, HSM.out, hb, hc⟩
  rcases Y.step_good s ⟨0, sub, 0, 0, 0, ⟨0, 0, 0, false⟩⟩ with ⟨er, her, hst⟩ | ⟨h0, hm2, hnow, hd⟩
  ·have HST := Zh hst
   clear hst
   have e1 : (er != 0) = true := by simpa using her
   go_wp2_with (first | (refine zak KS1.out rfl rfl (by kernel_rfl) Tryz.underlying32 rfl (by kernel_rfl) ?_))
   refine (zca s ap np cp al nl cl ah nh ch ⟨0, sub, 0, 0, 0, ⟨0, 0, 0, false⟩⟩ s [] er 0 0 0 HST.out rfl w3 HI0.out HFT.out (fun h => by cases h)).mono ?_
   clear c0 c1 c2 c3 c4 c5 c6 c7 c8 c9 c10 c11 c12 c13 c14 c15
   rintro e w4 ⟨apa, npa, cpa, ala, nla, cla, aha, nha, cha, eaa, eca, rfl, hi, hv, hf2, hu, he, hb⟩
   replace HI0 := Zh (HI0.out.below hb)
   replace KS1 := Zk KS1 hb
   replace HB0 := Zt HB0 hb
   clear hb
   have HTa4 := hi
   have HVa4 := hv
   obtain ⟨c0, c1, c2, c3, c4, c5, c6, c7, c8, c9, c10, c11, c12, c13, c14, c15⟩ := Y.cs16 KS1.out
   have HFa := hf2
   have HUa := hu
   have HEa := he
   clear hi hv hf2 hu he
   clear c0 c1 c2 c3 c4 c5 c6 c7 c8 c9 c10 c11 c12 c13 c14 c15
   obtain ⟨w5, he5⟩ : ∃ W, w4.alloc (.cells #[.int .i64 0, .int .i64 0, .int .i64 0, .int .i64 0, .int .i64 0, .int .i64 0, .int .i64 0, .int .i64 0, .int .i64 0, .int .i64 0, .int .i64 0, .bool false, .int .i64 0, .slice none 0 0, .slice none 0 0, .slice none 0 0] 32) = W := ⟨_, rfl⟩
   obtain ⟨w6, he6⟩ : ∃ W, w5.alloc (.cells #[.int .i64 0, .int .i64 0, .int .i64 0] 40) = W := ⟨_, rfl⟩
   obtain ⟨w7, hp7⟩ : ∃ W, w6.setRow w4.heap.size #[.int .i64 s.d.b, .int .i64 s.d.k, .int .i64 s.d.c, .int .i64 s.d.j, .int .i64 s.d.lo, .int .i64 s.d.hi, .int .i64 s.d.dy, .int .i64 s.d.bl, .int .i64 s.p.q, .int .i64 s.p.i, .int .i64 s.p.h, .bool s.p.pair, .int .i64 s.now, .slice apa npa cpa, .slice ala nla cla, .slice aha nha cha] = W := ⟨_, rfl⟩
   obtain ⟨w8, hp8⟩ : ∃ W, w7.setRow w5.heap.size #[.int .i64 er, .int .i64 0, .int .i64 0] = W := ⟨_, rfl⟩
   obtain ⟨kz1, kz2, kt, ka, hb, hsz⟩ := box2 he5 he6 hp7 hp8
   have HZ1 := Zh kz1
   have HZ2 := Zh kz2
   have HP1 := Zh hp7
   have HP2 := Zh hp8
   have HSZ8 := Zh hsz
   clear hsz
   replace HI0 := Zh (HI0.out.below hb)
   replace KS1 := Zk KS1 hb
   replace HTa4 := Zh (HTa4.out.below hb)
   replace HVa4 := Zh (HVa4.out.below hb)
   replace HB0 := Zt HB0 hb
   have KT8 := Zh kt
   have KA8 := Zh ka
   have hlt8 := hb.size
   clear kz1 kz2 kt ka hb hp7 hp8
   have HZ18 := HZ1
   have HZ28 := HZ2
   have HP18 := HP1
   have HP28 := HP2
   clear HZ1 HZ2 HP1 HP2 hlt8
   obtain ⟨a0, a1, a2⟩ := Y.as3 KA8.out
   go_wp2_with (first | (refine Zw HZ18.out HP18.out ?_) | (refine Zw HZ28.out HP28.out ?_))
   clear he5 he6 HZ18 HZ28 HP18 HP28
   go_ret
   exact ⟨rfl, HB0.out⟩
  ·obtain ⟨t, x, b, j, hst, hh, hf, hg, hft, hat, hdel, hps⟩ := Y.gives_is (Y.step_ok h0) h0
   clear h0 hm2 hnow hd
   have HST := Zh hst
   have HH := Zh hh
   have HF0 := Zh hf
   have HG := Zh hg
   have HFD := Zh hft
   have HAT := Zh hat
   have HDEL := Zh hdel
   have HPS := Zh hps
   clear hst hh hf hg hft hat hdel hps
   have e1 : ((0 : Int) != 0) = false := rfl
   go_wp2_with (first | (refine zak KS1.out rfl rfl (by kernel_rfl) Tryz.underlying32 rfl (by kernel_rfl) ?_))
   refine (zca s ap np cp al nl cl ah nh ch ⟨0, sub, 0, 0, 0, ⟨0, 0, 0, false⟩⟩ t [⟨0, s.now, sub, x, b, Y.zp⟩] 0 x b 1 HST.out rfl w3 HI0.out HFT.out (fun h => by cases h)).mono ?_
   clear c0 c1 c2 c3 c4 c5 c6 c7 c8 c9 c10 c11 c12 c13 c14 c15
   rintro e w4 ⟨apa, npa, cpa, ala, nla, cla, aha, nha, cha, eaa, eca, rfl, hi, hv, hf2, hu, he, hb⟩
   replace HI0 := Zh (HI0.out.below hb)
   replace KS1 := Zk KS1 hb
   replace HB0 := Zt HB0 hb
   clear hb
   have HTa4 := hi
   have HVa4 := hv
   obtain ⟨c0, c1, c2, c3, c4, c5, c6, c7, c8, c9, c10, c11, c12, c13, c14, c15⟩ := Y.cs16 KS1.out
   have HFa := hf2
   have HUa := hu
   have HEa := he
   clear hi hv hf2 hu he
   clear c0 c1 c2 c3 c4 c5 c6 c7 c8 c9 c10 c11 c12 c13 c14 c15
   obtain ⟨w5, he5⟩ : ∃ W, w4.alloc (.cells #[.int .i64 0, .int .i64 0, .int .i64 0, .int .i64 0, .int .i64 0, .int .i64 0, .int .i64 0, .int .i64 0, .int .i64 0, .int .i64 0, .int .i64 0, .bool false, .int .i64 0, .slice none 0 0, .slice none 0 0, .slice none 0 0] 32) = W := ⟨_, rfl⟩
   obtain ⟨w6, he6⟩ : ∃ W, w5.alloc (.cells #[.int .i64 0, .int .i64 0, .int .i64 0] 40) = W := ⟨_, rfl⟩
   obtain ⟨w7, hp7⟩ : ∃ W, w6.setRow w4.heap.size #[.int .i64 t.d.b, .int .i64 t.d.k, .int .i64 t.d.c, .int .i64 t.d.j, .int .i64 t.d.lo, .int .i64 t.d.hi, .int .i64 t.d.dy, .int .i64 t.d.bl, .int .i64 t.p.q, .int .i64 t.p.i, .int .i64 t.p.h, .bool t.p.pair, .int .i64 t.now, .slice apa npa cpa, .slice ala nla cla, .slice aha nha cha] = W := ⟨_, rfl⟩
   obtain ⟨w8, hp8⟩ : ∃ W, w7.setRow w5.heap.size #[.int .i64 0, .int .i64 x, .int .i64 b] = W := ⟨_, rfl⟩
   obtain ⟨kz1, kz2, kt, ka, hb, hsz⟩ := box2 he5 he6 hp7 hp8
   have HZ1 := Zh kz1
   have HZ2 := Zh kz2
   have HP1 := Zh hp7
   have HP2 := Zh hp8
   have HSZ8 := Zh hsz
   clear hsz
   replace HI0 := Zh (HI0.out.below hb)
   replace KS1 := Zk KS1 hb
   replace HTa4 := Zh (HTa4.out.below hb)
   replace HVa4 := Zh (HVa4.out.below hb)
   replace HB0 := Zt HB0 hb
   have KT8 := Zh kt
   have KA8 := Zh ka
   have hlt8 := hb.size
   clear kz1 kz2 kt ka hb hp7 hp8
   have HZ18 := HZ1
   have HZ28 := HZ2
   have HP18 := HP1
   have HP28 := HP2
   clear HZ1 HZ2 HP1 HP2 hlt8
   obtain ⟨a0, a1, a2⟩ := Y.as3 KA8.out
   obtain ⟨c0, c1, c2, c3, c4, c5, c6, c7, c8, c9, c10, c11, c12, c13, c14, c15⟩ := Y.cs16 KS1.out
   go_wp2_with (first | (refine Zw HZ18.out HP18.out ?_) | (refine Zw HZ28.out HP28.out ?_))
   clear he5 he6 HZ18 HZ28 HP18 HP28
   go_loopw [10] (fun i wr => ∃ k : Nat, i = .int .i64 k /\ k <= nh /\ Hid (Below w8.heap.size w8 wr)) (fun i _ => nh - (intOf i).toNat)
   case atStart => exact ⟨0, rfl, by omega, Zh (Below.refl _ _)⟩
   case round =>
    obtain ⟨k, rfl, hkn, HW⟩ := hrel
    have HWK := HW
    clear a0 a1 a2
    clear c0 c1 c2 c3 c4 c5 c6 c7 c8 c9 c10 c11 c12 c13 c14 c15
    have hb := HW.out
    replace HI0 := Zh (HI0.out.below hb)
    replace KS1 := Zk KS1 hb
    replace HTa4 := Zh (HTa4.out.below hb)
    replace HVa4 := Zh (HVa4.out.below hb)
    replace KT8 := Zk KT8 hb
    replace KA8 := Zk KA8 hb
    replace HB0 := Zt HB0 hb
    clear hb HW
    obtain ⟨a0, a1, a2⟩ := Y.as3 KA8.out
    obtain ⟨c0, c1, c2, c3, c4, c5, c6, c7, c8, c9, c10, c11, c12, c13, c14, c15⟩ := Y.cs16 KS1.out
    by_cases hlt : k < nh
    ·have d1 : decide ((k : Int) < nh) = true := decide_eq_true (by omega)
     have d1' : decide (k < nh) = true := decide_eq_true hlt
     have k0 : (0 : Int) <= k := by omega
     have k1 : (k : Int) < nh := by omega
     obtain ⟨b1, off1, z, rfl, hb1, hz, p0, p1, p2⟩ := HI0.out.h.at3 hlt
     have hne := HH.out z (List.mem_of_getElem? hz)
     clear hz hb1
     by_cases za : z.a = x
     ·have zb : ¬ z.b = b := fun e => hne ⟨za, e⟩
      have d9 : (z.a == x) = true := by simpa using za
      have d10 : (z.b == b) = false := by simpa using zb
      go_wp2_with fail
      go_quiet (fail)
      go_wp2
      go_roundw
      case rel => exact ⟨k + 1, by go_num, by omega, Zh (HWK.out.trans (zad _ _ _))⟩
      case measure => simp [intOf] <;> omega
     ·have d9 : (z.a == x) = false := by simpa using za
      go_wp2_with fail
      go_quiet (fail)
      go_wp2
      go_roundw
      case rel => exact ⟨k + 1, by go_num, by omega, Zh (HWK.out.trans (zad _ _ _))⟩
      case measure => simp [intOf] <;> omega
    have d1 : decide ((k : Int) < nh) = false := decide_eq_false (by omega)
    have d1' : decide (k < nh) = false := decide_eq_false hlt
    clear HH
    have t0 := Y.cs16 KT8.out
    go_wp2_with fail
    refine (find_any ala nla cla t.l x b j HFD.out wr HTa4.out.l (by have := HFa.out.l; exact Nat.le_trans this (by decide))).mono ?_
    clear a0 a1 a2
    clear c0 c1 c2 c3 c4 c5 c6 c7 c8 c9 c10 c11 c12 c13 c14 c15
    clear t0
    rintro e w10 ⟨rfl, hb⟩
    replace HI0 := Zh (HI0.out.below hb)
    replace KS1 := Zk KS1 hb
    replace HTa4 := Zh (HTa4.out.below hb)
    replace HVa4 := Zh (HVa4.out.below hb)
    replace KT8 := Zk KT8 hb
    replace KA8 := Zk KA8 hb
    replace HB0 := Zt HB0 hb
    clear hb
    obtain ⟨a0, a1, a2⟩ := Y.as3 KA8.out
    obtain ⟨c0, c1, c2, c3, c4, c5, c6, c7, c8, c9, c10, c11, c12, c13, c14, c15⟩ := Y.cs16 KS1.out
    have t0 := Y.cs16 KT8.out
    have hj : j < nla := by have h1 : t.l.length = nla := HTa4.out.l.1; have h2 := (List.getElem?_eq_some_iff.1 HAT.out).1; omega
    obtain ⟨bt, offt, z, hal, hbt, hz, p0, p1, p2, p3, p4⟩ := HTa4.out.l.at5 hj
    obtain rfl : z = ⟨sub, x, b, s.now, s.now⟩ := Option.some.inj (hz.symm.trans HAT.out)
    subst hal
    clear hz hbt
    have j0 : decide ((j : Int) < 0) = false := decide_eq_false (by omega)
    have j1 : decide ((j : Int) ≥ (nla : Int)) = false := decide_eq_false (by omega)
    have j2 : decide ((nla : Int) <= (j : Int)) = false := decide_eq_false (by omega)
    have j3 : decide (nla <= j) = false := decide_eq_false (by omega)
    have j4 : decide (j < nla) = true := decide_eq_true hj
    have j5 : (0 : Int) <= j := by omega
    have j6 : (j : Int) < nla := by omega
    go_wp2_with fail
    refine Zd (fun w' => Below w10.heap.size w10 w') (zaa w10) fun RS0 => ?_
    refine tk 0 (.int .i64 j) RS0 ?_
    refine wpAnyH_take (i := 1) (v := .bool false) rfl (by kernel_rfl) (by kernel_rfl) (by kernel_rfl) (fun _ _ _ h => h) (.inl ⟨by kernel_rfl, fun w9 hS => by go_simp⟩) RS0 ?_
    refine tk 2 (.bool false) RS0 ?_
    refine tk 3 (.int .i64 j) RS0 ?_
    refine Zq 4 w4.heap.size 14 RS0 ?_
    refine Zl 5 (.slice (some ⟨bt, offt, none⟩) nla cla) rfl (fun w9 hS => by
       have y14 := Zv (KT8.out.below hS KT8.out.lt) 14 (.slice (some ⟨bt, offt, none⟩) nla cla)
       go_simp) RS0 ?_
    refine tk 6 (.int .i64 nla) RS0 ?_
    refine wpAnyH_take (i := 7) (v := .bool false) rfl (by kernel_rfl) (by kernel_rfl) (by kernel_rfl) (fun _ _ _ h => h) (.inl ⟨by kernel_rfl, fun w9 hS => by go_simp⟩) RS0 ?_
    refine tk 8 (.bool false) RS0 ?_
    refine tk 9 (.bool false) RS0 ?_
    refine Zq 10 w4.heap.size 14 RS0 ?_
    refine Zl 11 (.slice (some ⟨bt, offt, none⟩) nla cla) rfl (fun w9 hS => by
       have y14 := Zv (KT8.out.below hS KT8.out.lt) 14 (.slice (some ⟨bt, offt, none⟩) nla cla)
       go_simp) RS0 ?_
    refine tk 12 (.int .i64 j) RS0 ?_
    refine wpAnyH_take (i := 13) (v := .pointer (some ⟨bt, offt + j * 5, none⟩)) rfl (by kernel_rfl) (by kernel_rfl) (by kernel_rfl) (fun _ _ _ h => h) (.inl ⟨by kernel_rfl, fun w9 hS => by go_simp⟩) RS0 ?_
    refine Zl 14 (.agg #[.int .i64 sub, .int .i64 x, .int .i64 b, .int .i64 s.now, .int .i64 s.now]) rfl (fun w9 hS => by
       have y0 := zap p0 (show Below w10.heap.size w10 w9 from hS)
       have y1 := zap p1 (show Below w10.heap.size w10 w9 from hS)
       have y2 := zap p2 (show Below w10.heap.size w10 w9 from hS)
       have y3 := zap p3 (show Below w10.heap.size w10 w9 from hS)
       have y4 := zap p4 (show Below w10.heap.size w10 w9 from hS)
       go_simp) RS0 ?_
    refine tk 15 (.int .i64 sub) RS0 ?_
    refine Zq 16 w5.heap.size 1 RS0 ?_
    refine Zl 17 (.int .i64 x) rfl (fun w9 hS => by
       have y1 := Zv (KA8.out.below hS KA8.out.lt) 1 (.int .i64 x)
       go_simp) RS0 ?_
    refine Zq 18 w5.heap.size 2 RS0 ?_
    refine Zl 19 (.int .i64 b) rfl (fun w9 hS => by
       have y2 := Zv (KA8.out.below hS KA8.out.lt) 2 (.int .i64 b)
       go_simp) RS0 ?_
    refine Zq 20 w.heap.size 12 RS0 ?_
    refine Zl 21 (.int .i64 s.now) rfl (fun w9 hS => by
       have y12 := Zv (KS1.out.below hS KS1.out.lt) 12 (.int .i64 s.now)
       go_simp) RS0 ?_
    refine Zq 22 w.heap.size 12 RS0 ?_
    refine Zl 23 (.int .i64 s.now) rfl (fun w9 hS => by
       have y12 := Zv (KS1.out.below hS KS1.out.lt) 12 (.int .i64 s.now)
       go_simp) RS0 ?_
    refine tk 24 (.agg #[.int .i64 sub, .int .i64 x, .int .i64 b, .int .i64 s.now, .int .i64 s.now]) RS0 ?_
    refine wpAnyH_take (i := 25) (v := .bool false) rfl (by kernel_rfl) (by kernel_rfl) (by kernel_rfl) (fun _ _ _ h => h) (.inl ⟨by kernel_rfl, fun w9 hS => by go_simp⟩) RS0 ?_
    refine tk 26 (.bool false) RS0 ?_
    refine tk 27 (.bool false) RS0 ?_
    refine Zq 28 w.heap.size 14 RS0 ?_
    refine Zl 29 (.slice al nl cl) rfl (fun w9 hS => by
       have y14 := Zv (KS1.out.below hS KS1.out.lt) 14 (.slice al nl cl)
       go_simp) RS0 ?_
    refine Zq 30 w5.heap.size 1 RS0 ?_
    refine Zl 31 (.int .i64 x) rfl (fun w9 hS => by
       have y1 := Zv (KA8.out.below hS KA8.out.lt) 1 (.int .i64 x)
       go_simp) RS0 ?_
    refine Zq 32 w5.heap.size 2 RS0 ?_
    refine Zl 33 (.int .i64 b) rfl (fun w9 hS => by
       have y2 := Zv (KA8.out.below hS KA8.out.lt) 2 (.int .i64 b)
       go_simp) RS0 ?_
    refine Zc 34 30 #[.slice al nl cl, .int .i64 x, .int .i64 b] (find_any al nl cl s.l x b (-1) HF0.out _ (HI0.out.l.below RS0) (by have := HFT.out.l; exact Nat.le_trans this (by decide))) ?_
    rintro e w11 ⟨rfl, hb⟩
    refine Zu (Zr RS0 hb) fun RS1 => ?_
    refine wpAnyH_take (i := 35) (v := .bool false) rfl (by kernel_rfl) (by kernel_rfl) (by kernel_rfl) (fun _ _ _ h => h) (.inl ⟨by kernel_rfl, fun w9 hS => by go_simp⟩) RS1 ?_
    refine tk 36 (.bool false) RS1 ?_
    refine tk 37 (.bool false) RS1 ?_
    refine Zq 38 w.heap.size 13 RS1 ?_
    refine Zl 39 (.slice ap np cp) rfl (fun w9 hS => by
       have y13 := Zv (KS1.out.below hS KS1.out.lt) 13 (.slice ap np cp)
       go_simp) RS1 ?_
    refine Zq 40 w5.heap.size 1 RS1 ?_
    refine Zl 41 (.int .i64 x) rfl (fun w9 hS => by
       have y1 := Zv (KA8.out.below hS KA8.out.lt) 1 (.int .i64 x)
       go_simp) RS1 ?_
    refine Zc 42 31 #[.slice ap np cp, .int .i64 x] (zcr ap np cp s.ps x true HG.out _ (HI0.out.p.below RS1) (by have := HFT.out.p; exact Nat.le_trans this (by decide))) ?_
    rintro e w12 ⟨rfl, hb⟩
    refine Zu (Zr RS1 hb) fun RS2 => ?_
    refine tk 43 (.bool false) RS2 ?_
    refine tk 44 (.bool false) RS2 ?_
    refine wpAnyH_done (by kernel_rfl) ?_ _
    simp only [List.getElem_toArray, List.getElem_cons_succ, List.getElem_cons_zero, zc7, List.setIfInBounds_toArray, List.set_cons_succ, List.set_cons_zero]
    clear a0 a1 a2
    clear c0 c1 c2 c3 c4 c5 c6 c7 c8 c9 c10 c11 c12 c13 c14 c15
    clear t0
    have hb := RS2
    replace HI0 := Zh (HI0.out.below hb)
    replace KS1 := Zk KS1 hb
    replace HTa4 := Zh (HTa4.out.below hb)
    replace HVa4 := Zh (HVa4.out.below hb)
    replace KT8 := Zk KT8 hb
    replace KA8 := Zk KA8 hb
    replace HB0 := Zt HB0 hb
    clear hb RS0 RS1 RS2 p0 p1 p2 p3 p4
    obtain ⟨a0, a1, a2⟩ := Y.as3 KA8.out
    have t0 := Y.cs16 KT8.out
    have hnl2 : s.l.length = nl := HI0.out.l.1
    go_wp2_with fail
    refine (zlk (some ⟨bt, offt, none⟩) nla cla t.l s.l x b true nl HDEL.out hnl2 w12 HTa4.out.l (by have := HFa.out.l; exact Nat.le_trans this (by decide))).mono ?_
    clear a0 a1 a2
    clear t0
    rintro e w13 ⟨a2, c2, rfl, hr, hb⟩
    replace HI0 := Zh (HI0.out.below hb)
    replace KS1 := Zk KS1 hb
    replace HTa4 := Zh (HTa4.out.below hb)
    replace HVa4 := Zh (HVa4.out.below hb)
    replace KT8 := Zk KT8 hb
    replace KA8 := Zk KA8 hb
    replace HB0 := Zt HB0 hb
    clear hb
    have HR13 := hr
    obtain ⟨a0, a1, a2⟩ := Y.as3 KA8.out
    have t0 := Y.cs16 KT8.out
    clear hr hnl2
    obtain ⟨be, offe, ze, hal, hbe, hz, hce⟩ := HVa4.out.at (show 0 < 1 by decide)
    obtain rfl : ⟨0, s.now, sub, x, b, Y.zp⟩ = ze := Option.some.inj hz
    subst hal
    clear hz hbe
    have HCE := Zh hce
    clear hce
    clear a0 a1 a2
    clear t0
    go_wp2_with fail
    refine Zd (fun w' => Below w13.heap.size w13 w') (zaa w13) fun RS0 => ?_
    refine tk 0 (.bool true) RS0 ?_
    refine tk 1 (.bool true) RS0 ?_
    refine tk 2 (.slice a2 nl c2) RS0 ?_
    refine Zq 3 w.heap.size 14 RS0 ?_
    refine Zl 4 (.slice al nl cl) rfl (fun w9 hS => by
       have y14 := Zv (KS1.out.below hS KS1.out.lt) 14 (.slice al nl cl)
       go_simp) RS0 ?_
    refine Zc 5 33 #[.slice a2 nl c2, .slice al nl cl] (zgv a2 al nl nl c2 cl s.l s.l _ (HR13.out.below RS0) (HI0.out.l.below RS0) (by have := HFT.out.l; exact Nat.le_trans this (by decide)) true (decide_eq_true rfl)) ?_
    rintro e w14 ⟨rfl, hb⟩
    refine Zu (Zr RS0 hb) fun RS1 => ?_
    refine tk 6 (.bool true) RS1 ?_
    refine tk 7 (.bool true) RS1 ?_
    refine tk 8 (.slice (some ⟨be, offe, none⟩) 1 eca) RS1 ?_
    refine tk 9 (.int .i64 1) RS1 ?_
    refine wpAnyH_take (i := 10) (v := .bool true) rfl (by kernel_rfl) (by kernel_rfl) (by kernel_rfl) (fun _ _ _ h => h) (.inl ⟨by kernel_rfl, fun w9 hS => by go_simp⟩) RS1 ?_
    refine tk 11 (.bool true) RS1 ?_
    refine tk 12 (.bool true) RS1 ?_
    refine tk 13 (.slice (some ⟨be, offe, none⟩) 1 eca) RS1 ?_
    refine wpAnyH_take (i := 14) (v := .pointer (some ⟨be, offe, none⟩)) rfl (by kernel_rfl) (by kernel_rfl) (by kernel_rfl) (fun _ _ _ h => h) (.inl ⟨by kernel_rfl, fun w9 hS => by go_simp⟩) RS1 ?_
    refine Zl 15 (.agg #[.int .i64 0, .int .i64 s.now, .int .i64 sub, .int .i64 x, .int .i64 b, .int .i64 0, .int .i64 0, .int .i64 0, .bool false]) rfl (fun w9 hS => by
       have y0 : w9.cell? ⟨be, offe, none⟩ = some (.int .i64 0) := zap (by have := HCE.out 0 _ rfl; simpa [Y.zp] using this) (show Below w13.heap.size w13 w9 from hS)
       have y1 : w9.cell? ⟨be, offe + 1, none⟩ = some (.int .i64 s.now) := zap (by have := HCE.out 1 _ rfl; simpa [Y.zp] using this) (show Below w13.heap.size w13 w9 from hS)
       have y2 : w9.cell? ⟨be, offe + 2, none⟩ = some (.int .i64 sub) := zap (by have := HCE.out 2 _ rfl; simpa [Y.zp] using this) (show Below w13.heap.size w13 w9 from hS)
       have y3 : w9.cell? ⟨be, offe + 3, none⟩ = some (.int .i64 x) := zap (by have := HCE.out 3 _ rfl; simpa [Y.zp] using this) (show Below w13.heap.size w13 w9 from hS)
       have y4 : w9.cell? ⟨be, offe + 4, none⟩ = some (.int .i64 b) := zap (by have := HCE.out 4 _ rfl; simpa [Y.zp] using this) (show Below w13.heap.size w13 w9 from hS)
       have y5 : w9.cell? ⟨be, offe + 5, none⟩ = some (.int .i64 0) := zap (by have := HCE.out 5 _ rfl; simpa [Y.zp] using this) (show Below w13.heap.size w13 w9 from hS)
       have y6 : w9.cell? ⟨be, offe + 6, none⟩ = some (.int .i64 0) := zap (by have := HCE.out 6 _ rfl; simpa [Y.zp] using this) (show Below w13.heap.size w13 w9 from hS)
       have y7 : w9.cell? ⟨be, offe + 7, none⟩ = some (.int .i64 0) := zap (by have := HCE.out 7 _ rfl; simpa [Y.zp] using this) (show Below w13.heap.size w13 w9 from hS)
       have y8 : w9.cell? ⟨be, offe + 8, none⟩ = some (.bool false) := zap (by have := HCE.out 8 _ rfl; simpa [Y.zp] using this) (show Below w13.heap.size w13 w9 from hS)
       go_simp) RS1 ?_
    refine Zq 16 w.heap.size 12 RS1 ?_
    refine Zl 17 (.int .i64 s.now) rfl (fun w9 hS => by
       have y12 := Zv (KS1.out.below hS KS1.out.lt) 12 (.int .i64 s.now)
       go_simp) RS1 ?_
    refine tk 18 (.int .i64 sub) RS1 ?_
    refine Zq 19 w5.heap.size 1 RS1 ?_
    refine Zl 20 (.int .i64 x) rfl (fun w9 hS => by
       have y1 := Zv (KA8.out.below hS KA8.out.lt) 1 (.int .i64 x)
       go_simp) RS1 ?_
    refine Zq 21 w5.heap.size 2 RS1 ?_
    refine Zl 22 (.int .i64 b) rfl (fun w9 hS => by
       have y2 := Zv (KA8.out.below hS KA8.out.lt) 2 (.int .i64 b)
       go_simp) RS1 ?_
    refine tk 23 (.agg #[.int .i64 0, .int .i64 s.now, .int .i64 sub, .int .i64 x, .int .i64 b, .int .i64 0, .int .i64 0, .int .i64 0, .bool false]) RS1 ?_
    refine wpAnyH_take (i := 24) (v := .bool true) rfl (by kernel_rfl) (by kernel_rfl) (by kernel_rfl) (fun _ _ _ h => h) (.inl ⟨by kernel_rfl, fun w9 hS => by go_simp⟩) RS1 ?_
    refine tk 25 (.bool true) RS1 ?_
    refine tk 26 (.bool true) RS1 ?_
    refine Zq 27 w4.heap.size 13 RS1 ?_
    refine Zl 28 (.slice apa npa cpa) rfl (fun w9 hS => by
       have y13 := Zv (KT8.out.below hS KT8.out.lt) 13 (.slice apa npa cpa)
       go_simp) RS1 ?_
    refine Zq 29 w.heap.size 13 RS1 ?_
    refine Zl 30 (.slice ap np cp) rfl (fun w9 hS => by
       have y13 := Zv (KS1.out.below hS KS1.out.lt) 13 (.slice ap np cp)
       go_simp) RS1 ?_
    refine Zc 31 34 #[.slice apa npa cpa, .slice ap np cp] (zfb apa ap npa np cpa cp t.ps s.ps _ (HTa4.out.p.below RS1) (HI0.out.p.below RS1) (by have := HFa.out.p; exact Nat.le_trans this (by decide)) true (decide_eq_true HPS.out)) ?_
    rintro e w15 ⟨rfl, hb⟩
    refine Zu (Zr RS1 hb) fun RS2 => ?_
    refine tk 32 (.bool true) RS2 ?_
    refine tk 33 (.bool true) RS2 ?_
    refine wpAnyH_done (by kernel_rfl) ?_ _
    simp only [List.getElem_toArray, List.getElem_cons_succ, List.getElem_cons_zero, zc7, List.setIfInBounds_toArray, List.set_cons_succ, List.set_cons_zero]
    go_wp2
    go_ret
    exact ⟨rfl, HB0.out.trans (RS2.mono HB0.out.size)⟩
end Go.Proofs.YtonejangijkdmaaGreat
