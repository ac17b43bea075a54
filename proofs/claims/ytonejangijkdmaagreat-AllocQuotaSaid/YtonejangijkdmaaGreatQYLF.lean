import Derived.Test.YtonejangijkdmaaGreatQI
import Derived.Test.YtonejangijkdmaaGreatQYSC
import Derived.Test.YtonejangijkdmaaGreatQYHold
namespace Go.Proofs.YtonejangijkdmaaGreat
set_option maxHeartbeats 3000000
set_option maxRecDepth 100000
open Go.RowKit
theorem AllocQuota_in (d : E.D) (p : Y.Po) (aq : Option Addr) (nq cq : Nat) (l : List Y.Rq) (sub : Int) (w : World) (hb : d.b <= 9223372036854775807) (hc : d.c <= 9223372036854775807) (hq : VIn w aq nq cq l) (hra : ∀ q ∈ l, q.a <= 9223372036854775807) :
  Calls Tryz.prog 6 #[.agg #[d.b, d.k, d.c, d.j, d.lo, d.hi, d.dy, d.bl], .agg #[p.q, p.i, p.h, p.pair], .slice aq nq cq, sub] w fun e w' => e = .returned (.bool true) /\ Below w.heap.size w w' := by
 have HB0 := Zh (Below.refl w.heap.size w)
 have HQA := Zh hq
 have HRA := Zh hra
 clear hq hra
 obtain ⟨w1, hw1, hb, hk⟩ := Zn w 25 #[d.b, d.k, d.c, d.j, d.lo, d.hi, d.dy, d.bl]
 have HB1 := Zt HB0 hb
 have KD1 := Zh hk
 clear hb hk HB0
 obtain ⟨w2, hw2, hb, hk⟩ := Zn w1 27 #[p.q, p.i, p.h, p.pair]
 have KD2 := Zk KD1 hb
 have HB2 := Zt HB1 hb
 have KP2 := Zh hk
 clear hb hk KD1 HB1
 go_enter Tryz.func6, Tryz.ntmps6
 go_wp2_with fail
 try rw [hw1]
 try rw [hw2]
 refine (zb0 w2).mono ?_
 rintro e w3 ⟨rfl, hb⟩
 have KD3 := Zk KD2 hb
 have KP3 := Zk KP2 hb
 have HB3 := Zt HB2 hb
 clear hb KD2 KP2 HB2
 clear hw1 hw2
 obtain ⟨vm, hvm⟩ : ∃ b, decide (Y.May (Y.st0 d p)) = b := ⟨_, rfl⟩
 have HVM := Zh hvm
 clear hvm
 cases vm with
 | false =>
  obtain ⟨c0, c1, c2, c3, c4, c5, c6, c7⟩ := Y.as8 KD3.out
  have p0 := Y.as4 KP3.out
  go_wp2_with fail
  refine (zm4 d p w3 hb hc HVM.out).mono ?_
  clear c0 c1 c2 c3 c4 c5 c6 c7
  clear p0
  rintro e w4 ⟨rfl, hb⟩
  have KD4 := Zk KD3 hb
  have KP4 := Zk KP3 hb
  have HB4 := Zt HB3 hb
  clear hb KD3 KP3 HB3
  obtain ⟨c0, c1, c2, c3, c4, c5, c6, c7⟩ := Y.as8 KD4.out
  have p0 := Y.as4 KP4.out
  clear c0 c1 c2 c3 c4 c5 c6 c7
  clear p0
  obtain ⟨w5, he5⟩ : ∃ W, w4.alloc (.cells #[(), (), (), (), (), (), (), (), (), (), (), .bool false, (), .slice none 0 0, .slice none 0 0, .slice none 0 0] 32) = W := ⟨_, rfl⟩
  obtain ⟨w6, hp6⟩ : ∃ W, w5.setRow w4.heap.size #[(), (), (), (), (), (), (), (), (), (), (), .bool false, (), .slice none 0 0, .slice none 0 0, .slice none 0 0] = W := ⟨_, rfl⟩
  obtain ⟨kz1, ka, hb, hsz⟩ := box0 he5 hp6
  have HZ6 := Zh kz1
  have HP6 := Zh hp6
  clear hsz
  have KD6 := Zk KD4 hb
  have KP6 := Zk KP4 hb
  have HB6 := Zt HB4 hb
  have KS6 := Zh ka
  clear kz1 ka hb hp6 KD4 KP4 HB4
  go_wp2_with (first | (refine Zw HZ6.out HP6.out ?_))
  clear he5 HZ6 HP6
  go_ret
  exact ⟨rfl, HB6.out⟩
 | true =>
  obtain ⟨c0, c1, c2, c3, c4, c5, c6, c7⟩ := Y.as8 KD3.out
  have p0 := Y.as4 KP3.out
  go_wp2_with fail
  refine (zlz d p w3 hb hc HVM.out).mono ?_
  clear c0 c1 c2 c3 c4 c5 c6 c7
  clear p0
  rintro e w4 ⟨rfl, hb⟩
  have KD4 := Zk KD3 hb
  have KP4 := Zk KP3 hb
  have HB4 := Zt HB3 hb
  clear hb KD3 KP3 HB3
  obtain ⟨c0, c1, c2, c3, c4, c5, c6, c7⟩ := Y.as8 KD4.out
  have p0 := Y.as4 KP4.out
  clear c0 c1 c2 c3 c4 c5 c6 c7
  clear p0
  unfold Y.val Y.st0 Y.a0
  have HLW := Zh HB4.out.size
  obtain ⟨w5, he5⟩ : ∃ W, w4.alloc (.cells #[(), (), (), (), (), (), (), (), (), (), (), .bool false, (), .slice none 0 0, .slice none 0 0, .slice none 0 0] 32) = W := ⟨_, rfl⟩
  obtain ⟨w6, hp6⟩ : ∃ W, w5.setRow w4.heap.size #[d.b, d.k, d.c, d.j, d.lo, d.hi, d.dy, d.bl, p.q, p.i, p.h, p.pair, (), .slice none 0 0, .slice none 0 0, .slice none 0 0] = W := ⟨_, rfl⟩
  obtain ⟨kz1, ka, hb, hsz⟩ := box0 he5 hp6
  have HZ6 := Zh kz1
  have HP6 := Zh hp6
  clear hsz
  have KD6 := Zk KD4 hb
  have KP6 := Zk KP4 hb
  have HB6 := Zt HB4 hb
  have KS6 := Zh ka
  clear kz1 ka hb hp6 KD4 KP4 HB4
  by_cases g1 : 60 < nq
  ·have d1_0 : decide ((nq : Int) > 60) = true := decide_eq_true (by omega)
   have d1_1 : decide ((60 : Int) < nq) = true := decide_eq_true (by omega)
   have d1_2 : decide (60 < nq) = true := decide_eq_true g1
   go_wp2_with (first | (refine Zw HZ6.out HP6.out ?_))
   clear he5 HZ6 HP6
   go_ret
   exact ⟨rfl, HB6.out⟩
  have d1_0 : decide ((nq : Int) > 60) = false := decide_eq_false (by omega)
  have d1_1 : decide ((60 : Int) < nq) = false := decide_eq_false (by omega)
  have d1_2 : decide (60 < nq) = false := decide_eq_false g1
  obtain ⟨⟨t, evs⟩, hs⟩ : ∃ q, Y.script (Y.st0 d p) l = q := ⟨_, rfl⟩
  have HS := Zh hs
  clear hs
  have hm0 : Y.May (Y.st0 d p) := of_decide_eq_true HVM.out
  have HM : Hid (Y.May t) := Zh (by have := Y.script_may l hm0; rw [HS.out] at this; exact this)
  have HD : Hid (t.d = d) := Zh (by have := Y.script_d l (s := Y.st0 d p); rw [HS.out] at this; exact this)
  clear hm0
  have LKS := Zh KS6.out.lt
  go_wp2_with (first | (refine Zw HZ6.out HP6.out ?_) | (refine zak KS6.out rfl rfl (by kernel_rfl) Tryz.underlying32 rfl (by kernel_rfl) ?_))
  clear he5 HZ6 HP6
  refine (zm1 (Y.st0 d p) none 0 0 none 0 0 none 0 0 aq nq cq l w6.heap.size w6 (Y.in0 _ d p) (Y.fits0 p hb hc) ⟨(fun q hq => by cases hq), (fun q hq => by cases hq), (fun q hq => by cases hq)⟩ (Nat.le_refl _) (HQA.out.below HB6.out) HRA.out (by omega) t evs HS.out).mono ?_
  rintro e w7 ⟨apa, npa, cpa, ala, nla, cla, aha, nha, cha, ea, ne, ec, rfl, hi, hv, hf2, hu, he, hb'⟩
  have hb := hb'
  clear hb'
  have KD7 := Zk KD6 hb
  have KP7 := Zk KP6 hb
  have KS7 := Zk KS6 hb
  have HB7 := Zt HB6 hb
  clear hb KD6 KP6 KS6 HB6
  have HTa7 := hi
  have HVa7 := hv
  have HFa := hf2
  have HUa := hu
  have HEa := he
  clear hi hv hf2 hu he
  clear HVa7
  obtain ⟨w8, hp8⟩ : ∃ W, w7.setRow (w4.heap.size) #[t.d.b, t.d.k, t.d.c, t.d.j, t.d.lo, t.d.hi, t.d.dy, t.d.bl, t.p.q, t.p.i, t.p.h, t.p.pair, t.now, .slice apa npa cpa, .slice ala nla cla, .slice aha nha cha] = W := ⟨_, rfl⟩
  have hg : w7.grownBy w8 (some (w4.heap.size)) := by rw [<- hp8]; exact zbr _ _ _
  have kt : Blok w8 (w4.heap.size) 32 #[t.d.b, t.d.k, t.d.c, t.d.j, t.d.lo, t.d.hi, t.d.dy, t.d.bl, t.p.q, t.p.i, t.p.h, t.p.pair, t.now, .slice apa npa cpa, .slice ala nla cla, .slice aha nha cha] := by rw [<- hp8]; exact KS7.out.put _
  have HZ8 := KS7
  have HP8 := Zh hp8
  have KD8 := Zh (KD7.out.keep KS7.out (by simp) hg)
  have KP8 := Zh (KP7.out.keep KS7.out (by simp) hg)
  have HTa8 := Zh (HTa7.out.up HUa.out hg LKS.out)
  have HB8 := Zh (zbb HB7.out hg HB7.out.size (HLW.out))
  have KS8 := Zh kt
  clear kt hg hp8 KD7 KP7 KS7 HTa7 HB7
  obtain ⟨k, hk⟩ : ∃ k, L.of t.l sub = k := ⟨_, rfl⟩
  have HK := Zh hk
  clear hk
  have HQT : Hid ((k.length : Int) <= t.p.q /\ t.p.q <= 8 /\ ∀ (j : Nat) (v : Int), k[j]? = some v -> ∃ (i : Nat) (x : L.Ls), v = i /\ i < t.l.length /\ t.l[i]? = some x /\ (t.p.pair = true -> E.baseA d sub = x.a)) := Zh (by have := Y.quota HM.out sub; rw [HK.out, HD.out] at this; exact this)
  obtain ⟨c0, c1, c2, c3, c4, c5, c6, c7, c8, c9, c10, c11, c12, c13, c14, c15⟩ := Y.cs16 KS8.out
  go_wp2_with (first | (refine Zw HZ8.out HP8.out ?_))
  clear HZ8 HP8
  refine (zcp ala nla cla t.l sub k HK.out w8 HTa8.out.l (by have := HFa.out.l; exact Nat.le_trans this (by decide))).mono ?_
  clear c0 c1 c2 c3 c4 c5 c6 c7 c8 c9 c10 c11 c12 c13 c14 c15
  rintro e w9 ⟨aO, cO, n2, rfl, hn2, hr, hb⟩
  have KD9 := Zk KD8 hb
  have KP9 := Zk KP8 hb
  replace HTa8 := Zh (HTa8.out.below hb)
  have KS9 := Zk KS8 hb
  have HB9 := Zt HB8 hb
  clear hb KD8 KP8 KS8 HB8
  have HR9 := hr
  obtain ⟨c0, c1, c2, c3, c4, c5, c6, c7, c8, c9, c10, c11, c12, c13, c14, c15⟩ := Y.cs16 KS9.out
  have HN2 := hn2
  clear hn2 hr
  clear c0 c1 c2 c3 c4 c5 c6 c7 c8 c9 c10 c11 c12 c13 c14 c15
  obtain ⟨c0, c1, c2, c3, c4, c5, c6, c7⟩ := Y.as8 KD9.out
  obtain ⟨ba, hba⟩ : ∃ v, E.baseA d sub = v := ⟨_, rfl⟩
  obtain ⟨bf, hbf⟩ : ∃ v, E.baseF d sub = v := ⟨_, rfl⟩
  obtain ⟨bt, hbt⟩ : ∃ v, E.baseT d sub = v := ⟨_, rfl⟩
  obtain ⟨bv, hbv⟩ : ∃ v, E.baseB d sub = v := ⟨_, rfl⟩
  have HBA := Zh hba
  have HBF := Zh hbf
  have HBT := Zh hbt
  have HBV := Zh hbv
  clear hba hbf hbt hbv
  go_wp2_with fail
  refine (zcb d sub ba bf bt bv w9 HBV.out HBA.out HBF.out HBT.out hb hc).mono ?_
  clear c0 c1 c2 c3 c4 c5 c6 c7
  rintro e w10 ⟨rfl, hb⟩
  have KD10 := Zk KD9 hb
  have KP10 := Zk KP9 hb
  replace HTa8 := Zh (HTa8.out.below hb)
  have KS10 := Zk KS9 hb
  replace HR9 := Zh (HR9.out.below hb)
  have HB10 := Zt HB9 hb
  clear hb KD9 KP9 KS9 HB9
  obtain ⟨c0, c1, c2, c3, c4, c5, c6, c7⟩ := Y.as8 KD10.out
  clear c0 c1 c2 c3 c4 c5 c6 c7
  obtain ⟨w11, he11⟩ : ∃ W, w10.alloc (.cells #[(), (), ()] 54) = W := ⟨_, rfl⟩
  obtain ⟨w12, hp12⟩ : ∃ W, w11.setRow w10.heap.size #[ba, bf, bt] = W := ⟨_, rfl⟩
  obtain ⟨kz1, ka, hb, hsz⟩ := box0 he11 hp12
  have HZ12 := Zh kz1
  have HP12 := Zh hp12
  clear hsz
  have KD12 := Zk KD10 hb
  have KP12 := Zk KP10 hb
  replace HTa8 := Zh (HTa8.out.below hb)
  have KS12 := Zk KS10 hb
  replace HR9 := Zh (HR9.out.below hb)
  have HB12 := Zt HB10 hb
  have KX12 := Zh ka
  clear kz1 ka hb hp12 KD10 KP10 KS10 HB10
  go_wp2_with (first | (refine Zw HZ12.out HP12.out ?_))
  clear he11 HZ12 HP12
  go_loopw [15] (fun i wr => ∃ j : Nat, i = .int .i64 j /\ j <= n2 /\ Hid (Below w12.heap.size w12 wr)) (fun i _ => n2 - (intOf i).toNat)
  case atStart => exact ⟨0, rfl, by omega, Zh (Below.refl _ _)⟩
  case round =>
   obtain ⟨j, rfl, hjn, HW⟩ := hrel
   have HWK := HW
   have hb := HW.out
   have KD13 := Zk KD12 hb
   have KP13 := Zk KP12 hb
   replace HTa8 := Zh (HTa8.out.below hb)
   have KS13 := Zk KS12 hb
   replace HR9 := Zh (HR9.out.below hb)
   replace KX12 := Zk KX12 hb
   have HB13 := Zt HB12 hb
   clear hb KD12 KP12 KS12 HB12
   clear HW
   have hn9 : n2 <= 8 := by have h1 := HQT.out.1; have h2 := HQT.out.2.1; have h3 : k.length = n2 := HN2.out; omega
   obtain ⟨pb, hpb⟩ : ∃ b, t.p.pair = b := ⟨_, rfl⟩
   have HPB := Zh hpb
   have hnla : nla <= 600 := HFa.out.l
   obtain ⟨c0, c1, c2, c3, c4, c5, c6, c7, c8, c9, c10, c11, c12, c13, c14, c15⟩ := Y.cs16 KS13.out
   obtain ⟨x0, x1, x2⟩ := Y.as3 KX12.out
   by_cases hlt : j < n2
   ·have HLT := Zh hlt
    have d2 : decide ((j : Int) < n2) = true := decide_eq_true (by omega)
    have d2' : decide (j < n2) = true := decide_eq_true hlt
    have k0 : (0 : Int) <= j := by omega
    have k1 : (j : Int) < n2 := by omega
    obtain ⟨b1, o1, hal, -, hc0⟩ := zl4 HR9.out (show j < k.length by have h3 : k.length = n2 := HN2.out; omega)
    subst hal
    obtain ⟨i, z, hv, hil, hz, hpa⟩ := HQT.out.2.2 j _ (List.getElem?_eq_getElem (show j < k.length by have h3 : k.length = n2 := HN2.out; omega))
    have hc1 : wr.cell? ⟨b1, o1 + j, none⟩ = some (.int .i64 (i : Int)) := by rw [hc0]; congr 2; simpa [List.getD, show j < k.length by have h3 : k.length = n2 := HN2.out; omega] using hv
    clear hv hc0
    have hin : i < nla := by have h1 : t.l.length = nla := HTa8.out.l.1; omega
    obtain ⟨b2, o2, z', hal, -, hz', z0, z1, z2, z3, z4⟩ := HTa8.out.l.at5 hin
    obtain rfl : z = z' := Option.some.inj (hz.symm.trans hz')
    have hal' : ala = some ⟨b2, o2, none⟩ := hal
    rw [hal'] at c14
    clear hal hal' hz hz' hil
    have e0 : decide ((i : Int) < 0) = false := decide_eq_false (by omega)
    have e1 : decide ((i : Int) ≥ (nla : Int)) = false := decide_eq_false (by omega)
    have e2 : decide ((nla : Int) <= (i : Int)) = false := decide_eq_false (by omega)
    have e3 : decide (nla <= i) = false := decide_eq_false (by omega)
    have e4 : decide (i < nla) = true := decide_eq_true hin
    have e5 : (0 : Int) <= i := by omega
    have e6 : (i : Int) < nla := by omega
    rw [hpb] at c11
    cases pb with
    | false =>
     go_wp2_with fail
     go_quiet (fail)
     go_wp2
     go_roundw
     case rel => exact ⟨j + 1, by go_num, by have := HLT.out; omega, Zh (HWK.out.trans (zad _ _ _))⟩
     case measure => have := HLT.out; simp [intOf] <;> omega
    | true =>
     have e7 : (z.a != ba) = false := by have := hpa HPB.out; rw [HBA.out] at this; simp [this]
     clear hpa
     go_wp2_with fail
     go_quiet (fail)
     go_wp2
     go_roundw
     case rel => exact ⟨j + 1, by go_num, by have := HLT.out; omega, Zh (HWK.out.trans (zad _ _ _))⟩
     case measure => have := HLT.out; simp [intOf] <;> omega
   have d2 : decide ((j : Int) < n2) = false := decide_eq_false (by omega)
   have d2' : decide (j < n2) = false := decide_eq_false hlt
   clear hpb
   have e1 : decide ((n2 : Int) <= t.p.q) = true := decide_eq_true (by have h1 := HQT.out.1; have h3 : k.length = n2 := HN2.out; omega)
   have e2 : decide (t.p.q <= 8) = true := decide_eq_true HQT.out.2.1
   go_wp2
   go_ret
   exact ⟨rfl, HB13.out⟩
end Go.Proofs.YtonejangijkdmaaGreat
