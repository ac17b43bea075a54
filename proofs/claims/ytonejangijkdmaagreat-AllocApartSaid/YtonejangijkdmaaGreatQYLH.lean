import Derived.Test.YtonejangijkdmaaGreatQI
import Derived.Test.YtonejangijkdmaaGreatQYSC
import Derived.Test.YtonejangijkdmaaGreatQAHold
import Derived.Deep.CutRange
namespace Go.Proofs.YtonejangijkdmaaGreat
set_option maxHeartbeats 3000000
set_option maxRecDepth 100000
open Go.RowKit
theorem AllocApart_in (d : E.D) (p : Y.Po) (aq : Option Addr) (nq cq : Nat) (l : List Y.Rq) (i k sub : Int) (w : World) (hb : d.b <= 9223372036854775807) (hc : d.c <= 9223372036854775807) (hq : VIn w aq nq cq l) (hra : ∀ q ∈ l, q.a <= 9223372036854775807) :
  Calls Tryz.prog 5 #[.agg #[d.b, d.k, d.c, d.j, d.lo, d.hi, d.dy, d.bl], .agg #[p.q, p.i, p.h, p.pair], .slice aq nq cq, i, k, sub] w fun e w' => e = .returned (.bool true) /\ Below w.heap.size w w' := by
 have HB0 := Zh (Below.refl w.heap.size w)
 have HQA := Zh hq
 have HRA := Zh hra
 clear hq hra
 obtain ⟨w1, hw1, hb, hk⟩ := Zn w 25 #[d.b, d.k, d.c, d.j, d.lo, d.hi, d.dy, d.bl]
 have HB1 := Zt HB0 hb
 have KD1 := Zh hk
 clear hb hk HB0
 obtain ⟨w2, hw2, hb, hk⟩ := Zn w1 27 #[p.q, p.i, p.h, p.pair]
 have KD2 := Zk KD1 hb
 have HB2 := Zt HB1 hb
 have KP2 := Zh hk
 clear hb hk KD1 HB1
 go_enter Tryz.func5, Tryz.ntmps5
 go_wp2_with fail
 try rw [hw1]
 try rw [hw2]
 refine (zb0 w2).mono ?_
 rintro e w3 ⟨rfl, hb⟩
 have KD3 := Zk KD2 hb
 have KP3 := Zk KP2 hb
 have HB3 := Zt HB2 hb
 clear hb KD2 KP2 HB2
 clear hw1 hw2
 obtain ⟨vm, hvm⟩ : ∃ b, decide (Y.May (Y.st0 d p)) = b := ⟨_, rfl⟩
 have HVM := Zh hvm
 clear hvm
 cases vm with
 | false =>
  have c0 := Y.as8 KD3.out
  have p0 := Y.as4 KP3.out
  go_wp2_with fail
  refine (zm4 d p w3 hb hc HVM.out).mono ?_
  clear c0
  clear p0
  rintro e w4 ⟨rfl, hb⟩
  have KD4 := Zk KD3 hb
  have KP4 := Zk KP3 hb
  have HB4 := Zt HB3 hb
  clear hb KD3 KP3 HB3
  have c0 := Y.as8 KD4.out
  have p0 := Y.as4 KP4.out
  clear c0
  clear p0
  obtain ⟨w5, he5⟩ : ∃ W, w4.alloc (.cells #[(), (), (), (), (), (), (), (), (), (), (), .bool false, (), .slice none 0 0, .slice none 0 0, .slice none 0 0] 32) = W := ⟨_, rfl⟩
  obtain ⟨w6, hp6⟩ : ∃ W, w5.setRow w4.heap.size #[(), (), (), (), (), (), (), (), (), (), (), .bool false, (), .slice none 0 0, .slice none 0 0, .slice none 0 0] = W := ⟨_, rfl⟩
  obtain ⟨kz1, ka, hb, hsz⟩ := box0 he5 hp6
  have HZ6 := Zh kz1
  have HP6 := Zh hp6
  clear hsz
  have KD6 := Zk KD4 hb
  have KP6 := Zk KP4 hb
  have HB6 := Zt HB4 hb
  have KS6 := Zh ka
  clear kz1 ka hb hp6 KD4 KP4 HB4
  go_wp2_with (first | (refine Zw HZ6.out HP6.out ?_))
  clear he5 HZ6 HP6
  go_ret
  exact ⟨rfl, HB6.out⟩
 | true =>
  have c0 := Y.as8 KD3.out
  have p0 := Y.as4 KP3.out
  go_wp2_with fail
  refine (zlz d p w3 hb hc HVM.out).mono ?_
  clear c0
  clear p0
  rintro e w4 ⟨rfl, hb⟩
  have KD4 := Zk KD3 hb
  have KP4 := Zk KP3 hb
  have HB4 := Zt HB3 hb
  clear hb KD3 KP3 HB3
  have c0 := Y.as8 KD4.out
  have p0 := Y.as4 KP4.out
  clear c0
  clear p0
  unfold Y.val Y.st0 Y.a0
  have HLW := Zh HB4.out.size
  obtain ⟨w5, he5⟩ : ∃ W, w4.alloc (.cells #[(), (), (), (), (), (), (), (), (), (), (), .bool false, (), .slice none 0 0, .slice none 0 0, .slice none 0 0] 32) = W := ⟨_, rfl⟩
  obtain ⟨w6, hp6⟩ : ∃ W, w5.setRow w4.heap.size #[d.b, d.k, d.c, d.j, d.lo, d.hi, d.dy, d.bl, p.q, p.i, p.h, p.pair, (), .slice none 0 0, .slice none 0 0, .slice none 0 0] = W := ⟨_, rfl⟩
  obtain ⟨kz1, ka, hb, hsz⟩ := box0 he5 hp6
  have HZ6 := Zh kz1
  have HP6 := Zh hp6
  clear hsz
  have KD6 := Zk KD4 hb
  have KP6 := Zk KP4 hb
  have HB6 := Zt HB4 hb
  have KS6 := Zh ka
  clear kz1 ka hb hp6 KD4 KP4 HB4
  by_cases g1 : 60 < nq
  ·have d1_0 : decide ((nq : Int) > 60) = true := decide_eq_true (by omega)
   have d1_1 : decide ((60 : Int) < nq) = true := decide_eq_true (by omega)
   have d1_2 : decide (60 < nq) = true := decide_eq_true g1
   go_wp2_with (first | (refine Zw HZ6.out HP6.out ?_))
   clear he5 HZ6 HP6
   go_ret
   exact ⟨rfl, HB6.out⟩
  have d1_0 : decide ((nq : Int) > 60) = false := decide_eq_false (by omega)
  have d1_1 : decide ((60 : Int) < nq) = false := decide_eq_false (by omega)
  have d1_2 : decide (60 < nq) = false := decide_eq_false g1
  obtain ⟨⟨t, evs⟩, hs⟩ : ∃ q, Y.script (Y.st0 d p) l = q := ⟨_, rfl⟩
  have HS := Zh hs
  clear hs
  have hm0 : Y.May (Y.st0 d p) := of_decide_eq_true HVM.out
  have HM : Hid (Y.May t) := Zh (by have := Y.script_may l hm0; rw [HS.out] at this; exact this)
  have HD : Hid (t.d = d) := Zh (by have := Y.script_d l (s := Y.st0 d p); rw [HS.out] at this; exact this)
  clear hm0
  have LKS := Zh KS6.out.lt
  go_wp2_with (first | (refine Zw HZ6.out HP6.out ?_) | (refine zak KS6.out rfl rfl (by kernel_rfl) Tryz.underlying32 rfl (by kernel_rfl) ?_))
  clear he5 HZ6 HP6
  refine (zm1 (Y.st0 d p) none 0 0 none 0 0 none 0 0 aq nq cq l w6.heap.size w6 (Y.in0 _ d p) (Y.fits0 p hb hc) ⟨(fun q hq => by cases hq), (fun q hq => by cases hq), (fun q hq => by cases hq)⟩ (Nat.le_refl _) (HQA.out.below HB6.out) HRA.out (by omega) t evs HS.out).mono ?_
  rintro e w7 ⟨apa, npa, cpa, ala, nla, cla, aha, nha, cha, ea, ne, ec, rfl, hi, hv, hf2, hu, he, hb'⟩
  have hb := hb'
  clear hb'
  have KD7 := Zk KD6 hb
  have KP7 := Zk KP6 hb
  have KS7 := Zk KS6 hb
  have HB7 := Zt HB6 hb
  clear hb KD6 KP6 KS6 HB6
  have HTa7 := hi
  have HVa7 := hv
  have HFa := hf2
  have HUa := hu
  have HEa := he
  clear hi hv hf2 hu he
  clear HVa7
  obtain ⟨w8, hp8⟩ : ∃ W, w7.setRow (w4.heap.size) #[t.d.b, t.d.k, t.d.c, t.d.j, t.d.lo, t.d.hi, t.d.dy, t.d.bl, t.p.q, t.p.i, t.p.h, t.p.pair, t.now, .slice apa npa cpa, .slice ala nla cla, .slice aha nha cha] = W := ⟨_, rfl⟩
  have hg : w7.grownBy w8 (some (w4.heap.size)) := by rw [<- hp8]; exact zbr _ _ _
  have kt : Blok w8 (w4.heap.size) 32 #[t.d.b, t.d.k, t.d.c, t.d.j, t.d.lo, t.d.hi, t.d.dy, t.d.bl, t.p.q, t.p.i, t.p.h, t.p.pair, t.now, .slice apa npa cpa, .slice ala nla cla, .slice aha nha cha] := by rw [<- hp8]; exact KS7.out.put _
  have HZ8 := KS7
  have HP8 := Zh hp8
  have KD8 := Zh (KD7.out.keep KS7.out (by simp) hg)
  have KP8 := Zh (KP7.out.keep KS7.out (by simp) hg)
  have HTa8 := Zh (HTa7.out.up HUa.out hg LKS.out)
  have HB8 := Zh (zbb HB7.out hg HB7.out.size (HLW.out))
  have KS8 := Zh kt
  clear kt hg hp8 KD7 KP7 KS7 HTa7 HB7
  have c0 := Y.cs16 KS8.out
  by_cases g2 : i < 0
  ·have dg2_0 : decide (i < 0) = true := decide_eq_true (by omega)
   go_wp2_with (first | (refine Zw HZ8.out HP8.out ?_))
   clear HZ8 HP8
   go_ret
   exact ⟨rfl, HB8.out⟩
  have dg2_0 : decide (i < 0) = false := decide_eq_false (by omega)
  obtain ⟨i, rfl⟩ := Int.eq_ofNat_of_zero_le (show 0 <= i by omega)
  by_cases g3 : k < 0
  ·have dg3_0 : decide (k < 0) = true := decide_eq_true (by omega)
   go_wp2_with (first | (refine Zw HZ8.out HP8.out ?_))
   clear HZ8 HP8
   go_ret
   exact ⟨rfl, HB8.out⟩
  have dg3_0 : decide (k < 0) = false := decide_eq_false (by omega)
  obtain ⟨k, rfl⟩ := Int.eq_ofNat_of_zero_le (show 0 <= k by omega)
  by_cases g4 : nla <= i
  ·have dg4_0 : decide ((i : Int) ≥ (nla : Int)) = true := decide_eq_true (by omega)
   have dg4_1 : decide ((nla : Int) <= (i : Int)) = true := decide_eq_true (by omega)
   have dg4_2 : decide (nla <= i) = true := decide_eq_true (by omega)
   go_wp2_with (first | (refine Zw HZ8.out HP8.out ?_))
   clear HZ8 HP8
   go_ret
   exact ⟨rfl, HB8.out⟩
  have dg4_0 : decide ((i : Int) ≥ (nla : Int)) = false := decide_eq_false (by omega)
  have dg4_1 : decide ((nla : Int) <= (i : Int)) = false := decide_eq_false (by omega)
  have dg4_2 : decide (nla <= i) = false := decide_eq_false (by omega)
  by_cases g5 : nla <= k
  ·have dg5_0 : decide ((k : Int) ≥ (nla : Int)) = true := decide_eq_true (by omega)
   have dg5_1 : decide ((nla : Int) <= (k : Int)) = true := decide_eq_true (by omega)
   have dg5_2 : decide (nla <= k) = true := decide_eq_true (by omega)
   go_wp2_with (first | (refine Zw HZ8.out HP8.out ?_))
   clear HZ8 HP8
   go_ret
   exact ⟨rfl, HB8.out⟩
  have dg5_0 : decide ((k : Int) ≥ (nla : Int)) = false := decide_eq_false (by omega)
  have dg5_1 : decide ((nla : Int) <= (k : Int)) = false := decide_eq_false (by omega)
  have dg5_2 : decide (nla <= k) = false := decide_eq_false (by omega)
  have hin : i < nla := by omega
  have hkn : k < nla := by omega
  obtain ⟨b1, o1, zi, hal, -, hz1, zi0, zi1, zi2, zi3, zi4⟩ := HTa8.out.l.at5 hin
  obtain ⟨b2, o2, zk, hal2, -, hz2, zk0, zk1, zk2, zk3, zk4⟩ := HTa8.out.l.at5 hkn
  have hal' : ala = some ⟨b1, o1, none⟩ := hal
  obtain ⟨rfl, rfl⟩ : b1 = b2 /\ o1 = o2 := by cases hal.symm.trans hal2; exact ⟨rfl, rfl⟩
  clear hal hal2
  subst hal'
  have HI1 := Zh hz1
  have HK1 := Zh hz2
  clear hz1 hz2
  have f1 : decide ((i : Int) < nla) = true := decide_eq_true (by omega)
  have f2 : decide (i < nla) = true := decide_eq_true hin
  have f3 : (0 : Int) <= i := by omega
  have f4 : (i : Int) < nla := by omega
  have f5 : decide ((k : Int) < nla) = true := decide_eq_true (by omega)
  have f6 : decide (k < nla) = true := decide_eq_true hkn
  have f7 : (0 : Int) <= k := by omega
  have f8 : (k : Int) < nla := by omega
  obtain ⟨A1, hA⟩ : ∃ v, E.blkA d zi.a zi.b = v := ⟨_, rfl⟩
  obtain ⟨F1, hF⟩ : ∃ v, E.blkF d zi.a zi.b = v := ⟨_, rfl⟩
  obtain ⟨T1, hT⟩ : ∃ v, E.blkT d zi.a zi.b = v := ⟨_, rfl⟩
  have HA1 := Zh hA
  have HF1 := Zh hF
  have HTT1 := Zh hT
  clear hA hF hT
  obtain ⟨A2, hA⟩ : ∃ v, E.blkA d zk.a zk.b = v := ⟨_, rfl⟩
  obtain ⟨F2, hF⟩ : ∃ v, E.blkF d zk.a zk.b = v := ⟨_, rfl⟩
  obtain ⟨T2, hT⟩ : ∃ v, E.blkT d zk.a zk.b = v := ⟨_, rfl⟩
  have HA2 := Zh hA
  have HF2 := Zh hF
  have HTT2 := Zh hT
  clear hA hF hT
  have HL1 : Hid (E.blkB d zi.a zi.b = true /\ d.lo <= F1 /\ T1 <= d.hi /\ 0 <= O.of t.ps A1) := Zh (by have := Y.lies HM.out HI1.out; rw [HD.out, HA1.out, HF1.out, HTT1.out] at this; exact this)
  have HL2 : Hid (E.blkB d zk.a zk.b = true) := Zh (by have := (Y.lies HM.out HK1.out).1; rw [HD.out] at this; exact this)
  have HAP : Hid (i ≠ k -> A1 = A2 -> T1 < F2 \/ T2 < F1) := Zh (fun hne ha => by have := Y.apart HM.out HI1.out HK1.out hne (by rw [HD.out, HA1.out, HA2.out]; exact ha); rw [HD.out, HF1.out, HF2.out, HTT1.out, HTT2.out] at this; exact this)
  go_upto_region 8 with (first | (refine Zw HZ8.out HP8.out ?_))
  clear HZ8 HP8
  clear c0
  go_cut [16, 17] from 67 to 83 (fun sa sb wx => ∃ bx : Nat, sa = .pointer (some ⟨bx, 0, none⟩) /\ sb = .bool true /\ Hid (Blok wx bx 54 #[A1, F1, T1]) /\ Hid (Below w8.heap.size w8 wx))
  case first =>
   skip
   refine Zd (fun w' => Below w8.heap.size w8 w') (zaa w8) fun RS0 => ?_
   refine Zl 0 (.agg #[d.b, d.k, d.c, d.j, d.lo, d.hi, d.dy, d.bl]) rfl (fun w9 hS => by
      have q := KD8.out.below hS KD8.out.lt
      have y0 := Zv q 0 (.int .i64 d.b)
      have y1 := Zv q 1 (.int .i64 d.k)
      have y2 := Zv q 2 (.int .i64 d.c)
      have y3 := Zv q 3 (.int .i64 d.j)
      have y4 := Zv q 4 (.int .i64 d.lo)
      have y5 := Zv q 5 (.int .i64 d.hi)
      have y6 := Zv q 6 (.int .i64 d.dy)
      have y7 := Zv q 7 (.int .i64 d.bl)
      go_simp) RS0 ?_
   refine Zq 1 w4.heap.size 14 RS0 ?_
   refine Zl 2 (.slice (some ⟨b1, o1, none⟩) nla cla) rfl (fun w9 hS => by
      have y14 := Zv (KS8.out.below hS KS8.out.lt) 14 (.slice (some ⟨b1, o1, none⟩) nla cla)
      go_simp) RS0 ?_
   refine tk 3 (.int .i64 i) RS0 ?_
   refine wpAnyH_take (i := 4) (v := .pointer (some ⟨b1, o1 + i * 5, none⟩)) rfl (by kernel_rfl) (by kernel_rfl) (by kernel_rfl) (fun _ _ _ h => h) (.inl ⟨by kernel_rfl, fun w9 hS => by go_simp⟩) RS0 ?_
   refine Zq 5 b1 (o1 + i * 5 + 1) RS0 ?_
   refine Zl 6 (.int .i64 zi.a) rfl (fun w9 hS => by
      have y1 : w9.cell? ⟨b1, o1 + i * 5 + 1, none⟩ = some (.int .i64 zi.a) := zap zi1 (show Below w8.heap.size w8 w9 from hS)
      go_simp) RS0 ?_
   refine Zq 7 w4.heap.size 14 RS0 ?_
   refine Zl 8 (.slice (some ⟨b1, o1, none⟩) nla cla) rfl (fun w9 hS => by
      have y14 := Zv (KS8.out.below hS KS8.out.lt) 14 (.slice (some ⟨b1, o1, none⟩) nla cla)
      go_simp) RS0 ?_
   refine tk 9 (.int .i64 i) RS0 ?_
   refine wpAnyH_take (i := 10) (v := .pointer (some ⟨b1, o1 + i * 5, none⟩)) rfl (by kernel_rfl) (by kernel_rfl) (by kernel_rfl) (fun _ _ _ h => h) (.inl ⟨by kernel_rfl, fun w9 hS => by go_simp⟩) RS0 ?_
   refine Zq 11 b1 (o1 + i * 5 + 2) RS0 ?_
   refine Zl 12 (.int .i64 zi.b) rfl (fun w9 hS => by
      have y2 : w9.cell? ⟨b1, o1 + i * 5 + 2, none⟩ = some (.int .i64 zi.b) := zap zi2 (show Below w8.heap.size w8 w9 from hS)
      go_simp) RS0 ?_
   obtain ⟨wd, hwd⟩ : ∃ V, World.drew w8 = V := ⟨_, rfl⟩
   rw [hwd] at RS0 ⊢
   clear hwd
   refine za8 (i := 13) (j := 17) (by kernel_rfl) ?_ ?_
   ·skip
    refine zbo rfl (by kernel_rfl) (by kernel_rfl) (zh6 d zi.a zi.b A1 F1 T1 true wd HL1.out.1 HA1.out HF1.out HTT1.out hb hc) ?_
    rintro e wq ⟨rfl, hb'⟩
    have RSc := Below.trans RS0 (hb'.mono (Below.size RS0))
    refine ⟨_, rfl, RSc, ?_⟩
    refine tk 14 (.tuple #[.agg #[A1, F1, T1], .bool true]) RSc ?_
    refine tk 15 (.agg #[A1, F1, T1]) RSc ?_
    refine tk 16 (.bool true) RSc ?_
    refine zaf (i := 17) (by kernel_rfl) ?_
    refine zam (w' := wq.alloc (.cells #[(), (), ()] 54)) (v := .pointer (some ⟨wq.heap.size, 0, none⟩)) rfl (by kernel_rfl) (by kernel_rfl) ?_
    obtain ⟨we, hal⟩ : ∃ V, wq.alloc (.cells #[(), (), ()] 54) = V := ⟨_, rfl⟩
    rw [hal]
    have hba : Below wq.heap.size wq we := by rw [<- hal]; exact (Below.refl _ wq).alloc (Nat.le_refl _) _
    have Ka : Blok we wq.heap.size 54 #[(), (), ()] := by rw [<- hal]; exact Blok.new wq _ _
    have RSa := Below.trans RSc (hba.mono (Below.size RSc))
    have SZa : w8.heap.size <= wq.heap.size := Below.size RSc
    refine ⟨RSa, ?_⟩
    clear hal
    refine zaf (i := 18) (by kernel_rfl) (zah (w' := we.setRow (wq.heap.size) #[A1, F1, T1]) rfl (by kernel_rfl) (zm0 Ka rfl (by kernel_rfl) (by kernel_rfl) (by kernel_rfl) rfl (by kernel_rfl)) ?_)
    obtain ⟨wg, hal⟩ : ∃ V, we.setRow (wq.heap.size) #[A1, F1, T1] = V := ⟨_, rfl⟩
    rw [hal]
    have hgs : we.grownBy wg (some (wq.heap.size)) := by rw [<- hal]; exact zbr _ _ _
    have Ks : Blok wg (wq.heap.size) 54 #[A1, F1, T1] := by rw [<- hal]; exact Ka.put _
    have RSs : Below w8.heap.size w8 wg := zbb RSa hgs (Below.size RSa) (by omega)
    refine ⟨RSs, ?_⟩
    clear hal
    refine tk 19 (.bool true) RSs ?_
    refine wpAnyH_done (by kernel_rfl) ?_ _
    simp only [List.getElem_toArray, List.getElem_cons_succ, List.getElem_cons_zero, zc7, List.setIfInBounds_toArray, List.set_cons_succ, List.set_cons_zero]
    go_wp2_with fail
    go_meet
    exact ⟨_, rfl, rfl, Zh Ks, Zh RSs⟩
   ·skip
    refine zam (w' := wd.alloc (.cells #[(), (), ()] 54)) (v := .pointer (some ⟨wd.heap.size, 0, none⟩)) rfl (by kernel_rfl) (by kernel_rfl) ?_
    obtain ⟨we, hal⟩ : ∃ V, wd.alloc (.cells #[(), (), ()] 54) = V := ⟨_, rfl⟩
    rw [hal]
    have hba : Below wd.heap.size wd we := by rw [<- hal]; exact (Below.refl _ wd).alloc (Nat.le_refl _) _
    have Ka : Blok we wd.heap.size 54 #[(), (), ()] := by rw [<- hal]; exact Blok.new wd _ _
    have RSa := Below.trans RS0 (hba.mono (Below.size RS0))
    have SZa : w8.heap.size <= wd.heap.size := Below.size RS0
    refine ⟨RSa, ?_⟩
    clear hal
    refine zaf (i := 13) (by kernel_rfl) ?_
    refine zbo rfl (by kernel_rfl) (by kernel_rfl) (zh6 d zi.a zi.b A1 F1 T1 true we HL1.out.1 HA1.out HF1.out HTT1.out hb hc) ?_
    rintro e wq ⟨rfl, hb'⟩
    have RSc := Below.trans RSa (hb'.mono (Below.size RSa))
    refine ⟨_, rfl, RSc, ?_⟩
    have Kc := Ka.below hb' Ka.lt
    refine tk 14 (.tuple #[.agg #[A1, F1, T1], .bool true]) RSc ?_
    refine tk 15 (.agg #[A1, F1, T1]) RSc ?_
    refine tk 16 (.bool true) RSc ?_
    refine zaf (i := 18) (by kernel_rfl) (zah (w' := wq.setRow (wd.heap.size) #[A1, F1, T1]) rfl (by kernel_rfl) (zm0 Kc rfl (by kernel_rfl) (by kernel_rfl) (by kernel_rfl) rfl (by kernel_rfl)) ?_)
    obtain ⟨wg, hal⟩ : ∃ V, wq.setRow (wd.heap.size) #[A1, F1, T1] = V := ⟨_, rfl⟩
    rw [hal]
    have hgs : wq.grownBy wg (some (wd.heap.size)) := by rw [<- hal]; exact zbr _ _ _
    have Ks : Blok wg (wd.heap.size) 54 #[A1, F1, T1] := by rw [<- hal]; exact Kc.put _
    have RSs : Below w8.heap.size w8 wg := zbb RSc hgs (Below.size RSc) (by omega)
    refine ⟨RSs, ?_⟩
    clear hal
    refine tk 19 (.bool true) RSs ?_
    refine wpAnyH_done (by kernel_rfl) ?_ _
    simp only [List.getElem_toArray, List.getElem_cons_succ, List.getElem_cons_zero, zc7, List.setIfInBounds_toArray, List.set_cons_succ, List.set_cons_zero]
    go_wp2_with fail
    go_meet
    exact ⟨_, rfl, rfl, Zh Ks, Zh RSs⟩
  case rest =>
   obtain ⟨bX, rfl, rfl, hkx, HWX⟩ := hcut
   obtain ⟨wA, rfl⟩ : ∃ W, W = wc := ⟨_, rfl⟩
   have zk1' := zap zk1 HWX.out
   have zk2' := zap zk2 HWX.out
   clear zi0 zi1 zi2 zi3 zi4 zk0 zk1 zk2 zk3 zk4
   have zk1 := zk1'
   have zk2 := zk2'
   clear zk1' zk2'
   have hb := HWX.out
   have KD9 := Zk KD8 hb
   have KP9 := Zk KP8 hb
   replace HTa8 := Zh (HTa8.out.below hb)
   have KS9 := Zk KS8 hb
   have HB9 := Zt HB8 hb
   clear hb KD8 KP8 KS8 HB8
   clear HWX
   have KX9 := hkx
   clear hkx
   go_upto_region 9 with fail
   go_cut [18, 19] from 84 to 100 (fun sa sb wx => ∃ bx : Nat, sa = .pointer (some ⟨bx, 0, none⟩) /\ sb = .bool true /\ Hid (Blok wx bx 54 #[A2, F2, T2]) /\ Hid (Below wA.heap.size wA wx))
   case first =>
    skip
    refine Zd (fun w' => Below wA.heap.size wA w') (zaa wA) fun RS0 => ?_
    refine Zl 0 (.agg #[d.b, d.k, d.c, d.j, d.lo, d.hi, d.dy, d.bl]) rfl (fun w9 hS => by
       have q := KD9.out.below hS KD9.out.lt
       have y0 := Zv q 0 (.int .i64 d.b)
       have y1 := Zv q 1 (.int .i64 d.k)
       have y2 := Zv q 2 (.int .i64 d.c)
       have y3 := Zv q 3 (.int .i64 d.j)
       have y4 := Zv q 4 (.int .i64 d.lo)
       have y5 := Zv q 5 (.int .i64 d.hi)
       have y6 := Zv q 6 (.int .i64 d.dy)
       have y7 := Zv q 7 (.int .i64 d.bl)
       go_simp) RS0 ?_
    refine Zq 1 w4.heap.size 14 RS0 ?_
    refine Zl 2 (.slice (some ⟨b1, o1, none⟩) nla cla) rfl (fun w9 hS => by
       have y14 := Zv (KS9.out.below hS KS9.out.lt) 14 (.slice (some ⟨b1, o1, none⟩) nla cla)
       go_simp) RS0 ?_
    refine tk 3 (.int .i64 k) RS0 ?_
    refine wpAnyH_take (i := 4) (v := .pointer (some ⟨b1, o1 + k * 5, none⟩)) rfl (by kernel_rfl) (by kernel_rfl) (by kernel_rfl) (fun _ _ _ h => h) (.inl ⟨by kernel_rfl, fun w9 hS => by go_simp⟩) RS0 ?_
    refine Zq 5 b1 (o1 + k * 5 + 1) RS0 ?_
    refine Zl 6 (.int .i64 zk.a) rfl (fun w9 hS => by
       have y1 : w9.cell? ⟨b1, o1 + k * 5 + 1, none⟩ = some (.int .i64 zk.a) := zap zk1 (show Below wA.heap.size wA w9 from hS)
       go_simp) RS0 ?_
    refine Zq 7 w4.heap.size 14 RS0 ?_
    refine Zl 8 (.slice (some ⟨b1, o1, none⟩) nla cla) rfl (fun w9 hS => by
       have y14 := Zv (KS9.out.below hS KS9.out.lt) 14 (.slice (some ⟨b1, o1, none⟩) nla cla)
       go_simp) RS0 ?_
    refine tk 9 (.int .i64 k) RS0 ?_
    refine wpAnyH_take (i := 10) (v := .pointer (some ⟨b1, o1 + k * 5, none⟩)) rfl (by kernel_rfl) (by kernel_rfl) (by kernel_rfl) (fun _ _ _ h => h) (.inl ⟨by kernel_rfl, fun w9 hS => by go_simp⟩) RS0 ?_
    refine Zq 11 b1 (o1 + k * 5 + 2) RS0 ?_
    refine Zl 12 (.int .i64 zk.b) rfl (fun w9 hS => by
       have y2 : w9.cell? ⟨b1, o1 + k * 5 + 2, none⟩ = some (.int .i64 zk.b) := zap zk2 (show Below wA.heap.size wA w9 from hS)
       go_simp) RS0 ?_
    obtain ⟨wd, hwd⟩ : ∃ V, World.drew wA = V := ⟨_, rfl⟩
    rw [hwd] at RS0 ⊢
    clear hwd
    refine za8 (i := 13) (j := 17) (by kernel_rfl) ?_ ?_
    ·skip
     refine zbo rfl (by kernel_rfl) (by kernel_rfl) (zh6 d zk.a zk.b A2 F2 T2 true wd HL2.out HA2.out HF2.out HTT2.out hb hc) ?_
     rintro e wq ⟨rfl, hb'⟩
     have RSc := Below.trans RS0 (hb'.mono (Below.size RS0))
     refine ⟨_, rfl, RSc, ?_⟩
     refine tk 14 (.tuple #[.agg #[A2, F2, T2], .bool true]) RSc ?_
     refine tk 15 (.agg #[A2, F2, T2]) RSc ?_
     refine tk 16 (.bool true) RSc ?_
     refine zaf (i := 17) (by kernel_rfl) ?_
     refine zam (w' := wq.alloc (.cells #[(), (), ()] 54)) (v := .pointer (some ⟨wq.heap.size, 0, none⟩)) rfl (by kernel_rfl) (by kernel_rfl) ?_
     obtain ⟨we, hal⟩ : ∃ V, wq.alloc (.cells #[(), (), ()] 54) = V := ⟨_, rfl⟩
     rw [hal]
     have hba : Below wq.heap.size wq we := by rw [<- hal]; exact (Below.refl _ wq).alloc (Nat.le_refl _) _
     have Ka : Blok we wq.heap.size 54 #[(), (), ()] := by rw [<- hal]; exact Blok.new wq _ _
     have RSa := Below.trans RSc (hba.mono (Below.size RSc))
     have SZa : wA.heap.size <= wq.heap.size := Below.size RSc
     refine ⟨RSa, ?_⟩
     clear hal
     refine zaf (i := 18) (by kernel_rfl) (zah (w' := we.setRow (wq.heap.size) #[A2, F2, T2]) rfl (by kernel_rfl) (zm0 Ka rfl (by kernel_rfl) (by kernel_rfl) (by kernel_rfl) rfl (by kernel_rfl)) ?_)
     obtain ⟨wg, hal⟩ : ∃ V, we.setRow (wq.heap.size) #[A2, F2, T2] = V := ⟨_, rfl⟩
     rw [hal]
     have hgs : we.grownBy wg (some (wq.heap.size)) := by rw [<- hal]; exact zbr _ _ _
     have Ks : Blok wg (wq.heap.size) 54 #[A2, F2, T2] := by rw [<- hal]; exact Ka.put _
     have RSs : Below wA.heap.size wA wg := zbb RSa hgs (Below.size RSa) (by omega)
     refine ⟨RSs, ?_⟩
     clear hal
     refine tk 19 (.bool true) RSs ?_
     refine wpAnyH_done (by kernel_rfl) ?_ _
     simp only [List.getElem_toArray, List.getElem_cons_succ, List.getElem_cons_zero, zc7, List.setIfInBounds_toArray, List.set_cons_succ, List.set_cons_zero]
     go_wp2_with fail
     go_meet
     exact ⟨_, rfl, rfl, Zh Ks, Zh RSs⟩
    ·skip
     refine zam (w' := wd.alloc (.cells #[(), (), ()] 54)) (v := .pointer (some ⟨wd.heap.size, 0, none⟩)) rfl (by kernel_rfl) (by kernel_rfl) ?_
     obtain ⟨we, hal⟩ : ∃ V, wd.alloc (.cells #[(), (), ()] 54) = V := ⟨_, rfl⟩
     rw [hal]
     have hba : Below wd.heap.size wd we := by rw [<- hal]; exact (Below.refl _ wd).alloc (Nat.le_refl _) _
     have Ka : Blok we wd.heap.size 54 #[(), (), ()] := by rw [<- hal]; exact Blok.new wd _ _
     have RSa := Below.trans RS0 (hba.mono (Below.size RS0))
     have SZa : wA.heap.size <= wd.heap.size := Below.size RS0
     refine ⟨RSa, ?_⟩
     clear hal
     refine zaf (i := 13) (by kernel_rfl) ?_
     refine zbo rfl (by kernel_rfl) (by kernel_rfl) (zh6 d zk.a zk.b A2 F2 T2 true we HL2.out HA2.out HF2.out HTT2.out hb hc) ?_
     rintro e wq ⟨rfl, hb'⟩
     have RSc := Below.trans RSa (hb'.mono (Below.size RSa))
     refine ⟨_, rfl, RSc, ?_⟩
     have Kc := Ka.below hb' Ka.lt
     refine tk 14 (.tuple #[.agg #[A2, F2, T2], .bool true]) RSc ?_
     refine tk 15 (.agg #[A2, F2, T2]) RSc ?_
     refine tk 16 (.bool true) RSc ?_
     refine zaf (i := 18) (by kernel_rfl) (zah (w' := wq.setRow (wd.heap.size) #[A2, F2, T2]) rfl (by kernel_rfl) (zm0 Kc rfl (by kernel_rfl) (by kernel_rfl) (by kernel_rfl) rfl (by kernel_rfl)) ?_)
     obtain ⟨wg, hal⟩ : ∃ V, wq.setRow (wd.heap.size) #[A2, F2, T2] = V := ⟨_, rfl⟩
     rw [hal]
     have hgs : wq.grownBy wg (some (wd.heap.size)) := by rw [<- hal]; exact zbr _ _ _
     have Ks : Blok wg (wd.heap.size) 54 #[A2, F2, T2] := by rw [<- hal]; exact Kc.put _
     have RSs : Below wA.heap.size wA wg := zbb RSc hgs (Below.size RSc) (by omega)
     refine ⟨RSs, ?_⟩
     clear hal
     refine tk 19 (.bool true) RSs ?_
     refine wpAnyH_done (by kernel_rfl) ?_ _
     simp only [List.getElem_toArray, List.getElem_cons_succ, List.getElem_cons_zero, zc7, List.setIfInBounds_toArray, List.set_cons_succ, List.set_cons_zero]
     go_wp2_with fail
     go_meet
     exact ⟨_, rfl, rfl, Zh Ks, Zh RSs⟩
   case rest =>
    obtain ⟨bY, rfl, rfl, hky, HWY⟩ := hcut
    obtain ⟨wB, rfl⟩ : ∃ W, W = wc := ⟨_, rfl⟩
    clear zk1 zk2
    have hb := HWY.out
    have KD10 := Zk KD9 hb
    have KP10 := Zk KP9 hb
    replace HTa8 := Zh (HTa8.out.below hb)
    have KS10 := Zk KS9 hb
    replace KX9 := Zk KX9 hb
    have HB10 := Zt HB9 hb
    clear hb KD9 KP9 KS9 HB9
    clear HWY
    have KY10 := hky
    clear hky
    obtain ⟨A3, hA⟩ : ∃ v, E.baseA d sub = v := ⟨_, rfl⟩
    obtain ⟨F3, hF⟩ : ∃ v, E.baseF d sub = v := ⟨_, rfl⟩
    obtain ⟨T3, hT⟩ : ∃ v, E.baseT d sub = v := ⟨_, rfl⟩
    obtain ⟨v3, hV⟩ : ∃ v, E.baseB d sub = v := ⟨_, rfl⟩
    have HA3 := Zh hA
    have HF3 := Zh hF
    have HTT3 := Zh hT
    have HV3 := Zh hV
    clear hA hF hT hV
    have HBS : Hid (v3 = true -> T3 < F1) := Zh (fun h => by have := Y.apart_base HM.out HI1.out (sub := sub) (by rw [HD.out, HV3.out]; exact h); rw [HD.out, HTT3.out, HF1.out] at this; exact this)
    have c0 := Y.as8 KD10.out
    go_wp2_with fail
    refine (zcb d sub A3 F3 T3 v3 wB HV3.out HA3.out HF3.out HTT3.out hb hc).mono ?_
    clear c0
    rintro e w11 ⟨rfl, hb⟩
    have KD11 := Zk KD10 hb
    have KP11 := Zk KP10 hb
    replace HTa8 := Zh (HTa8.out.below hb)
    have KS11 := Zk KS10 hb
    replace KX9 := Zk KX9 hb
    replace KY10 := Zk KY10 hb
    have HB11 := Zt HB10 hb
    clear hb KD10 KP10 KS10 HB10
    have c0 := Y.as8 KD11.out
    clear c0
    obtain ⟨w12, he12⟩ : ∃ W, w11.alloc (.cells #[(), (), ()] 54) = W := ⟨_, rfl⟩
    obtain ⟨w13, hp13⟩ : ∃ W, w12.setRow w11.heap.size #[A3, F3, T3] = W := ⟨_, rfl⟩
    obtain ⟨kz1, ka, hb, hsz⟩ := box0 he12 hp13
    have HZ13 := Zh kz1
    have HP13 := Zh hp13
    clear hsz
    have KD13 := Zk KD11 hb
    have KP13 := Zk KP11 hb
    replace HTa8 := Zh (HTa8.out.below hb)
    have KS13 := Zk KS11 hb
    replace KX9 := Zk KX9 hb
    replace KY10 := Zk KY10 hb
    have HB13 := Zt HB11 hb
    have KZ13 := Zh ka
    clear kz1 ka hb hp13 KD11 KP11 KS11 HB11
    go_upto_region 11 with (first | (refine Zw HZ13.out HP13.out ?_))
    clear he12 HZ13 HP13
    obtain ⟨x0, x1, x2⟩ := Y.as3 KX9.out
    obtain ⟨y0, y1, y2⟩ := Y.as3 KY10.out
    obtain ⟨u0, u1, u2⟩ := Y.as3 KZ13.out
    go_cut [138] from 107 to 138 (fun sc wx => sc = .bool false /\ wx = w13)
    case first =>
     by_cases h1 : i = k
     ·subst h1
      have e1 : ((i : Int) != i) = false := by simp
      go_wp2
      go_meet
      exact ⟨rfl, rfl⟩
     have e1 : ((i : Int) != k) = true := by simpa using (show ¬ (i : Int) = k by omega)
     by_cases h2 : A1 = A2
     rotate_left
     ·have e2 : (A1 == A2) = false := by simpa using h2
      go_wp2
      go_meet
      exact ⟨rfl, rfl⟩
     have e2 : (A1 == A2) = true := by simpa using h2
     have hap := HAP.out h1 h2
     by_cases h3 : F1 <= T2
     rotate_left
     ·have e3 : decide (F1 <= T2) = false := decide_eq_false h3
      go_wp2
      go_meet
      exact ⟨rfl, rfl⟩
     have e3 : decide (F1 <= T2) = true := decide_eq_true h3
     have e4 : decide (F2 <= T1) = false := decide_eq_false (by omega)
     go_wp2
     go_meet
     exact ⟨rfl, rfl⟩
    case rest =>
     obtain ⟨rfl, hw⟩ := hcut
     obtain rfl : w13 = wc := hw.symm
     go_upto_region 13 with fail
     go_cut [160] from 139 to 160 (fun sc wx => sc = .bool false /\ wx = w13)
     case first =>
      cases v3 with
      | false =>
       go_wp2
       go_meet
       exact ⟨rfl, rfl⟩
      | true =>
       by_cases h2 : A1 = A3
       rotate_left
       ·have e2 : (A1 == A3) = false := by simpa using h2
        go_wp2
        go_meet
        exact ⟨rfl, rfl⟩
       have e2 : (A1 == A3) = true := by simpa using h2
       have hbs := HBS.out rfl
       have e3 : decide (F1 <= T3) = false := decide_eq_false (by omega)
       go_wp2
       go_meet
       exact ⟨rfl, rfl⟩
     case rest =>
      obtain ⟨rfl, hw⟩ := hcut
      obtain rfl : w13 = wc := hw.symm
      have e5 : decide (F1 ≥ d.lo) = true := decide_eq_true HL1.out.2.1
      have e6 : decide (d.lo <= F1) = true := e5
      have e7 : decide (T1 <= d.hi) = true := decide_eq_true HL1.out.2.2.1
      obtain ⟨r, hr⟩ : ∃ r, O.of t.ps A1 = r := ⟨_, rfl⟩
      have HRR := Zh hr
      have e8 : decide (r ≥ 0) = true := decide_eq_true (by rw [<- hr]; exact HL1.out.2.2.2)
      have e9 : decide (0 <= r) = true := e8
      clear hr
      clear x0 x1 x2
      clear y0 y1 y2
      clear u0 u1 u2
      obtain ⟨x0, x1, x2⟩ := Y.as3 KX9.out
      have c0 := Y.as8 KD13.out
      have s0 := Y.cs16 KS13.out
      go_wp2_with fail
      refine (zdo apa npa cpa t.ps A1 r HRR.out w13 HTa8.out.p (by have := HFa.out.p; exact Nat.le_trans this (by decide))).mono ?_
      clear x0 x1 x2
      clear c0
      clear s0
      rintro e w14 ⟨rfl, hb⟩
      have KD14 := Zk KD13 hb
      have KP14 := Zk KP13 hb
      replace HTa8 := Zh (HTa8.out.below hb)
      have KS14 := Zk KS13 hb
      replace KX9 := Zk KX9 hb
      replace KY10 := Zk KY10 hb
      replace KZ13 := Zk KZ13 hb
      have HB14 := Zt HB13 hb
      clear hb KD13 KP13 KS13 HB13
      obtain ⟨x0, x1, x2⟩ := Y.as3 KX9.out
      have c0 := Y.as8 KD14.out
      have s0 := Y.cs16 KS14.out
      go_wp2
      go_ret
      exact ⟨rfl, HB14.out⟩
end Go.Proofs.YtonejangijkdmaaGreat
