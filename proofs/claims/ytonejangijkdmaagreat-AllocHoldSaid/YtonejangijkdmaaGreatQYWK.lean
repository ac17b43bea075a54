
import Derived.Test.YtonejangijkdmaaGreatQI
import Derived.Test.YtonejangijkdmaaGreatQYN
import Derived.Test.YtonejangijkdmaaGreatQYS1
namespace Go.Proofs.YtonejangijkdmaaGreat
set_option maxHeartbeats 3000000
set_option maxRecDepth 100000
open Go.RowKit
theorem zjo {fn : Func} {p : Tmp} (h : fn.results = #[.cell p 25]) {tmps : Array Value} {V : World} (g : Nat) {cs : Array Value} (hz : cs.size = 8)
  (hp : tmps.getD p undef = .pointer (some ⟨g, 0, none⟩)) (hg : Blok V g 25 cs) :
  (results fn tmps).run Tryz.prog V = .ok (.agg cs) V := by
 have hp' : tmps[p]?.getD undef = .pointer (some ⟨g, 0, none⟩) := by simpa using hp
 have hl := run_loadVar_row (P := Tryz.prog) V g 25 25 cs (0, 0) _ hg Tryz.underlying25 rfl (by rw [hz]; kernel_rfl)
 simp [results, h, hp', asAddr, hl]
theorem zjp (w : World) : Calls Tryz.prog 35 #[] w fun e w' => e = .returned (.agg #[.int .i64 167772160, .int .i64 31, .int .i64 184549376, .int .i64 32, .int .i64 1000, .int .i64 1099, .int .i64 20, .int .i64 10]) /\ Below w.heap.size w w' := by
 have HB0 := Zh (Below.refl w.heap.size w)
 obtain ⟨w1, he1⟩ : ∃ W, w.alloc (.cells #[(), (), (), (), (), (), (), ()] 25) = W := ⟨_, rfl⟩
 obtain ⟨w2, hp2⟩ : ∃ W, w1.setRow w.heap.size #[.int .i64 167772160, .int .i64 31, .int .i64 184549376, .int .i64 32, .int .i64 1000, .int .i64 1099, .int .i64 20, .int .i64 10] = W := ⟨_, rfl⟩
 obtain ⟨kz1, ka, hb, hsz⟩ := box0 he1 hp2
 have HZ2 := Zh kz1
 have HP2 := Zh hp2
 have KA := Zh ka
 have HB2 := Zh hb
 clear hsz kz1 ka hb hp2 HB0
 go_enter Tryz.func35, Tryz.ntmps35
 go_wp2_with (refine Zw HZ2.out HP2.out ?_)
 refine bodyPost_ret (zjo rfl w.heap.size rfl (by kernel_rfl) KA.out) rfl ?_
 exact ⟨rfl, HB2.out⟩
theorem zb0 (w : World) : Calls Tryz.prog 12 #[] w fun e w' => e = .returned (.bool true) /\ Below w.heap.size w w' := by
 have HB0 := Zh (Below.refl w.heap.size w)
 have HS0 : Hid (Y.step (⟨⟨167772160, 31, 184549376, 32, 1000, 1099, 20, 10⟩, ⟨1, 9, 5, false⟩, 0, [], [], []⟩ : Y.St) ⟨4, 0, 0, 0, 1, ⟨0, 0, 0, false⟩⟩ = ((⟨⟨167772160, 31, 184549376, 32, 1000, 1099, 20, 10⟩, ⟨1, 9, 5, false⟩, 0, [⟨0, 1, 0⟩], [], []⟩ : Y.St), [⟨2, 0, 0, 1, 0, ⟨0, 0, 0, false⟩⟩], 0, 0, 0)) := Zh (by decide +kernel)
 have HS1 : Hid (Y.step (⟨⟨167772160, 31, 184549376, 32, 1000, 1099, 20, 10⟩, ⟨1, 9, 5, false⟩, 0, [⟨0, 1, 0⟩], [], []⟩ : Y.St) ⟨0, 0, 0, 0, 0, ⟨0, 0, 0, false⟩⟩ = ((⟨⟨167772160, 31, 184549376, 32, 1000, 1099, 20, 10⟩, ⟨1, 9, 5, false⟩, 0, [⟨0, 1, 0⟩], [⟨0, 0, 0, 0, 0⟩], []⟩ : Y.St), [⟨0, 0, 0, 0, 0, ⟨0, 0, 0, false⟩⟩], 0, 0, 0)) := Zh (by decide +kernel)
 have HS2 : Hid (Y.step (⟨⟨167772160, 31, 184549376, 32, 1000, 1099, 20, 10⟩, ⟨1, 9, 5, false⟩, 0, [⟨0, 1, 0⟩], [⟨0, 0, 0, 0, 0⟩], []⟩ : Y.St) ⟨0, 0, 0, 0, 0, ⟨0, 0, 0, false⟩⟩ = ((⟨⟨167772160, 31, 184549376, 32, 1000, 1099, 20, 10⟩, ⟨1, 9, 5, false⟩, 0, [⟨0, 1, 0⟩], [⟨0, 0, 0, 0, 0⟩], []⟩ : Y.St), [], 6, 0, 0)) := Zh (by decide +kernel)
 have HS3 : Hid (Y.step (⟨⟨167772160, 31, 184549376, 32, 1000, 1099, 20, 10⟩, ⟨1, 9, 5, false⟩, 0, [⟨0, 1, 0⟩], [⟨0, 0, 0, 0, 0⟩], []⟩ : Y.St) ⟨2, 0, 0, 0, 0, ⟨0, 0, 0, false⟩⟩ = ((⟨⟨167772160, 31, 184549376, 32, 1000, 1099, 20, 10⟩, ⟨1, 9, 5, false⟩, 0, [⟨0, 1, 0⟩], [], [⟨0, 0, 5⟩]⟩ : Y.St), [⟨1, 0, 0, 0, 0, ⟨0, 0, 0, false⟩⟩], 0, 0, 0)) := Zh (by decide +kernel)
 have HS4 : Hid (Y.step (⟨⟨167772160, 31, 184549376, 32, 1000, 1099, 20, 10⟩, ⟨1, 9, 5, false⟩, 0, [⟨0, 1, 0⟩], [], [⟨0, 0, 5⟩]⟩ : Y.St) ⟨0, 1, 0, 0, 0, ⟨0, 0, 0, false⟩⟩ = ((⟨⟨167772160, 31, 184549376, 32, 1000, 1099, 20, 10⟩, ⟨1, 9, 5, false⟩, 0, [⟨0, 1, 0⟩], [⟨1, 0, 1, 0, 0⟩], [⟨0, 0, 5⟩]⟩ : Y.St), [⟨0, 0, 1, 0, 1, ⟨0, 0, 0, false⟩⟩], 0, 0, 1)) := Zh (by decide +kernel)
 go_enter Tryz.func12, Tryz.ntmps12
 go_wp2_with fail
 refine (zjp w).mono ?_
 rintro e w1 ⟨rfl, hb⟩
 have HB1 := Zt HB0 hb
 clear hb HB0
 go_wp2_with fail
 refine (zlz ⟨167772160, 31, 184549376, 32, 1000, 1099, 20, 10⟩ ⟨1, 9, 5, false⟩ w1 (by decide) (by decide) (by decide +kernel)).mono ?_
 rintro e w2 ⟨rfl, hb⟩
 have HB2 := Zt HB1 hb
 clear hb HB1
 have HLW := Zh HB2.out.size
 obtain ⟨w3, he3⟩ : ∃ W, w2.alloc (.cells #[(), (), (), (), (), (), (), (), (), (), (), .bool false, (), .slice none 0 0, .slice none 0 0, .slice none 0 0] 32) = W := ⟨_, rfl⟩
 obtain ⟨w4, hp4⟩ : ∃ W, w3.setRow w2.heap.size #[.int .i64 167772160, .int .i64 31, .int .i64 184549376, .int .i64 32, .int .i64 1000, .int .i64 1099, .int .i64 20, .int .i64 10, .int .i64 1, .int .i64 9, .int .i64 5, .bool false, (), .slice none 0 0, .slice none 0 0, .slice none 0 0] = W := ⟨_, rfl⟩
 obtain ⟨kz1, ka, hb, hsz⟩ := box0 he3 hp4
 have HZ4 := Zh kz1
 have HP4 := Zh hp4
 clear hsz
 have HB4 := Zt HB2 hb
 have KS4 := Zh ka
 clear kz1 ka hb hp4 HB2
 have LWB : Hid (w.heap.size <= w2.heap.size) := HLW
 have LKa := Zh KS4.out.lt
 go_wp2_with (first | (refine Zw HZ4.out HP4.out ?_) | (refine zak KS4.out rfl rfl (by kernel_rfl) Tryz.underlying32 rfl (by kernel_rfl) ?_))
 clear he3 HZ4 HP4
 refine (zca (⟨⟨167772160, 31, 184549376, 32, 1000, 1099, 20, 10⟩, ⟨1, 9, 5, false⟩, 0, [], [], []⟩ : Y.St) none 0 0 none 0 0 none 0 0 ⟨4, 0, 0, 0, 1, ⟨0, 0, 0, false⟩⟩ (⟨⟨167772160, 31, 184549376, 32, 1000, 1099, 20, 10⟩, ⟨1, 9, 5, false⟩, 0, [⟨0, 1, 0⟩], [], []⟩ : Y.St) [⟨2, 0, 0, 1, 0, ⟨0, 0, 0, false⟩⟩] 0 0 0 1 HS0.out rfl w4 (Y.in0 _ ⟨167772160, 31, 184549376, 32, 1000, 1099, 20, 10⟩ ⟨1, 9, 5, false⟩) (Y.fits0 (d := ⟨167772160, 31, 184549376, 32, 1000, 1099, 20, 10⟩) ⟨1, 9, 5, false⟩ (by decide) (by decide)) (fun _ => by decide)).mono ?_
 rintro e w5 ⟨apa, npa, cpa, ala, nla, cla, aha, nha, cha, eaa, eca, rfl, hi, hv, hf2, hu, he, hb⟩
 have KS5 := Zk KS4 hb
 have HB5 := Zt HB4 hb
 clear hb KS4 HB4
 have HTa5 := hi
 have HVa5 := hv
 have HFa := hf2
 have HUa := hu
 have HEa := he
 clear hi hv hf2 hu he
 have hn1 : 1 = npa := HTa5.out.p.1
 have hn2 : 0 = nla := HTa5.out.l.1
 have hn3 : 0 = nha := HTa5.out.h.1
 subst hn1 hn2 hn3
 clear HVa5
 obtain ⟨w6, he6⟩ : ∃ W, w5.alloc (.cells #[(), (), ()] 40) = W := ⟨_, rfl⟩
 obtain ⟨w7, hp7⟩ : ∃ W, w6.setRow (w2.heap.size) #[.int .i64 167772160, .int .i64 31, .int .i64 184549376, .int .i64 32, .int .i64 1000, .int .i64 1099, .int .i64 20, .int .i64 10, .int .i64 1, .int .i64 9, .int .i64 5, .bool false, (), .slice apa 1 cpa, .slice ala 0 cla, .slice aha 0 cha] = W := ⟨_, rfl⟩
 obtain ⟨w8, hp8⟩ : ∃ W, w7.setRow w5.heap.size #[(), (), ()] = W := ⟨_, rfl⟩
 obtain ⟨kz0, kz1, kt, ka, hg, hl⟩ := box1 KS5.out he6 hp7 hp8
 have HZ18 := Zh kz0
 have HZ28 := Zh kz1
 have HP18 := Zh hp7
 have HP28 := Zh hp8
 have HTa8 := Zh (HTa5.out.up HUa.out hg LKa.out)
 have HB8 := Zh (zbb HB5.out hg HB5.out.size (LWB.out))
 have KS8 := Zh kt
 have KA8 := Zh ka
 clear kz0 kz1 kt ka hg hl hp7 hp8 KS5 HTa5 HB5
 have LKb := Zh KS8.out.lt
 go_wp2_with (first | (refine Zw HZ18.out HP18.out ?_) | (refine Zw HZ28.out HP28.out ?_) | (refine zak KS8.out rfl rfl (by kernel_rfl) Tryz.underlying32 rfl (by kernel_rfl) ?_))
 clear he6 HZ18 HZ28 HP18 HP28
 refine (zca (⟨⟨167772160, 31, 184549376, 32, 1000, 1099, 20, 10⟩, ⟨1, 9, 5, false⟩, 0, [⟨0, 1, 0⟩], [], []⟩ : Y.St) apa 1 cpa ala 0 cla aha 0 cha ⟨0, 0, 0, 0, 0, ⟨0, 0, 0, false⟩⟩ (⟨⟨167772160, 31, 184549376, 32, 1000, 1099, 20, 10⟩, ⟨1, 9, 5, false⟩, 0, [⟨0, 1, 0⟩], [⟨0, 0, 0, 0, 0⟩], []⟩ : Y.St) [⟨0, 0, 0, 0, 0, ⟨0, 0, 0, false⟩⟩] 0 0 0 1 HS1.out rfl w8 HTa8.out HFa.out (fun _ => by decide)).mono ?_
 rintro e w9 ⟨apb, npb, cpb, alb, nlb, clb, ahb, nhb, chb, eab, ecb, rfl, hi, hv, hf2, hu, he, hb⟩
 replace HTa8 := Zh (HTa8.out.below hb)
 have KS9 := Zk KS8 hb
 have KA9 := Zk KA8 hb
 have HB9 := Zt HB8 hb
 clear hb KS8 KA8 HB8
 have HTb9 := hi
 have HVb9 := hv
 have HFb := hf2
 have HUb := hu
 have HEb := he
 clear hi hv hf2 hu he
 have hn1 : 1 = npb := HTb9.out.p.1
 have hn2 : 1 = nlb := HTb9.out.l.1
 have hn3 : 0 = nhb := HTb9.out.h.1
 subst hn1 hn2 hn3
 clear HTa8
 obtain ⟨w10, he10⟩ : ∃ W, w9.alloc (.cells #[(), (), ()] 40) = W := ⟨_, rfl⟩
 obtain ⟨w11, hp11⟩ : ∃ W, w10.setRow (w2.heap.size) #[.int .i64 167772160, .int .i64 31, .int .i64 184549376, .int .i64 32, .int .i64 1000, .int .i64 1099, .int .i64 20, .int .i64 10, .int .i64 1, .int .i64 9, .int .i64 5, .bool false, (), .slice apb 1 cpb, .slice alb 1 clb, .slice ahb 0 chb] = W := ⟨_, rfl⟩
 obtain ⟨w12, hp12⟩ : ∃ W, w11.setRow w9.heap.size #[(), (), ()] = W := ⟨_, rfl⟩
 obtain ⟨kz0, kz1, kt, ka, hg, hl⟩ := box1 KS9.out he10 hp11 hp12
 have HZ112 := Zh kz0
 have HZ212 := Zh kz1
 have HP112 := Zh hp11
 have HP212 := Zh hp12
 have KA12 := Zh (KA9.out.keep KS9.out (by simp) hg)
 have HTb12 := Zh (HTb9.out.up HUb.out hg LKb.out)
 have HVb12 := Zh (Y.vin_up HVb9.out HEb.out hg LKb.out)
 have HB12 := Zh (zbb HB9.out hg HB9.out.size (LWB.out))
 have KS12 := Zh kt
 have KB12 := Zh ka
 clear kz0 kz1 kt ka hg hl hp11 hp12 KS9 KA9 HTb9 HVb9 HB9
 have LKc := Zh KS12.out.lt
 go_wp2_with (first | (refine Zw HZ112.out HP112.out ?_) | (refine Zw HZ212.out HP212.out ?_) | (refine zak KS12.out rfl rfl (by kernel_rfl) Tryz.underlying32 rfl (by kernel_rfl) ?_))
 clear he10 HZ112 HZ212 HP112 HP212
 refine (zca (⟨⟨167772160, 31, 184549376, 32, 1000, 1099, 20, 10⟩, ⟨1, 9, 5, false⟩, 0, [⟨0, 1, 0⟩], [⟨0, 0, 0, 0, 0⟩], []⟩ : Y.St) apb 1 cpb alb 1 clb ahb 0 chb ⟨0, 0, 0, 0, 0, ⟨0, 0, 0, false⟩⟩ (⟨⟨167772160, 31, 184549376, 32, 1000, 1099, 20, 10⟩, ⟨1, 9, 5, false⟩, 0, [⟨0, 1, 0⟩], [⟨0, 0, 0, 0, 0⟩], []⟩ : Y.St) [] 6 0 0 0 HS2.out rfl w12 HTb12.out HFb.out (fun _ => by decide)).mono ?_
 rintro e w13 ⟨apc, npc, cpc, alc, nlc, clc, ahc, nhc, chc, eac, ecc, rfl, hi, hv, hf2, hu, he, hb⟩
 have KA13 := Zk KA12 hb
 replace HTb12 := Zh (HTb12.out.below hb)
 have HVb13 := Zh (HVb12.out.below hb)
 have KS13 := Zk KS12 hb
 have KB13 := Zk KB12 hb
 have HB13 := Zt HB12 hb
 clear hb KA12 HVb12 KS12 KB12 HB12
 have HTc13 := hi
 have HVc13 := hv
 have HFc := hf2
 have HUc := hu
 have HEc := he
 clear hi hv hf2 hu he
 have hn1 : 1 = npc := HTc13.out.p.1
 have hn2 : 1 = nlc := HTc13.out.l.1
 have hn3 : 0 = nhc := HTc13.out.h.1
 subst hn1 hn2 hn3
 clear HTc13
 clear HVc13
 obtain ⟨w14, he14⟩ : ∃ W, w13.alloc (.cells #[(), (), (), (), (), (), (), (), (), (), (), .bool false, (), .slice none 0 0, .slice none 0 0, .slice none 0 0] 32) = W := ⟨_, rfl⟩
 obtain ⟨w15, he15⟩ : ∃ W, w14.alloc (.cells #[(), (), ()] 40) = W := ⟨_, rfl⟩
 obtain ⟨w16, hp16⟩ : ∃ W, w15.setRow w13.heap.size #[.int .i64 167772160, .int .i64 31, .int .i64 184549376, .int .i64 32, .int .i64 1000, .int .i64 1099, .int .i64 20, .int .i64 10, .int .i64 1, .int .i64 9, .int .i64 5, .bool false, (), .slice apc 1 cpc, .slice alc 1 clc, .slice ahc 0 chc] = W := ⟨_, rfl⟩
 obtain ⟨w17, hp17⟩ : ∃ W, w16.setRow w14.heap.size #[.int .i64 6, (), ()] = W := ⟨_, rfl⟩
 obtain ⟨kz1, kz2, kt, ka, hb, hsz⟩ := box2 he14 he15 hp16 hp17
 have HZ1 := Zh kz1
 have HZ2 := Zh kz2
 have HP1 := Zh hp16
 have HP2 := Zh hp17
 have HSZ17 := Zh hsz
 clear hsz
 have KA17 := Zk KA13 hb
 replace HTb12 := Zh (HTb12.out.below hb)
 have HVb17 := Zh (HVb13.out.below hb)
 have KS17 := Zk KS13 hb
 have KB17 := Zk KB13 hb
 have HB17 := Zt HB13 hb
 have KU17 := Zh kt
 have KC17 := Zh ka
 have hlt17 := hb.size
 clear kz1 kz2 kt ka hb hp16 hp17 KA13 HVb13 KS13 KB13 HB13
 have HZ117 := HZ1
 have HZ217 := HZ2
 have HP117 := HP1
 have HP217 := HP2
 clear HZ1 HZ2 HP1 HP2 hlt17
 have LKd := Zh KS17.out.lt
 go_wp2_with (first | (refine Zw HZ117.out HP117.out ?_) | (refine Zw HZ217.out HP217.out ?_) | (refine zak KS17.out rfl rfl (by kernel_rfl) Tryz.underlying32 rfl (by kernel_rfl) ?_))
 clear he14 he15 HZ117 HZ217 HP117 HP217
 refine (zca (⟨⟨167772160, 31, 184549376, 32, 1000, 1099, 20, 10⟩, ⟨1, 9, 5, false⟩, 0, [⟨0, 1, 0⟩], [⟨0, 0, 0, 0, 0⟩], []⟩ : Y.St) apb 1 cpb alb 1 clb ahb 0 chb ⟨2, 0, 0, 0, 0, ⟨0, 0, 0, false⟩⟩ (⟨⟨167772160, 31, 184549376, 32, 1000, 1099, 20, 10⟩, ⟨1, 9, 5, false⟩, 0, [⟨0, 1, 0⟩], [], [⟨0, 0, 5⟩]⟩ : Y.St) [⟨1, 0, 0, 0, 0, ⟨0, 0, 0, false⟩⟩] 0 0 0 1 HS3.out rfl w17 HTb12.out HFb.out (fun _ => by decide)).mono ?_
 rintro e w18 ⟨apd, npd, cpd, ald, nld, cld, ahd, nhd, chd, ead, ecd, rfl, hi, hv, hf2, hu, he, hb⟩
 have KA18 := Zk KA17 hb
 replace HTb12 := Zh (HTb12.out.below hb)
 have HVb18 := Zh (HVb17.out.below hb)
 have KS18 := Zk KS17 hb
 have KB18 := Zk KB17 hb
 replace KU17 := Zk KU17 hb
 have KC18 := Zk KC17 hb
 have HB18 := Zt HB17 hb
 clear hb KA17 HVb17 KS17 KB17 KC17 HB17
 have HTd18 := hi
 have HVd18 := hv
 have HFd := hf2
 have HUd := hu
 have HEd := he
 clear hi hv hf2 hu he
 have hn1 : 1 = npd := HTd18.out.p.1
 have hn2 : 0 = nld := HTd18.out.l.1
 have hn3 : 1 = nhd := HTd18.out.h.1
 subst hn1 hn2 hn3
 clear HTb12
 clear HVd18
 clear KU17
 obtain ⟨w19, he19⟩ : ∃ W, w18.alloc (.cells #[(), (), ()] 40) = W := ⟨_, rfl⟩
 obtain ⟨w20, hp20⟩ : ∃ W, w19.setRow (w2.heap.size) #[.int .i64 167772160, .int .i64 31, .int .i64 184549376, .int .i64 32, .int .i64 1000, .int .i64 1099, .int .i64 20, .int .i64 10, .int .i64 1, .int .i64 9, .int .i64 5, .bool false, (), .slice apd 1 cpd, .slice ald 0 cld, .slice ahd 1 chd] = W := ⟨_, rfl⟩
 obtain ⟨w21, hp21⟩ : ∃ W, w20.setRow w18.heap.size #[(), (), ()] = W := ⟨_, rfl⟩
 obtain ⟨kz0, kz1, kt, ka, hg, hl⟩ := box1 KS18.out he19 hp20 hp21
 have HZ121 := Zh kz0
 have HZ221 := Zh kz1
 have HP121 := Zh hp20
 have HP221 := Zh hp21
 have KA21 := Zh (KA18.out.keep KS18.out (by simp) hg)
 have HVb21 := Zh (Y.vin_up HVb18.out HEb.out hg LKb.out)
 have KB21 := Zh (KB18.out.keep KS18.out (by simp) hg)
 have KC21 := Zh (KC18.out.keep KS18.out (by simp) hg)
 have HTd21 := Zh (HTd18.out.up HUd.out hg LKd.out)
 have HB21 := Zh (zbb HB18.out hg HB18.out.size (LWB.out))
 have KS21 := Zh kt
 have KD21 := Zh ka
 clear kz0 kz1 kt ka hg hl hp20 hp21 KA18 HVb18 KS18 KB18 KC18 HTd18 HB18
 have LKe := Zh KS21.out.lt
 go_wp2_with (first | (refine Zw HZ121.out HP121.out ?_) | (refine Zw HZ221.out HP221.out ?_) | (refine zak KS21.out rfl rfl (by kernel_rfl) Tryz.underlying32 rfl (by kernel_rfl) ?_))
 clear he19 HZ121 HZ221 HP121 HP221
 refine (zca (⟨⟨167772160, 31, 184549376, 32, 1000, 1099, 20, 10⟩, ⟨1, 9, 5, false⟩, 0, [⟨0, 1, 0⟩], [], [⟨0, 0, 5⟩]⟩ : Y.St) apd 1 cpd ald 0 cld ahd 1 chd ⟨0, 1, 0, 0, 0, ⟨0, 0, 0, false⟩⟩ (⟨⟨167772160, 31, 184549376, 32, 1000, 1099, 20, 10⟩, ⟨1, 9, 5, false⟩, 0, [⟨0, 1, 0⟩], [⟨1, 0, 1, 0, 0⟩], [⟨0, 0, 5⟩]⟩ : Y.St) [⟨0, 0, 1, 0, 1, ⟨0, 0, 0, false⟩⟩] 0 0 1 1 HS4.out rfl w21 HTd21.out HFd.out (fun _ => by decide)).mono ?_
 rintro e w22 ⟨ape, npe, cpe, ale, nle, cle, ahe, nhe, che, eae, ece, rfl, hi, hv, hf2, hu, he, hb⟩
 have KA22 := Zk KA21 hb
 have HVb22 := Zh (HVb21.out.below hb)
 have KB22 := Zk KB21 hb
 have KC22 := Zk KC21 hb
 replace HTd21 := Zh (HTd21.out.below hb)
 have KS22 := Zk KS21 hb
 have KD22 := Zk KD21 hb
 have HB22 := Zt HB21 hb
 clear hb KA21 HVb21 KB21 KC21 KS21 KD21 HB21
 have HTe22 := hi
 have HVe22 := hv
 have HFe := hf2
 have HUe := hu
 have HEe := he
 clear hi hv hf2 hu he
 have hn1 : 1 = npe := HTe22.out.p.1
 have hn2 : 1 = nle := HTe22.out.l.1
 have hn3 : 1 = nhe := HTe22.out.h.1
 subst hn1 hn2 hn3
 clear HTd21
 clear HVe22
 obtain ⟨w23, he23⟩ : ∃ W, w22.alloc (.cells #[(), (), ()] 40) = W := ⟨_, rfl⟩
 obtain ⟨w24, hp24⟩ : ∃ W, w23.setRow (w2.heap.size) #[.int .i64 167772160, .int .i64 31, .int .i64 184549376, .int .i64 32, .int .i64 1000, .int .i64 1099, .int .i64 20, .int .i64 10, .int .i64 1, .int .i64 9, .int .i64 5, .bool false, (), .slice ape 1 cpe, .slice ale 1 cle, .slice ahe 1 che] = W := ⟨_, rfl⟩
 obtain ⟨w25, hp25⟩ : ∃ W, w24.setRow w22.heap.size #[(), (), .int .i64 1] = W := ⟨_, rfl⟩
 obtain ⟨kz0, kz1, kt, ka, hg, hl⟩ := box1 KS22.out he23 hp24 hp25
 have HZ125 := Zh kz0
 have HZ225 := Zh kz1
 have HP125 := Zh hp24
 have HP225 := Zh hp25
 have KA25 := Zh (KA22.out.keep KS22.out (by simp) hg)
 have HVb25 := Zh (Y.vin_up HVb22.out HEb.out hg LKb.out)
 have KB25 := Zh (KB22.out.keep KS22.out (by simp) hg)
 have KC25 := Zh (KC22.out.keep KS22.out (by simp) hg)
 have KD25 := Zh (KD22.out.keep KS22.out (by simp) hg)
 have HTe25 := Zh (HTe22.out.up HUe.out hg LKe.out)
 have HB25 := Zh (zbb HB22.out hg HB22.out.size (LWB.out))
 have KS25 := Zh kt
 have KE25 := Zh ka
 clear kz0 kz1 kt ka hg hl hp24 hp25 KA22 HVb22 KB22 KC22 KS22 KD22 HTe22 HB22
 have c0 := Y.as16 KS25.out
 obtain ⟨a0, a1, a2⟩ := Y.as3 KA25.out
 obtain ⟨b0, b1, b2⟩ := Y.as3 KB25.out
 obtain ⟨d0, d1, d2⟩ := Y.as3 KC25.out
 obtain ⟨f0, f1, f2⟩ := Y.as3 KD25.out
 obtain ⟨h0, h1, h2⟩ := Y.as3 KE25.out
 obtain ⟨be, offe, ze, hal, hbe, hz, hce⟩ := HVb25.out.at (show 0 < 1 by decide)
 obtain rfl : ⟨0, 0, 0, 0, 0, ⟨0, 0, 0, false⟩⟩ = ze := Option.some.inj hz
 subst hal
 have v0 : w25.cell? ⟨be, offe, none⟩ = some (.int .i64 0) := by have := hce 0 _ rfl; simpa using this
 clear hz hbe hce
 go_wp2_with (first | (refine Zw HZ125.out HP125.out ?_) | (refine Zw HZ225.out HP225.out ?_))
 clear he23 HZ125 HZ225 HP125 HP225
 refine (zbj (⟨⟨167772160, 31, 184549376, 32, 1000, 1099, 20, 10⟩, ⟨1, 9, 5, false⟩, 0, [⟨0, 1, 0⟩], [⟨1, 0, 1, 0, 0⟩], [⟨0, 0, 5⟩]⟩ : Y.St) ⟨ape, 1, cpe, ale, 1, cle, ahe, 1, che⟩ true (by decide +kernel) w25 HTe25.out HFe.out).mono ?_
 clear c0
 clear a0 a1 a2
 clear b0 b1 b2
 clear d0 d1 d2
 clear f0 f1 f2
 clear h0 h1 h2
 rintro e w26 ⟨rfl, hb⟩
 have KA26 := Zk KA25 hb
 have HVb26 := Zh (HVb25.out.below hb)
 have KB26 := Zk KB25 hb
 have KC26 := Zk KC25 hb
 have KD26 := Zk KD25 hb
 replace HTe25 := Zh (HTe25.out.below hb)
 have KS26 := Zk KS25 hb
 replace KE25 := Zk KE25 hb
 have HB26 := Zt HB25 hb
 clear hb KA25 HVb25 KB25 KC25 KD25 KS25 HB25
 have c0 := Y.as16 KS26.out
 obtain ⟨a0, a1, a2⟩ := Y.as3 KA26.out
 obtain ⟨b0, b1, b2⟩ := Y.as3 KB26.out
 obtain ⟨d0, d1, d2⟩ := Y.as3 KC26.out
 obtain ⟨f0, f1, f2⟩ := Y.as3 KD26.out
 obtain ⟨h0, h1, h2⟩ := Y.as3 KE25.out
 go_wp2_with fail
 refine (zea (⟨⟨167772160, 31, 184549376, 32, 1000, 1099, 20, 10⟩, ⟨1, 9, 5, false⟩, 0, [⟨0, 1, 0⟩], [⟨1, 0, 1, 0, 0⟩], [⟨0, 0, 5⟩]⟩ : Y.St) (⟨⟨167772160, 31, 184549376, 32, 1000, 1099, 20, 10⟩, ⟨1, 9, 5, false⟩, 0, [⟨0, 1, 0⟩], [⟨1, 0, 1, 0, 0⟩], [⟨0, 0, 5⟩]⟩ : Y.St) ⟨ape, 1, cpe, ale, 1, cle, ahe, 1, che⟩ ⟨ape, 1, cpe, ale, 1, cle, ahe, 1, che⟩ w26 HTe25.out HTe25.out ⟨HFe.out.p, HFe.out.l, HFe.out.h⟩ true (by decide +kernel)).mono ?_
 clear c0
 clear a0 a1 a2
 clear b0 b1 b2
 clear d0 d1 d2
 clear f0 f1 f2
 clear h0 h1 h2
 rintro e w27 ⟨rfl, hb⟩
 have KA27 := Zk KA26 hb
 have HVb27 := Zh (HVb26.out.below hb)
 have KB27 := Zk KB26 hb
 have KC27 := Zk KC26 hb
 have KD27 := Zk KD26 hb
 replace HTe25 := Zh (HTe25.out.below hb)
 have KS27 := Zk KS26 hb
 replace KE25 := Zk KE25 hb
 have HB27 := Zt HB26 hb
 clear hb KA26 HVb26 KB26 KC26 KD26 KS26 HB26
 have c0 := Y.as16 KS27.out
 obtain ⟨a0, a1, a2⟩ := Y.as3 KA27.out
 obtain ⟨b0, b1, b2⟩ := Y.as3 KB27.out
 obtain ⟨d0, d1, d2⟩ := Y.as3 KC27.out
 obtain ⟨f0, f1, f2⟩ := Y.as3 KD27.out
 obtain ⟨h0, h1, h2⟩ := Y.as3 KE25.out
 go_wp2_with fail
 refine (zbe ⟨1, 9, 5, false⟩ true (by decide) w27).mono ?_
 clear c0
 clear a0 a1 a2
 clear b0 b1 b2
 clear d0 d1 d2
 clear f0 f1 f2
 clear h0 h1 h2
 rintro e w28 ⟨rfl, hb⟩
 have KA28 := Zk KA27 hb
 have HVb28 := Zh (HVb27.out.below hb)
 have KB28 := Zk KB27 hb
 have KC28 := Zk KC27 hb
 have KD28 := Zk KD27 hb
 replace HTe25 := Zh (HTe25.out.below hb)
 have KS28 := Zk KS27 hb
 replace KE25 := Zk KE25 hb
 have HB28 := Zt HB27 hb
 clear hb KA27 HVb27 KB27 KC27 KD27 KS27 HB27
 have c0 := Y.as16 KS28.out
 obtain ⟨a0, a1, a2⟩ := Y.as3 KA28.out
 obtain ⟨b0, b1, b2⟩ := Y.as3 KB28.out
 obtain ⟨d0, d1, d2⟩ := Y.as3 KC28.out
 obtain ⟨f0, f1, f2⟩ := Y.as3 KD28.out
 obtain ⟨h0, h1, h2⟩ := Y.as3 KE25.out
 go_wp2
 go_ret
 exact ⟨rfl, HB28.out⟩
end Go.Proofs.YtonejangijkdmaaGreat
