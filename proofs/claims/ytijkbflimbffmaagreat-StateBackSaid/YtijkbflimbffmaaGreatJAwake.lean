import Derived.Test.YtijkbflimbffmaaGreatP6
import Derived.Test.YtijkbflimbffmaaGreatP30
import Derived.Test.YtijkbflimbffmaaGreatP41
namespace Go.Proofs.YtijkbflimbffmaaGreat
set_option maxHeartbeats 1000000
set_option maxRecDepth 100000
open Go.RowKit
theorem zna (w : World) :
  Calls Tryz.prog 10 #[] w fun e w' => e = .returned (.bool true) /\ Below w.heap.size w w' := by
 have HB0 := Zh (Below.refl w.heap.size w)
 go_enter Tryz.func10, Tryz.ntmps10
 go_wp2_with fail
 refine (zjp w).mono ?_
 rintro e w1 ⟨rfl, hb⟩
 have HB1 := Zt HB0 hb
 clear hb HB0
 go_wp2_with fail
 refine (zlz ⟨167772160, 31, 184549376, 32, 1000, 1099, 20, 10⟩ ⟨1, 9, 5, false⟩ w1 (by decide) (by decide) (by decide +kernel)).mono ?_
 rintro e w2 ⟨rfl, hb⟩
 have HB2 := Zt HB1 hb
 clear hb HB1
 have HQ2 := Zh HB2.out.size
 obtain ⟨w3, hw3, hb, hk⟩ := Zn w2 32 #[.int .i64 167772160, .int .i64 31, .int .i64 184549376, .int .i64 32, .int .i64 1000, .int .i64 1099, .int .i64 20, .int .i64 10, .int .i64 1, .int .i64 9, .int .i64 5, .bool false, .int .i64 0, .slice none 0 0, .slice none 0 0, .slice none 0 0]
 have HB3 := Zt HB2 hb
 have KS3 := Zh hk
 clear hb hk HB2
 obtain ⟨wz3, hz3⟩ : ∃ W, w2.alloc (.cells #[.int .i64 0, .int .i64 0, .int .i64 0, .int .i64 0, .int .i64 0, .int .i64 0, .int .i64 0, .int .i64 0, .int .i64 0, .int .i64 0, .int .i64 0, .bool false, .int .i64 0, .slice none 0 0, .slice none 0 0, .slice none 0 0] 32) = W := ⟨_, rfl⟩
 have HZK3 : Hid (Blok wz3 w2.heap.size 32 #[.int .i64 0, .int .i64 0, .int .i64 0, .int .i64 0, .int .i64 0, .int .i64 0, .int .i64 0, .int .i64 0, .int .i64 0, .int .i64 0, .int .i64 0, .bool false, .int .i64 0, .slice none 0 0, .slice none 0 0, .slice none 0 0]) := Zh (by rw [<- hz3]; exact Blok.new w2 _ _)
 have HPZ3 : Hid (wz3.setRow w2.heap.size #[.int .i64 167772160, .int .i64 31, .int .i64 184549376, .int .i64 32, .int .i64 1000, .int .i64 1099, .int .i64 20, .int .i64 10, .int .i64 1, .int .i64 9, .int .i64 5, .bool false, .int .i64 0, .slice none 0 0, .slice none 0 0, .slice none 0 0] = w3) := Zh (by rw [<- hz3, World.setRow_alloc_new, hw3])
 clear hw3
 have hq3 : w2.heap.size < w3.heap.size := KS3.out.lt
 skip
 go_wp2_with (first | (refine Zw HZK3.out HPZ3.out ?_) | (refine zak KS3.out rfl rfl (by kernel_rfl) Tryz.underlying32 rfl (by kernel_rfl) ?_))
 refine (znm (⟨⟨167772160, 31, 184549376, 32, 1000, 1099, 20, 10⟩, ⟨1, 9, 5, false⟩, 0, [], [], []⟩ : Y.St) Y.a0 (⟨2, 0, 0, 1, 0, ⟨0, 0, 0, false⟩⟩ : Y.Ev) (⟨⟨167772160, 31, 184549376, 32, 1000, 1099, 20, 10⟩, ⟨1, 9, 5, false⟩, 0, [⟨0, 1, 0⟩], [], []⟩ : Y.St) 0 J.aw1 w3 (Y.in0 _ ⟨167772160, 31, 184549376, 32, 1000, 1099, 20, 10⟩ ⟨1, 9, 5, false⟩) (Y.fits0 ⟨1, 9, 5, false⟩ (by decide) (by decide))).mono ?_
 rintro e w4 ⟨apa, npa, cpa, ala, nla, cla, aha, nha, cha, rfl, hG, hb⟩
 have KS4 := Zk KS3 hb
 have HB4 := Zt HB3 hb
 clear hb KS3 HB3
 have HGa4 := hG
 clear hG
 have hn1 : 1 = npa := HGa4.out.i.p.1
 have hn2 : 0 = nla := HGa4.out.i.l.1
 have hn3 : 0 = nha := HGa4.out.i.h.1
 subst hn1 hn2 hn3
 dsimp only
 obtain ⟨w5, hp5⟩ : ∃ W, w4.setRow (w2.heap.size) #[.int .i64 167772160, .int .i64 31, .int .i64 184549376, .int .i64 32, .int .i64 1000, .int .i64 1099, .int .i64 20, .int .i64 10, .int .i64 1, .int .i64 9, .int .i64 5, .bool false, .int .i64 0, .slice apa 1 cpa, .slice ala 0 cla, .slice aha 0 cha] = W := ⟨_, rfl⟩
 have hg5 : w4.grownBy w5 (some (w2.heap.size)) := by rw [<- hp5]; exact zbr _ _ _
 have HP5 := Zh hp5
 have KS5 : Hid (Blok w5 (w2.heap.size) 32 #[.int .i64 167772160, .int .i64 31, .int .i64 184549376, .int .i64 32, .int .i64 1000, .int .i64 1099, .int .i64 20, .int .i64 10, .int .i64 1, .int .i64 9, .int .i64 5, .bool false, .int .i64 0, .slice apa 1 cpa, .slice ala 0 cla, .slice aha 0 cha]) := Zh (by rw [<- hp5]; exact KS4.out.put _)
 have HGa5 := Zh (HGa4.out.far hg5 (by omega))
 have HB5 := Zh (HB4.out.grown hg5 HB4.out.size (fun q hq => by cases hq; exact HQ2.out))
 clear hp5 hg5 HGa4 HB4
 have hq5 : w2.heap.size < w5.heap.size := KS5.out.lt
 go_wp2_with (first | (refine Zw KS4.out HP5.out ?_) | (refine zak KS5.out rfl rfl (by kernel_rfl) Tryz.underlying32 rfl (by kernel_rfl) ?_))
 refine (znm (⟨⟨167772160, 31, 184549376, 32, 1000, 1099, 20, 10⟩, ⟨1, 9, 5, false⟩, 0, [⟨0, 1, 0⟩], [], []⟩ : Y.St) (⟨apa, 1, cpa, ala, 0, cla, aha, 0, cha⟩ : Y.A9) (⟨0, 3, 0, 0, 0, ⟨0, 0, 0, false⟩⟩ : Y.Ev) (⟨⟨167772160, 31, 184549376, 32, 1000, 1099, 20, 10⟩, ⟨1, 9, 5, false⟩, 3, [⟨0, 1, 0⟩], [⟨0, 0, 0, 3, 3⟩], []⟩ : Y.St) 0 J.aw2 w5 HGa5.out.i ⟨Nat.le_of_ble_eq_true rfl, Nat.le_of_ble_eq_true rfl, Nat.le_of_ble_eq_true rfl, (by intro x hx; simp only [List.mem_singleton] at hx; subst hx; decide), by decide, by decide⟩).mono ?_
 rintro e w6 ⟨apb, npb, cpb, alb, nlb, clb, ahb, nhb, chb, rfl, hG, hb⟩
 have KS6 := Zk KS5 hb
 replace HGa5 := Zh (HGa5.out.below hb)
 have HB6 := Zt HB5 hb
 clear hb KS5 HB5
 have HGb6 := hG
 clear hG
 have hn1 : 1 = npb := HGb6.out.i.p.1
 have hn2 : 1 = nlb := HGb6.out.i.l.1
 have hn3 : 0 = nhb := HGb6.out.i.h.1
 subst hn1 hn2 hn3
 dsimp only
 obtain ⟨w7, hp7⟩ : ∃ W, w6.setRow (w2.heap.size) #[.int .i64 167772160, .int .i64 31, .int .i64 184549376, .int .i64 32, .int .i64 1000, .int .i64 1099, .int .i64 20, .int .i64 10, .int .i64 1, .int .i64 9, .int .i64 5, .bool false, .int .i64 3, .slice apb 1 cpb, .slice alb 1 clb, .slice ahb 0 chb] = W := ⟨_, rfl⟩
 have hg7 : w6.grownBy w7 (some (w2.heap.size)) := by rw [<- hp7]; exact zbr _ _ _
 have HP7 := Zh hp7
 have KS7 : Hid (Blok w7 (w2.heap.size) 32 #[.int .i64 167772160, .int .i64 31, .int .i64 184549376, .int .i64 32, .int .i64 1000, .int .i64 1099, .int .i64 20, .int .i64 10, .int .i64 1, .int .i64 9, .int .i64 5, .bool false, .int .i64 3, .slice apb 1 cpb, .slice alb 1 clb, .slice ahb 0 chb]) := Zh (by rw [<- hp7]; exact KS6.out.put _)
 have HGb7 := Zh (HGb6.out.far hg7 (by omega))
 have HB7 := Zh (HB6.out.grown hg7 HB6.out.size (fun q hq => by cases hq; exact HQ2.out))
 clear hp7 hg7 HGa5 HGb6 HB6
 obtain ⟨bs, hbs⟩ : ∃ b, J.bytes (⟨⟨167772160, 31, 184549376, 32, 1000, 1099, 20, 10⟩, ⟨1, 9, 5, false⟩, 3, [⟨0, 1, 0⟩], [⟨0, 0, 0, 3, 3⟩], []⟩ : Y.St) = b := ⟨_, rfl⟩
 have HPB : Hid (J.put (⟨⟨167772160, 31, 184549376, 32, 1000, 1099, 20, 10⟩, ⟨1, 9, 5, false⟩, 3, [⟨0, 1, 0⟩], [⟨0, 0, 0, 3, 3⟩], []⟩ : Y.St) = some bs) := Zh (by rw [<- hbs]; exact J.put_yes J.aw3)
 have HRD : Hid (J.read bs = some (⟨⟨167772160, 31, 184549376, 32, 1000, 1099, 20, 10⟩, ⟨1, 9, 5, false⟩, 3, [⟨0, 1, 0⟩], [⟨0, 0, 0, 3, 3⟩], []⟩ : Y.St)) := Zh (J.read_some.2 HPB.out)
 have hbl : bs.length <= 600 := by rw [<- hbs]; exact J.bytes_len J.aw3.1
 clear hbs
 go_wp2_with (first | (refine Zw KS6.out HP7.out ?_) | (refine zak KS7.out rfl rfl (by kernel_rfl) Tryz.underlying32 rfl (by kernel_rfl) ?_))
 refine (znw (⟨⟨167772160, 31, 184549376, 32, 1000, 1099, 20, 10⟩, ⟨1, 9, 5, false⟩, 3, [⟨0, 1, 0⟩], [⟨0, 0, 0, 3, 3⟩], []⟩ : Y.St) (⟨apb, 1, cpb, alb, 1, clb, ahb, 0, chb⟩ : Y.A9) bs HPB.out w7 HGb7.out.i ⟨Nat.le_of_ble_eq_true rfl, Nat.le_of_ble_eq_true rfl, Nat.le_of_ble_eq_true rfl, (by intro x hx; simp only [List.mem_singleton] at hx; subst hx; decide), by decide, by decide⟩).mono ?_
 rintro e w8 ⟨pa, pc, rfl, hrow, hb, hnl⟩
 have KS8 := Zk KS7 hb
 replace HGb7 := Zh (HGb7.out.below hb)
 have HB8 := Zt HB7 hb
 clear hb KS7 HB7
 have HW8 := hrow
 have HNL := Zh hnl
 clear hrow hnl
 go_wp2_with fail
 refine (znb (⟨⟨167772160, 31, 184549376, 32, 1000, 1099, 20, 10⟩, ⟨1, 9, 5, false⟩, 3, [⟨0, 1, 0⟩], [⟨0, 0, 0, 3, 3⟩], []⟩ : Y.St) true pa bs.length pc bs (by rw [HRD.out]; rfl) (by rw [HRD.out]; rfl) w8 (by omega) rfl HW8.out HNL.out).mono ?_
 rintro e w9 ⟨apc, npc, cpc, alc, nlc, clc, ahc, nhc, chc, rfl, hG, hb⟩
 have KS9 := Zk KS8 hb
 replace HGb7 := Zh (HGb7.out.below hb)
 replace HW8 := Zh (HW8.out.below hb)
 have HB9 := Zt HB8 hb
 clear hb KS8 HB8
 have HGc9 := hG
 clear hG
 have hn1 : 1 = npc := HGc9.out.i.p.1
 have hn2 : 1 = nlc := HGc9.out.i.l.1
 have hn3 : 0 = nhc := HGc9.out.i.h.1
 subst hn1 hn2 hn3
 dsimp only
 obtain ⟨w10, hw10, hb, hk⟩ := Zn w9 32 #[.int .i64 167772160, .int .i64 31, .int .i64 184549376, .int .i64 32, .int .i64 1000, .int .i64 1099, .int .i64 20, .int .i64 10, .int .i64 1, .int .i64 9, .int .i64 5, .bool false, .int .i64 3, .slice apc 1 cpc, .slice alc 1 clc, .slice ahc 0 chc]
 have KS10 := Zk KS9 hb
 replace HGb7 := Zh (HGb7.out.below hb)
 replace HW8 := Zh (HW8.out.below hb)
 replace HGc9 := Zh (HGc9.out.below hb)
 have HB10 := Zt HB9 hb
 have KT10 := Zh hk
 clear hb hk KS9 HB9
 obtain ⟨wz10, hz10⟩ : ∃ W, w9.alloc (.cells #[.int .i64 0, .int .i64 0, .int .i64 0, .int .i64 0, .int .i64 0, .int .i64 0, .int .i64 0, .int .i64 0, .int .i64 0, .int .i64 0, .int .i64 0, .bool false, .int .i64 0, .slice none 0 0, .slice none 0 0, .slice none 0 0] 32) = W := ⟨_, rfl⟩
 have HZK10 : Hid (Blok wz10 w9.heap.size 32 #[.int .i64 0, .int .i64 0, .int .i64 0, .int .i64 0, .int .i64 0, .int .i64 0, .int .i64 0, .int .i64 0, .int .i64 0, .int .i64 0, .int .i64 0, .bool false, .int .i64 0, .slice none 0 0, .slice none 0 0, .slice none 0 0]) := Zh (by rw [<- hz10]; exact Blok.new w9 _ _)
 have HPZ10 : Hid (wz10.setRow w9.heap.size #[.int .i64 167772160, .int .i64 31, .int .i64 184549376, .int .i64 32, .int .i64 1000, .int .i64 1099, .int .i64 20, .int .i64 10, .int .i64 1, .int .i64 9, .int .i64 5, .bool false, .int .i64 3, .slice apc 1 cpc, .slice alc 1 clc, .slice ahc 0 chc] = w10) := Zh (by rw [<- hz10, World.setRow_alloc_new, hw10])
 clear hw10
 go_wp2_with (first | (refine Zw HZK10.out HPZ10.out ?_) | (refine zak KT10.out rfl rfl (by kernel_rfl) Tryz.underlying32 rfl (by kernel_rfl) ?_))
 refine (zm8 (⟨⟨167772160, 31, 184549376, 32, 1000, 1099, 20, 10⟩, ⟨1, 9, 5, false⟩, 3, [⟨0, 1, 0⟩], [⟨0, 0, 0, 3, 3⟩], []⟩ : Y.St) (⟨apc, 1, cpc, alc, 1, clc, ahc, 0, chc⟩ : Y.A9) 7 (⟨⟨167772160, 31, 184549376, 32, 1000, 1099, 20, 10⟩, ⟨1, 9, 5, false⟩, 7, [⟨0, 1, 0⟩], [⟨0, 0, 0, 3, 7⟩], []⟩ : Y.St) true J.aw4 w10 HGc9.out.i ⟨Nat.le_of_ble_eq_true rfl, Nat.le_of_ble_eq_true rfl, Nat.le_of_ble_eq_true rfl, (by intro x hx; simp only [List.mem_singleton] at hx; subst hx; decide), by decide, by decide⟩).mono ?_
 rintro e w11 ⟨apd, npd, cpd, ald, nld, cld, ahd, nhd, chd, rfl, hG, hb⟩
 have KS11 := Zk KS10 hb
 replace HGb7 := Zh (HGb7.out.below hb)
 replace HW8 := Zh (HW8.out.below hb)
 replace HGc9 := Zh (HGc9.out.below hb)
 replace KT10 := Zk KT10 hb
 have HB11 := Zt HB10 hb
 clear hb KS10 HB10
 have HGd11 := hG
 clear hG
 have hn1 : 1 = npd := HGd11.out.i.p.1
 have hn2 : 1 = nld := HGd11.out.i.l.1
 have hn3 : 0 = nhd := HGd11.out.i.h.1
 subst hn1 hn2 hn3
 dsimp only
 obtain ⟨w12, hw12, hb, hk⟩ := Zn w11 32 #[.int .i64 167772160, .int .i64 31, .int .i64 184549376, .int .i64 32, .int .i64 1000, .int .i64 1099, .int .i64 20, .int .i64 10, .int .i64 1, .int .i64 9, .int .i64 5, .bool false, .int .i64 7, .slice apd 1 cpd, .slice ald 1 cld, .slice ahd 0 chd]
 have KS12 := Zk KS11 hb
 replace HGb7 := Zh (HGb7.out.below hb)
 replace HW8 := Zh (HW8.out.below hb)
 replace HGc9 := Zh (HGc9.out.below hb)
 replace KT10 := Zk KT10 hb
 replace HGd11 := Zh (HGd11.out.below hb)
 have HB12 := Zt HB11 hb
 have KU12 := Zh hk
 clear hb hk KS11 HB11
 obtain ⟨wz12, hz12⟩ : ∃ W, w11.alloc (.cells #[.int .i64 0, .int .i64 0, .int .i64 0, .int .i64 0, .int .i64 0, .int .i64 0, .int .i64 0, .int .i64 0, .int .i64 0, .int .i64 0, .int .i64 0, .bool false, .int .i64 0, .slice none 0 0, .slice none 0 0, .slice none 0 0] 32) = W := ⟨_, rfl⟩
 have HZK12 : Hid (Blok wz12 w11.heap.size 32 #[.int .i64 0, .int .i64 0, .int .i64 0, .int .i64 0, .int .i64 0, .int .i64 0, .int .i64 0, .int .i64 0, .int .i64 0, .int .i64 0, .int .i64 0, .bool false, .int .i64 0, .slice none 0 0, .slice none 0 0, .slice none 0 0]) := Zh (by rw [<- hz12]; exact Blok.new w11 _ _)
 have HPZ12 : Hid (wz12.setRow w11.heap.size #[.int .i64 167772160, .int .i64 31, .int .i64 184549376, .int .i64 32, .int .i64 1000, .int .i64 1099, .int .i64 20, .int .i64 10, .int .i64 1, .int .i64 9, .int .i64 5, .bool false, .int .i64 7, .slice apd 1 cpd, .slice ald 1 cld, .slice ahd 0 chd] = w12) := Zh (by rw [<- hz12, World.setRow_alloc_new, hw12])
 clear hw12
 have u0 := Zv KT10.out 0 (.int .i64 167772160)
 have u1 := Zv KT10.out 1 (.int .i64 31)
 have u2 := Zv KT10.out 2 (.int .i64 184549376)
 have u3 := Zv KT10.out 3 (.int .i64 32)
 have u4 := Zv KT10.out 4 (.int .i64 1000)
 have u5 := Zv KT10.out 5 (.int .i64 1099)
 have u6 := Zv KT10.out 6 (.int .i64 20)
 have u7 := Zv KT10.out 7 (.int .i64 10)
 have u8 := Zv KT10.out 8 (.int .i64 1)
 have u9 := Zv KT10.out 9 (.int .i64 9)
 have u10 := Zv KT10.out 10 (.int .i64 5)
 have u11 := Zv KT10.out 11 (.bool false)
 have u12 := Zv KT10.out 12 (.int .i64 3)
 have u13 := Zv KT10.out 13 (.slice apc 1 cpc)
 have u14 := Zv KT10.out 14 (.slice alc 1 clc)
 have u15 := Zv KT10.out 15 (.slice ahc 0 chc)
 have v0 := Zv KS12.out 0 (.int .i64 167772160)
 have v1 := Zv KS12.out 1 (.int .i64 31)
 have v2 := Zv KS12.out 2 (.int .i64 184549376)
 have v3 := Zv KS12.out 3 (.int .i64 32)
 have v4 := Zv KS12.out 4 (.int .i64 1000)
 have v5 := Zv KS12.out 5 (.int .i64 1099)
 have v6 := Zv KS12.out 6 (.int .i64 20)
 have v7 := Zv KS12.out 7 (.int .i64 10)
 have v8 := Zv KS12.out 8 (.int .i64 1)
 have v9 := Zv KS12.out 9 (.int .i64 9)
 have v10 := Zv KS12.out 10 (.int .i64 5)
 have v11 := Zv KS12.out 11 (.bool false)
 have v12 := Zv KS12.out 12 (.int .i64 3)
 have v13 := Zv KS12.out 13 (.slice apb 1 cpb)
 have v14 := Zv KS12.out 14 (.slice alb 1 clb)
 have v15 := Zv KS12.out 15 (.slice ahb 0 chb)
 go_wp2_with (refine Zw HZK12.out HPZ12.out ?_)
 refine (zea (⟨⟨167772160, 31, 184549376, 32, 1000, 1099, 20, 10⟩, ⟨1, 9, 5, false⟩, 3, [⟨0, 1, 0⟩], [⟨0, 0, 0, 3, 3⟩], []⟩ : Y.St) (⟨⟨167772160, 31, 184549376, 32, 1000, 1099, 20, 10⟩, ⟨1, 9, 5, false⟩, 3, [⟨0, 1, 0⟩], [⟨0, 0, 0, 3, 3⟩], []⟩ : Y.St) (⟨apc, 1, cpc, alc, 1, clc, ahc, 0, chc⟩ : Y.A9) (⟨apb, 1, cpb, alb, 1, clb, ahb, 0, chb⟩ : Y.A9) w12 HGc9.out.i HGb7.out.i ⟨Nat.le_of_ble_eq_true rfl, Nat.le_of_ble_eq_true rfl, Nat.le_of_ble_eq_true rfl⟩ true (decide_eq_true rfl)).mono ?_
 rintro e w13 ⟨rfl, hb⟩
 have KS13 := Zk KS12 hb
 replace HGb7 := Zh (HGb7.out.below hb)
 replace HW8 := Zh (HW8.out.below hb)
 replace HGc9 := Zh (HGc9.out.below hb)
 replace KT10 := Zk KT10 hb
 replace HGd11 := Zh (HGd11.out.below hb)
 replace KU12 := Zk KU12 hb
 have HB13 := Zt HB12 hb
 clear hb KS12 HB12
 clear u0 v0 u1 v1 u2 v2 u3 v3 u4 v4 u5 v5 u6 v6 u7 v7 u8 v8 u9 v9 u10 v10 u11 v11 u12 v12 u13 v13 u14 v14 u15 v15
 obtain ⟨bc, oc, xc, ec, _, hxc, pc0, pc1, pc2, pc3, pc4⟩ := (HGc9.out.i.l : RIn w13 alc 1 clc [(⟨0, 0, 0, 3, 3⟩ : L.Ls)]).at5 (i := 0) Nat.zero_lt_one
 obtain rfl : (⟨0, 0, 0, 3, 3⟩ : L.Ls) = xc := by simpa using hxc
 subst ec
 clear hxc
 simp only [Nat.zero_mul, Nat.add_zero] at pc3 pc4
 have hbc : (0 : Int) < 1 := by decide
 obtain ⟨bd, od, xd, ed, _, hxd, pd0, pd1, pd2, pd3, pd4⟩ := (HGd11.out.i.l : RIn w13 ald 1 cld [(⟨0, 0, 0, 3, 7⟩ : L.Ls)]).at5 (i := 0) Nat.zero_lt_one
 obtain rfl : (⟨0, 0, 0, 3, 7⟩ : L.Ls) = xd := by simpa using hxd
 subst ed
 clear hxd
 simp only [Nat.zero_mul, Nat.add_zero] at pd3 pd4
 have hbd : (0 : Int) < 1 := by decide
 have k12 := KU12.out.cell 12
 have k14 := KU12.out.cell 14
 have t14 := KT10.out.cell 14
 go_wp2
 go_ret
 exact ⟨rfl, HB13.out⟩
end Go.Proofs.YtijkbflimbffmaaGreat
