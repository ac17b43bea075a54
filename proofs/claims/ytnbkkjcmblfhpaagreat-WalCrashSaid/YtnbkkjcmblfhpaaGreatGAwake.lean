import Derived.Test.YtnbkkjcmblfhpaaGreatP30
namespace Go.Proofs.YtnbkkjcmblfhpaaGreat
set_option maxHeartbeats 1000000
set_option maxRecDepth 100000
open Go.RowKit
theorem G.awake_any (w : World) :
  Calls Tryz.prog 10 #[] w fun e w' => e = .returned (.bool true) /\ Below w.heap.size w w' := by
 have HB0 := Zh (Below.refl w.heap.size w)
 go_enter Tryz.func10, Tryz.ntmps10
 go_wp2_with fail
 refine (G.start_any w).mono ?_
 rintro e w1 ⟨a, n, c, ys, rfl, HDq, HFF, hb⟩
 replace HB0 := Zt HB0 hb
 clear hb
 have HD1 := HDq
 clear HDq
 obtain ⟨y, rfl⟩ : ∃ y, ys = [y] := by
  have h1 : FP.files ys = G.w0.1.2 := HFF.out
  have h2 : (FP.files ys).length = 1 := by rw [h1]; rfl
  rw [FP.files_len] at h2
  exact List.length_eq_one_iff.1 h2
 obtain rfl : 1 = n := HD1.out.1
 obtain ⟨w2, he2⟩ : ∃ W, w1.alloc (.cells #[.int .i64 0, .slice none 0 0, .int .i64 0, .int .i64 0] 26) = W := ⟨_, rfl⟩
 obtain ⟨w3, he3⟩ : ∃ W, w2.alloc (.cells #[.int .i64 0, .int .i64 0, .int .i64 0, .int .i64 0, .int .i64 0, .int .i64 0, .int .i64 0, .int .i64 0, .int .i64 0, .int .i64 0, .int .i64 0, .bool false, .int .i64 0, .slice none 0 0, .slice none 0 0, .slice none 0 0] 37) = W := ⟨_, rfl⟩
 obtain ⟨w4, hp4⟩ : ∃ W, w3.setRow w1.heap.size #[.int .i64 2000, .slice a 1 c, .int .i64 1, .int .i64 0] = W := ⟨_, rfl⟩
 obtain ⟨w5, hp5⟩ : ∃ W, w4.setRow w2.heap.size #[.int .i64 167772160, .int .i64 31, .int .i64 184549376, .int .i64 32, .int .i64 1000, .int .i64 1099, .int .i64 20, .int .i64 10, .int .i64 1, .int .i64 9, .int .i64 5, .bool false, .int .i64 0, .slice none 0 0, .slice none 0 0, .slice none 0 0] = W := ⟨_, rfl⟩
 obtain ⟨kz1, kz2, kt, ka, hb, hsz⟩ := box2 he2 he3 hp4 hp5
 have HZ1 := Zh kz1
 have HZ2 := Zh kz2
 have HP1 := Zh hp4
 have HP2 := Zh hp5
 have HSZ5 := Zh hsz
 clear hsz
 replace HD1 := Zh (HD1.out.below hb)
 replace HB0 := Zt HB0 hb
 have KW5 := Zh kt
 have KS5 := Zh ka
 have hlt5 := hb.size
 clear kz1 kz2 kt ka hb hp4 hp5
 have HKS0 := KS5
 have HKW0 := KW5
 obtain ⟨w6, hw6, hb, hk⟩ := Zn w5 70 #[.int .i64 2, .int .i64 0, .int .i64 0, .int .i64 1, .int .i64 0, .int .i64 0, .int .i64 0, .int .i64 0, .bool false]
 replace HD1 := Zh (HD1.out.below hb)
 replace KW5 := Zk KW5 hb
 replace KS5 := Zk KS5 hb
 replace HB0 := Zt HB0 hb
 have KE6 := Zh hk
 clear hb hk
 have hp := G.add_any 2000 a 1 c 1 0 [y] (some ⟨w5.heap.size, 0, none⟩) 1 1 [(⟨2, 0, 0, 1, 0, ⟨0, 0, 0, false⟩⟩ : Y.Ev)] w6 HD1.out (by have h1 : FP.files [y] = G.w0.1.2 := HFF.out; rw [h1]; exact D.small_may G.mayw0.1) (zyv (⟨2, 0, 0, 1, 0, ⟨0, 0, 0, false⟩⟩ : Y.Ev) KE6.out) (by decide)
 have ha : G.add ((2000, FP.files [y]), 1, 0) [(⟨2, 0, 0, 1, 0, ⟨0, 0, 0, false⟩⟩ : Y.Ev)] = (G.w1, 0) := by have h1 : FP.files [y] = G.w0.1.2 := HFF.out; rw [h1]; exact G.add00
 rw [ha] at hp
 clear ha
 go_wp2_with (first | (refine Zw HZ1.out HP1.out ?_) | (refine Zw HZ2.out HP2.out ?_) | (refine zak HKW0.out rfl rfl (by kernel_rfl) Tryz.underlying26 rfl (by kernel_rfl) ?_))
 clear he2 he3 HZ1 HZ2 HP1 HP2 hlt5
 try rw [hw6]
 refine (hp).mono ?_
 rintro e w7 ⟨a2, n2, c2, zs, rfl, HDq, HFG, HXX, hb⟩
 replace HD1 := Zh (HD1.out.below hb)
 replace KW5 := Zk KW5 hb
 replace KS5 := Zk KS5 hb
 replace KE6 := Zk KE6 hb
 replace HB0 := Zt HB0 hb
 clear hb
 have HX7 := HDq
 clear hp HDq hw6 HXX HKS0 HKW0
 obtain ⟨z, rfl⟩ : ∃ z, zs = [z] := by
  have h1 : FP.files zs = G.w1.1.2 := HFG.out
  have h2 : (FP.files zs).length = 1 := by rw [h1]; rfl
  rw [FP.files_len] at h2
  exact List.length_eq_one_iff.1 h2
 obtain rfl : 1 = n2 := HX7.out.1
 obtain ⟨w8, hw8, hb, hk⟩ := Zn w7 26 #[.int .i64 2000, .slice a2 1 c2, .int .i64 1, .int .i64 0]
 replace HD1 := Zh (HD1.out.below hb)
 replace KW5 := Zk KW5 hb
 replace KS5 := Zk KS5 hb
 replace KE6 := Zk KE6 hb
 replace HX7 := Zh (HX7.out.below hb)
 replace HB0 := Zt HB0 hb
 have KX8 := Zh hk
 clear hb hk
 obtain ⟨wz8, hz8⟩ : ∃ W, w7.alloc (.cells #[.int .i64 0, .slice none 0 0, .int .i64 0, .int .i64 0] 26) = W := ⟨_, rfl⟩
 have HZK8 : Hid (Blok wz8 w7.heap.size 26 #[.int .i64 0, .slice none 0 0, .int .i64 0, .int .i64 0]) := Zh (by rw [<- hz8]; exact Blok.new w7 _ _)
 have HPZ8 : Hid (wz8.setRow w7.heap.size #[.int .i64 2000, .slice a2 1 c2, .int .i64 1, .int .i64 0] = w8) := Zh (by rw [<- hz8, World.setRow_alloc_new, hw8])
 clear hw8
 obtain ⟨x0, x1, x2, x3⟩ := G.pk KW5.out
 obtain ⟨y0, y1, y2, y3⟩ := G.pk KX8.out
 obtain ⟨b, off, no, fa, fn, fc, B, s, rfl, hlt, hx, p0, p1, p2, hok⟩ := HD1.out.2.1.at (i := 0) Nat.zero_lt_one
 obtain rfl : y = ⟨no, fa, fn, fc, B, s⟩ := by simpa using hx
 have hfile : ((no, B, s) : D.F) = (1, G.recS G.s0, ((G.recS G.s0).length : Int)) := by have h1 : FP.files [⟨no, fa, fn, fc, B, s⟩] = G.w0.1.2 := HFF.out; simpa [FP.files, FP.file, G.w0] using h1
 simp only [Prod.mk.injEq] at hfile
 obtain ⟨rfl, hB, hs⟩ := hfile
 have HBQ := Zh hB
 obtain rfl : (fn : Int) = s := by rw [hs, <- hB]; exact congrArg Int.ofNat hok.1.symm
 have HOK := Zh hok
 clear hx hok hB hs
 simp only [Nat.zero_mul, Nat.add_zero] at p0 p1 p2
 have j1 : (0 : Int) < 1 := by decide
 have hml : maxLen <= 9223372036854775807 := by decide
 obtain ⟨w9, hw9, hb, hk⟩ := Zn w8 53 #[.int .i64 1, .slice fa fn fc, .int .i64 (fn : Int)]
 replace HD1 := Zh (HD1.out.below hb)
 replace KW5 := Zk KW5 hb
 replace KS5 := Zk KS5 hb
 replace KE6 := Zk KE6 hb
 replace HX7 := Zh (HX7.out.below hb)
 replace KX8 := Zk KX8 hb
 replace HB0 := Zt HB0 hb
 have KF9 := Zh hk
 clear hb hk
 obtain ⟨wz9, hz9⟩ : ∃ W, w8.alloc (.cells #[.int .i64 0, .slice none 0 0, .int .i64 0] 53) = W := ⟨_, rfl⟩
 have HZK9 : Hid (Blok wz9 w8.heap.size 53 #[.int .i64 0, .slice none 0 0, .int .i64 0]) := Zh (by rw [<- hz9]; exact Blok.new _ _ _)
 have HPZ9 : Hid (wz9.setRow w8.heap.size #[.int .i64 1, .slice fa fn fc, .int .i64 (fn : Int)] = w9) := Zh (by rw [<- hz9, World.setRow_alloc_new, hw9])
 clear hw9
 have f1 := Zv KF9.out 1 (.slice fa fn fc)
 have HF1 : Hid (G.firstL B = ((⟨⟨167772160, 31, 184549376, 32, 1000, 1099, 20, 10⟩, ⟨1, 9, 5, false⟩, 0, [], [], []⟩ : Y.St), (fn : Int), true)) := Zh (by
  have h1 := G.first_rec G.put0 []
  rw [List.append_nil, <- HBQ.out] at h1
  rw [h1]
  have h2 : B.length = fn := HOK.out.1
  rw [h2]
  rfl)
 have HBfn : Hid (fn <= 1007) := Zh (by have h1 : B.length = fn := HOK.out.1; rw [<- h1, HBQ.out]; exact G.len0.2)
 have HR9 : Hid (zfv .u8 w9 fa fc B) := Zh (HD1.out.2.1.2.1 _ (List.mem_singleton.2 rfl)).2.1
 go_wp2_with (first | (refine Zw HZK8.out HPZ8.out ?_) | (with_reducible refine J.zx HZK9.out HPZ9.out ?_))
 refine (G.first_any (⟨⟨167772160, 31, 184549376, 32, 1000, 1099, 20, 10⟩, ⟨1, 9, 5, false⟩, 0, [], [], []⟩ : Y.St) fn true fa fn fc B HF1.out w9 (by have := HBfn.out; omega) HOK.out.1 HR9.out HOK.out.2.2).mono ?_
 rintro e w10 ⟨xap, xnp, xcp, xal, xnl, xcl, xah, xnh, xch, rfl, hG, hb⟩
 replace HD1 := Zh (HD1.out.below hb)
 replace KW5 := Zk KW5 hb
 replace KS5 := Zk KS5 hb
 replace KE6 := Zk KE6 hb
 replace HX7 := Zh (HX7.out.below hb)
 replace KX8 := Zk KX8 hb
 replace KF9 := Zk KF9 hb
 replace HR9 := Zh (HR9.out.below hb)
 replace HB0 := Zt HB0 hb
 clear hb
 have HGx10 := hG
 clear hG x0 x1 x2 x3 y0 y1 y2 y3 p0 p1 p2 f1
 obtain ⟨w11, hw11, hb, hk⟩ := Zn w10 37 #[.int .i64 167772160, .int .i64 31, .int .i64 184549376, .int .i64 32, .int .i64 1000, .int .i64 1099, .int .i64 20, .int .i64 10, .int .i64 1, .int .i64 9, .int .i64 5, .bool false, .int .i64 0, .slice xap xnp xcp, .slice xal xnl xcl, .slice xah xnh xch]
 replace HD1 := Zh (HD1.out.below hb)
 replace KW5 := Zk KW5 hb
 replace KS5 := Zk KS5 hb
 replace KE6 := Zk KE6 hb
 replace HX7 := Zh (HX7.out.below hb)
 replace KX8 := Zk KX8 hb
 replace KF9 := Zk KF9 hb
 replace HR9 := Zh (HR9.out.below hb)
 replace HGx10 := Zh (HGx10.out.below hb)
 replace HB0 := Zt HB0 hb
 have KT11 := Zh hk
 clear hb hk
 obtain ⟨wz11, hz11⟩ : ∃ W, w10.alloc (.cells #[.int .i64 0, .int .i64 0, .int .i64 0, .int .i64 0, .int .i64 0, .int .i64 0, .int .i64 0, .int .i64 0, .int .i64 0, .int .i64 0, .int .i64 0, .bool false, .int .i64 0, .slice none 0 0, .slice none 0 0, .slice none 0 0] 37) = W := ⟨_, rfl⟩
 have HZK11 : Hid (Blok wz11 w10.heap.size 37 #[.int .i64 0, .int .i64 0, .int .i64 0, .int .i64 0, .int .i64 0, .int .i64 0, .int .i64 0, .int .i64 0, .int .i64 0, .int .i64 0, .int .i64 0, .bool false, .int .i64 0, .slice none 0 0, .slice none 0 0, .slice none 0 0]) := Zh (by rw [<- hz11]; exact Blok.new w10 _ _)
 have HPZ11 : Hid (wz11.setRow w10.heap.size #[.int .i64 167772160, .int .i64 31, .int .i64 184549376, .int .i64 32, .int .i64 1000, .int .i64 1099, .int .i64 20, .int .i64 10, .int .i64 1, .int .i64 9, .int .i64 5, .bool false, .int .i64 0, .slice xap xnp xcp, .slice xal xnl xcl, .slice xah xnh xch] = w11) := Zh (by rw [<- hz11, World.setRow_alloc_new, hw11])
 clear hw11
 have f0 := Zv KF9.out 0 (.int .i64 1)
 have f1 := Zv KF9.out 1 (.slice fa fn fc)
 have f2 := Zv KF9.out 2 (.int .i64 (fn : Int))
 have e1 : ((fn : Int) == (fn : Int)) = true := by simp
 have u0 := Zv KT11.out 0 (.int .i64 167772160)
 have u1 := Zv KT11.out 1 (.int .i64 31)
 have u2 := Zv KT11.out 2 (.int .i64 184549376)
 have u3 := Zv KT11.out 3 (.int .i64 32)
 have u4 := Zv KT11.out 4 (.int .i64 1000)
 have u5 := Zv KT11.out 5 (.int .i64 1099)
 have u6 := Zv KT11.out 6 (.int .i64 20)
 have u7 := Zv KT11.out 7 (.int .i64 10)
 have u8 := Zv KT11.out 8 (.int .i64 1)
 have u9 := Zv KT11.out 9 (.int .i64 9)
 have u10 := Zv KT11.out 10 (.int .i64 5)
 have u11 := Zv KT11.out 11 (.bool false)
 have u12 := Zv KT11.out 12 (.int .i64 0)
 have u13 := Zv KT11.out 13 (.slice xap xnp xcp)
 have u14 := Zv KT11.out 14 (.slice xal xnl xcl)
 have u15 := Zv KT11.out 15 (.slice xah xnh xch)
 have v0 := Zv KS5.out 0 (.int .i64 167772160)
 have v1 := Zv KS5.out 1 (.int .i64 31)
 have v2 := Zv KS5.out 2 (.int .i64 184549376)
 have v3 := Zv KS5.out 3 (.int .i64 32)
 have v4 := Zv KS5.out 4 (.int .i64 1000)
 have v5 := Zv KS5.out 5 (.int .i64 1099)
 have v6 := Zv KS5.out 6 (.int .i64 20)
 have v7 := Zv KS5.out 7 (.int .i64 10)
 have v8 := Zv KS5.out 8 (.int .i64 1)
 have v9 := Zv KS5.out 9 (.int .i64 9)
 have v10 := Zv KS5.out 10 (.int .i64 5)
 have v11 := Zv KS5.out 11 (.bool false)
 have v12 := Zv KS5.out 12 (.int .i64 0)
 have v13 := Zv KS5.out 13 (.slice none 0 0)
 have v14 := Zv KS5.out 14 (.slice none 0 0)
 have v15 := Zv KS5.out 15 (.slice none 0 0)
 have hn1 : 0 = xnp := HGx10.out.i.p.1
 have hn2 : 0 = xnl := HGx10.out.i.l.1
 have hn3 : 0 = xnh := HGx10.out.i.h.1
 subst hn1 hn2 hn3
 go_wp2_with (refine Zw HZK11.out HPZ11.out ?_)
 refine (zea (⟨⟨167772160, 31, 184549376, 32, 1000, 1099, 20, 10⟩, ⟨1, 9, 5, false⟩, 0, [], [], []⟩ : Y.St) (⟨⟨167772160, 31, 184549376, 32, 1000, 1099, 20, 10⟩, ⟨1, 9, 5, false⟩, 0, [], [], []⟩ : Y.St) ⟨xap, 0, xcp, xal, 0, xcl, xah, 0, xch⟩ Y.a0 w11 HGx10.out.i ⟨QIn.nil _, RIn.nil _, RIn.nil _⟩ ⟨Nat.zero_le _, Nat.zero_le _, Nat.zero_le _⟩ true (decide_eq_true rfl)).mono ?_
 rintro e w12 ⟨rfl, hb⟩
 replace HD1 := Zh (HD1.out.below hb)
 replace KW5 := Zk KW5 hb
 replace KS5 := Zk KS5 hb
 replace KE6 := Zk KE6 hb
 replace HX7 := Zh (HX7.out.below hb)
 replace KX8 := Zk KX8 hb
 replace KF9 := Zk KF9 hb
 replace HR9 := Zh (HR9.out.below hb)
 replace HGx10 := Zh (HGx10.out.below hb)
 replace KT11 := Zk KT11 hb
 replace HB0 := Zt HB0 hb
 clear hb
 clear f0 f1 f2 u0 v0 u1 v1 u2 v2 u3 v3 u4 v4 u5 v5 u6 v6 u7 v7 u8 v8 u9 v9 u10 v10 u11 v11 u12 v12 u13 v13 u14 v14 u15 v15
 obtain ⟨y0, y1, y2, y3⟩ := G.pk KX8.out
 go_wp2_with fail
 refine (G.may_any 2000 a2 1 c2 1 0 [z] true w12 HX7.out (by have h1 : FP.files [z] = G.w1.1.2 := HFG.out; rw [h1]; exact decide_eq_true G.mayw1)).mono ?_
 rintro e w13 ⟨rfl, hb⟩
 replace HD1 := Zh (HD1.out.below hb)
 replace KW5 := Zk KW5 hb
 replace KS5 := Zk KS5 hb
 replace KE6 := Zk KE6 hb
 replace HX7 := Zh (HX7.out.below hb)
 replace KX8 := Zk KX8 hb
 replace KF9 := Zk KF9 hb
 replace HR9 := Zh (HR9.out.below hb)
 replace HGx10 := Zh (HGx10.out.below hb)
 replace KT11 := Zk KT11 hb
 replace HB0 := Zt HB0 hb
 clear hb
 clear y0 y1 y2 y3
 obtain ⟨y0, y1, y2, y3⟩ := G.pk KX8.out
 obtain ⟨b3, off3, no3, ga, gn, gc, B3, s3, rfl, hlt3, hx3, q0, q1, q2, hok3⟩ := HX7.out.2.1.at (i := 0) Nat.zero_lt_one
 obtain rfl : z = ⟨no3, ga, gn, gc, B3, s3⟩ := by simpa using hx3
 have hfile : ((no3, B3, s3) : D.F) = (1, G.recS G.s0 ++ G.be, ((G.recS G.s0 ++ G.be).length : Int)) := by have h1 : FP.files [⟨no3, ga, gn, gc, B3, s3⟩] = G.w1.1.2 := HFG.out; simpa [FP.files, FP.file, G.w1] using h1
 simp only [Prod.mk.injEq] at hfile
 have hgt : fn < gn := by
  have h1 : B3.length = gn := hok3.1
  have h2 : B.length = fn := HOK.out.1
  rw [<- h1, <- h2, hfile.2.1, HBQ.out, List.length_append]
  have := G.lene
  omega
 clear hx3 hok3 hfile q0 q2
 simp only [Nat.zero_mul, Nat.add_zero] at q1
 have d2 : decide ((gn : Int) > (fn : Int)) = true := by simp; omega
 have d3 : decide ((fn : Int) < (gn : Int)) = true := by simp; omega
 go_wp2_with fail
 refine (G.same_any 2000 (some ⟨b3, off3, none⟩) 1 c2 1 0 _ 2000 (some ⟨b3, off3, none⟩) 1 c2 1 0 _ true w13 HX7.out HX7.out (decide_eq_true rfl)).mono ?_
 rintro e w14 ⟨rfl, hb⟩
 replace HD1 := Zh (HD1.out.below hb)
 replace KW5 := Zk KW5 hb
 replace KS5 := Zk KS5 hb
 replace KE6 := Zk KE6 hb
 replace HX7 := Zh (HX7.out.below hb)
 replace KX8 := Zk KX8 hb
 replace KF9 := Zk KF9 hb
 replace HR9 := Zh (HR9.out.below hb)
 replace HGx10 := Zh (HGx10.out.below hb)
 replace KT11 := Zk KT11 hb
 replace HB0 := Zt HB0 hb
 clear hb
 go_wp2
 go_ret
 exact ⟨rfl, HB0.out⟩
end Go.Proofs.YtnbkkjcmblfhpaaGreat
