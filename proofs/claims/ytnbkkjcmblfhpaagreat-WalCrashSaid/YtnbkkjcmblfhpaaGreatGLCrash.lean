import Derived.Test.YtnbkkjcmblfhpaaGreatGAwake
import Derived.Test.YtnbkkjcmblfhpaaGreatP32
import Derived.Test.YtnbkkjcmblfhpaaGreatP33
namespace Go.Proofs.YtnbkkjcmblfhpaaGreat
set_option maxHeartbeats 1000000
set_option maxRecDepth 100000
open Go.RowKit
theorem zu1 (k : Int) (a : Option Addr) (n c : Nat) (ap : Option Addr) (np cp : Nat) (xs : List FP) (ps : List Int) (w : World) (hd : zf0 w a n c xs) (hs : D.small (FP.files xs)) (hu : G.sure (k, FP.files xs)) (hpl : ps.length = np) (hpr : zfv .i64 w ap cp ps) (hp9 : np <= 1000) :
  Calls Tryz.prog 34 #[.agg #[.int .i64 k, .slice a n c], .slice ap np cp] w fun e w' => ∃ (b : Option Addr) (m d : Nat) (ys : List FP), e = .returned (.agg #[.int .i64 k, .slice b m d]) /\ Hid (zf0 w' b m d ys) /\ Hid (FP.files ys = FP.files xs) /\ Below w.heap.size w w' := by
 refine (zx1 k a n c ap np cp xs ps w hd hs hpl hpr hp9).mono ?_
 rw [G.crash_sure ps hu]
 rintro e w' ⟨b, m, d, ys, he, h1, h2, _, hb⟩
 exact ⟨b, m, d, ys, he, h1, h2, hb⟩
theorem WalCrash_in (s : Y.St) (ap : Option Addr) (np cp : Nat) (al : Option Addr) (nl cl : Nat) (ah : Option Addr) (nh ch : Nat) (ae : Option Addr) (me ce : Nat) (l : List Y.Ev) (ap0 : Option Addr) (mp cp0 : Nat) (ps : List Int) (w : World) (hv : VIn w ae me ce l) (hpl : ps.length = mp) (hpr : zfv .i64 w ap0 cp0 ps) (h : Y.SIn w ⟨ap, np, cp, al, nl, cl, ah, nh, ch⟩ s) (sm : O.Sm s.ps) (hb : s.d.b <= 9223372036854775807) (hc : s.d.c <= 9223372036854775807) :
  Calls Tryz.prog 9 #[.agg #[.int .i64 s.d.b, .int .i64 s.d.k, .int .i64 s.d.c, .int .i64 s.d.j, .int .i64 s.d.lo, .int .i64 s.d.hi, .int .i64 s.d.dy, .int .i64 s.d.bl, .int .i64 s.p.q, .int .i64 s.p.i, .int .i64 s.p.h, .bool s.p.pair, .int .i64 s.now, .slice ap np cp, .slice al nl cl, .slice ah nh ch], .slice ae me ce, .slice ap0 mp cp0] w fun e w' => e = .returned (.bool true) /\ Below w.heap.size w w' := by
 have HB0 := Zh (Below.refl w.heap.size w)
 have HI0 := Zh (h)
 have HSM := Zh sm
 have HV0 := Zh (hv)
 have HP0 := Zh (hpr)
 have HPL := Zh hpl
 clear h sm hv hpr hpl
 obtain ⟨w1, hw1, hb, hk⟩ := Zn w 37 #[.int .i64 s.d.b, .int .i64 s.d.k, .int .i64 s.d.c, .int .i64 s.d.j, .int .i64 s.d.lo, .int .i64 s.d.hi, .int .i64 s.d.dy, .int .i64 s.d.bl, .int .i64 s.p.q, .int .i64 s.p.i, .int .i64 s.p.h, .bool s.p.pair, .int .i64 s.now, .slice ap np cp, .slice al nl cl, .slice ah nh ch]
 replace HI0 := Zh (HI0.out.below hb)
 replace HV0 := Zh (HV0.out.below hb)
 replace HP0 := Zh (HP0.out.below hb)
 replace HB0 := Zt HB0 hb
 have KS1 := Zh hk
 clear hb hk
 obtain ⟨fw, hfw⟩ : ∃ b, (decide (nl <= 40) && decide (nh <= 40) && decide (np <= 6)) = b := ⟨_, rfl⟩
 have HFW := Zh hfw
 clear hfw
 go_enter Tryz.func9, Tryz.ntmps9
 go_wp2_with fail
 try rw [hw1]
 refine (G.awake_any w1).mono ?_
 rintro e w2 ⟨rfl, hb⟩
 replace HI0 := Zh (HI0.out.below hb)
 replace HV0 := Zh (HV0.out.below hb)
 replace HP0 := Zh (HP0.out.below hb)
 replace KS1 := Zk KS1 hb
 replace HB0 := Zt HB0 hb
 clear hb
 clear hw1
 go_wp2_with (first | (refine zak KS1.out rfl rfl (by kernel_rfl) Tryz.underlying37 rfl (by kernel_rfl) ?_))
 refine (zcx s ap np cp al nl cl ah nh ch fw HFW.out w2).mono ?_
 rintro e w3 ⟨rfl, hb⟩
 replace HI0 := Zh (HI0.out.below hb)
 replace HV0 := Zh (HV0.out.below hb)
 replace HP0 := Zh (HP0.out.below hb)
 replace KS1 := Zk KS1 hb
 replace HB0 := Zt HB0 hb
 clear hb
 cases fw with
 | false =>
  go_wp2_with (first | (refine zak KS1.out rfl rfl (by kernel_rfl) Tryz.underlying37 rfl (by kernel_rfl) ?_))
  go_ret
  exact ⟨rfl, HB0.out⟩
 | true =>
  have hfe := HFW.out
  simp only [Bool.and_eq_true, decide_eq_true_eq] at hfe
  obtain ⟨⟨hnl, hnh⟩, hnp⟩ := hfe
  have HFT : Hid (Y.Fits ⟨ap, np, cp, al, nl, cl, ah, nh, ch⟩ s) := Zh ⟨by show np <= 600; omega, by show nl <= 600; omega, by show nh <= 600; omega, HSM.out, hb, hc⟩
  by_cases k0 : me <= 40
  rotate_left
  ·have d0 : decide ((me : Int) > 40) = true := by simp; omega
   have d0' : decide ((40 : Int) < me) = true := by simp; omega
   go_wp2_with (first | (refine zak KS1.out rfl rfl (by kernel_rfl) Tryz.underlying37 rfl (by kernel_rfl) ?_))
   go_ret
   exact ⟨rfl, HB0.out⟩
  have d0 : decide ((me : Int) > 40) = false := by simp; omega
  have d0' : decide ((40 : Int) < me) = false := by simp; omega
  by_cases k1 : mp <= 60
  rotate_left
  ·have d1 : decide ((mp : Int) > 60) = true := by simp; omega
   have d1' : decide ((60 : Int) < mp) = true := by simp; omega
   go_wp2_with (first | (refine zak KS1.out rfl rfl (by kernel_rfl) Tryz.underlying37 rfl (by kernel_rfl) ?_))
   go_ret
   exact ⟨rfl, HB0.out⟩
  have d1 : decide ((mp : Int) > 60) = false := by simp; omega
  have d1' : decide ((60 : Int) < mp) = false := by simp; omega
  go_wp2_with (first | (refine zak KS1.out rfl rfl (by kernel_rfl) Tryz.underlying37 rfl (by kernel_rfl) ?_))
  refine (zws 60000 true w3 (decide_eq_true (G.may0 60000 (by decide)))).mono ?_
  rintro e w4 ⟨rfl, hb⟩
  replace HI0 := Zh (HI0.out.below hb)
  replace HV0 := Zh (HV0.out.below hb)
  replace HP0 := Zh (HP0.out.below hb)
  replace KS1 := Zk KS1 hb
  replace HB0 := Zt HB0 hb
  clear hb
  obtain ⟨w5, hw5, hb, hk⟩ := Zn w4 24 #[.int .i64 60000, .slice none 0 0]
  replace HI0 := Zh (HI0.out.below hb)
  replace HV0 := Zh (HV0.out.below hb)
  replace HP0 := Zh (HP0.out.below hb)
  replace KS1 := Zk KS1 hb
  replace HB0 := Zt HB0 hb
  have KD5 := Zh hk
  clear hb hk
  obtain ⟨wz5, hz5⟩ : ∃ W, w4.alloc (.cells #[.int .i64 0, .slice none 0 0] 24) = W := ⟨_, rfl⟩
  have HZK5 : Hid (Blok wz5 w4.heap.size 24 #[.int .i64 0, .slice none 0 0]) := Zh (by rw [<- hz5]; exact Blok.new w4 _ _)
  have HPZ5 : Hid (wz5.setRow w4.heap.size #[.int .i64 60000, .slice none 0 0] = w5) := Zh (by rw [<- hz5, World.setRow_alloc_new, hw5])
  clear hw5
  have hp := G.new_any 60000 none 0 0 [] s ap np cp al nl cl ah nh ch w5 (zf0.empty _) zv3 HI0.out HFT.out
  cases hpu : J.put s with
  | none =>
   have hnw : G.new (60000, FP.files []) s = (G.zw, 1) := G.zm4 (by rw [hpu]; rfl)
   rw [hnw] at hp
   clear hnw hpu
   go_wp2_with (first | (refine Zw HZK5.out HPZ5.out ?_) | (refine zak KS1.out rfl rfl (by kernel_rfl) Tryz.underlying37 rfl (by kernel_rfl) ?_) | (refine zak KD5.out rfl rfl (by kernel_rfl) Tryz.underlying24 rfl (by kernel_rfl) ?_))
   refine (hp).mono ?_
   rintro e w6 ⟨a2, n2, c2, y2, rfl, HDq, HF2, HX2, hb⟩
   replace HI0 := Zh (HI0.out.below hb)
   replace HV0 := Zh (HV0.out.below hb)
   replace HP0 := Zh (HP0.out.below hb)
   replace KS1 := Zk KS1 hb
   replace KD5 := Zk KD5 hb
   replace HB0 := Zt HB0 hb
   clear hb
   have HD26 := HDq
   clear HDq
   obtain ⟨w7, hw7, hb, hk⟩ := Zn w6 26 #[.int .i64 0, .slice a2 n2 c2, .int .i64 0, .int .i64 0]
   replace HI0 := Zh (HI0.out.below hb)
   replace HV0 := Zh (HV0.out.below hb)
   replace HP0 := Zh (HP0.out.below hb)
   replace KS1 := Zk KS1 hb
   replace KD5 := Zk KD5 hb
   have HD27 := Zh (HD26.out.below hb)
   replace HB0 := Zt HB0 hb
   have KX7 := Zh hk
   clear hb hk HD26
   obtain ⟨wz7, hz7⟩ : ∃ W, w6.alloc (.cells #[.int .i64 0, .slice none 0 0, .int .i64 0, .int .i64 0] 26) = W := ⟨_, rfl⟩
   have HZK7 : Hid (Blok wz7 w6.heap.size 26 #[.int .i64 0, .slice none 0 0, .int .i64 0, .int .i64 0]) := Zh (by rw [<- hz7]; exact Blok.new w6 _ _)
   have HPZ7 : Hid (wz7.setRow w6.heap.size #[.int .i64 0, .slice a2 n2 c2, .int .i64 0, .int .i64 0] = w7) := Zh (by rw [<- hz7, World.setRow_alloc_new, hw7])
   clear hw7
   obtain ⟨KXc0, KXc1, KXc2, KXc3⟩ := G.pk KX7.out
   go_wp2_with (first | (refine Zw HZK7.out HPZ7.out ?_) | (refine zak KS1.out rfl rfl (by kernel_rfl) Tryz.underlying37 rfl (by kernel_rfl) ?_) | (refine zak KD5.out rfl rfl (by kernel_rfl) Tryz.underlying24 rfl (by kernel_rfl) ?_))
   go_ret
   exact ⟨rfl, HB0.out⟩
  | some b =>
   have HN0 : Hid (G.new (60000, []) s = (((60000, [(1, G.recS s, ((G.recS s).length : Int))]), 1, s.now), 0)) := Zh (G.new0 s (by decide) hpu)
   have hnw : G.new (60000, FP.files []) s = (((60000, [(1, G.recS s, ((G.recS s).length : Int))]), 1, s.now), 0) := HN0.out
   rw [hnw] at hp
   clear hnw hpu
   go_wp2_with (first | (refine Zw HZK5.out HPZ5.out ?_) | (refine zak KS1.out rfl rfl (by kernel_rfl) Tryz.underlying37 rfl (by kernel_rfl) ?_) | (refine zak KD5.out rfl rfl (by kernel_rfl) Tryz.underlying24 rfl (by kernel_rfl) ?_))
   refine (hp).mono ?_
   rintro e w6 ⟨a2, n2, c2, y2, rfl, HDq, HF2, HX2, hb⟩
   replace HI0 := Zh (HI0.out.below hb)
   replace HV0 := Zh (HV0.out.below hb)
   replace HP0 := Zh (HP0.out.below hb)
   replace KS1 := Zk KS1 hb
   replace KD5 := Zk KD5 hb
   replace HB0 := Zt HB0 hb
   clear hb
   have HD26 := HDq
   clear HDq
   obtain ⟨w7, hw7, hb, hk⟩ := Zn w6 26 #[.int .i64 60000, .slice a2 n2 c2, .int .i64 1, .int .i64 s.now]
   replace HI0 := Zh (HI0.out.below hb)
   replace HV0 := Zh (HV0.out.below hb)
   replace HP0 := Zh (HP0.out.below hb)
   replace KS1 := Zk KS1 hb
   replace KD5 := Zk KD5 hb
   have HD27 := Zh (HD26.out.below hb)
   replace HB0 := Zt HB0 hb
   have KX7 := Zh hk
   clear hb hk HD26
   obtain ⟨wz7, hz7⟩ : ∃ W, w6.alloc (.cells #[.int .i64 0, .slice none 0 0, .int .i64 0, .int .i64 0] 26) = W := ⟨_, rfl⟩
   have HZK7 : Hid (Blok wz7 w6.heap.size 26 #[.int .i64 0, .slice none 0 0, .int .i64 0, .int .i64 0]) := Zh (by rw [<- hz7]; exact Blok.new w6 _ _)
   have HPZ7 : Hid (wz7.setRow w6.heap.size #[.int .i64 60000, .slice a2 n2 c2, .int .i64 1, .int .i64 s.now] = w7) := Zh (by rw [<- hz7, World.setRow_alloc_new, hw7])
   clear hw7
   clear hp
   have HM2 : Hid (G.may ((60000, FP.files y2), 1, s.now)) := Zh (by have h1 : FP.files y2 = [(1, G.recS s, ((G.recS s).length : Int))] := HF2.out; have h2 := G.new_may (d := (60000, [])) (s := s) (by rw [HN0.out]); rw [HN0.out] at h2; rw [h1]; exact h2)
   have HU2 : Hid (G.sure (60000, FP.files y2)) := Zh (by have h1 : FP.files y2 = [(1, G.recS s, ((G.recS s).length : Int))] := HF2.out; have h2 := G.new_sure (d := (60000, [])) s (fun _ hf => nomatch hf); rw [HN0.out] at h2; rw [h1]; exact h2)
   obtain ⟨⟨⟨⟨ka, fa⟩, na, ta⟩, ea⟩, hsa⟩ : ∃ x, G.add ((60000, FP.files y2), 1, s.now) l = x := ⟨_, rfl⟩
   have HSA := Zh hsa
   have hp := G.add_any 60000 a2 n2 c2 1 s.now y2 ae me ce l w7 HD27.out (D.small_may HM2.out.1) HV0.out (by omega)
   rw [hsa] at hp
   clear hsa
   obtain ⟨KXc0, KXc1, KXc2, KXc3⟩ := G.pk KX7.out
   go_wp2_with (first | (refine Zw HZK7.out HPZ7.out ?_) | (refine zak KS1.out rfl rfl (by kernel_rfl) Tryz.underlying37 rfl (by kernel_rfl) ?_) | (refine zak KD5.out rfl rfl (by kernel_rfl) Tryz.underlying24 rfl (by kernel_rfl) ?_))
   refine (hp).mono ?_
   rintro e w8 ⟨a3, n3, c3, y3, rfl, HDq, HF3, HX3, hb⟩
   replace HI0 := Zh (HI0.out.below hb)
   replace HV0 := Zh (HV0.out.below hb)
   replace HP0 := Zh (HP0.out.below hb)
   replace KS1 := Zk KS1 hb
   replace KD5 := Zk KD5 hb
   have HD28 := Zh (HD27.out.below hb)
   replace KX7 := Zk KX7 hb
   replace HB0 := Zt HB0 hb
   clear hb HD27
   have HD38 := HDq
   clear KXc0 KXc1 KXc2 KXc3
   clear HDq
   obtain ⟨w9, hw9, hb, hk⟩ := Zn w8 26 #[.int .i64 ka, .slice a3 n3 c3, .int .i64 na, .int .i64 ta]
   replace HI0 := Zh (HI0.out.below hb)
   replace HV0 := Zh (HV0.out.below hb)
   replace HP0 := Zh (HP0.out.below hb)
   replace KS1 := Zk KS1 hb
   replace KD5 := Zk KD5 hb
   have HD29 := Zh (HD28.out.below hb)
   replace KX7 := Zk KX7 hb
   have HD39 := Zh (HD38.out.below hb)
   replace HB0 := Zt HB0 hb
   have KY9 := Zh hk
   clear hb hk HD28 HD38
   obtain ⟨wz9, hz9⟩ : ∃ W, w8.alloc (.cells #[.int .i64 0, .slice none 0 0, .int .i64 0, .int .i64 0] 26) = W := ⟨_, rfl⟩
   have HZK9 : Hid (Blok wz9 w8.heap.size 26 #[.int .i64 0, .slice none 0 0, .int .i64 0, .int .i64 0]) := Zh (by rw [<- hz9]; exact Blok.new w8 _ _)
   have HPZ9 : Hid (wz9.setRow w8.heap.size #[.int .i64 ka, .slice a3 n3 c3, .int .i64 na, .int .i64 ta] = w9) := Zh (by rw [<- hz9, World.setRow_alloc_new, hw9])
   clear hw9
   clear hp
   have HM3 : Hid (G.may ((ka, FP.files y3), na, ta)) := Zh (by have h1 : FP.files y3 = fa := HF3.out; have h2 := G.add_may l HM2.out; rw [HSA.out] at h2; rw [h1]; exact h2)
   have HU3 : Hid (G.sure (ka, FP.files y3)) := Zh (by have h1 : FP.files y3 = fa := HF3.out; have h2 := G.add_sure (w := ((60000, FP.files y2), 1, s.now)) l HM2.out HU2.out; rw [HSA.out] at h2; rw [h1]; exact h2)
   obtain ⟨⟨⟨⟨kt, ft⟩, nt, tt⟩, et⟩, hst⟩ : ∃ x, G.turn ((ka, FP.files y3), na, ta) s = x := ⟨_, rfl⟩
   have HST := Zh hst
   have hp := G.turn_any ka a3 n3 c3 na ta y3 s ap np cp al nl cl ah nh ch w9 HD39.out (D.small_may HM3.out.1) HI0.out HFT.out
   rw [hst] at hp
   clear hst
   obtain ⟨KXc0, KXc1, KXc2, KXc3⟩ := G.pk KX7.out
   obtain ⟨KYc0, KYc1, KYc2, KYc3⟩ := G.pk KY9.out
   go_wp2_with (first | (refine Zw HZK9.out HPZ9.out ?_) | (refine zak KS1.out rfl rfl (by kernel_rfl) Tryz.underlying37 rfl (by kernel_rfl) ?_) | (refine zak KD5.out rfl rfl (by kernel_rfl) Tryz.underlying24 rfl (by kernel_rfl) ?_))
   refine (hp).mono ?_
   rintro e w10 ⟨a4, n4, c4, y4, rfl, HDq, HF4, HX4, hb⟩
   replace HI0 := Zh (HI0.out.below hb)
   replace HV0 := Zh (HV0.out.below hb)
   replace HP0 := Zh (HP0.out.below hb)
   replace KS1 := Zk KS1 hb
   replace KD5 := Zk KD5 hb
   have HD210 := Zh (HD29.out.below hb)
   replace KX7 := Zk KX7 hb
   have HD310 := Zh (HD39.out.below hb)
   replace KY9 := Zk KY9 hb
   replace HB0 := Zt HB0 hb
   clear hb HD29 HD39
   have HD410 := HDq
   clear KXc0 KXc1 KXc2 KXc3 KYc0 KYc1 KYc2 KYc3
   clear HDq
   obtain ⟨w11, hw11, hb, hk⟩ := Zn w10 26 #[.int .i64 kt, .slice a4 n4 c4, .int .i64 nt, .int .i64 tt]
   replace HI0 := Zh (HI0.out.below hb)
   replace HV0 := Zh (HV0.out.below hb)
   replace HP0 := Zh (HP0.out.below hb)
   replace KS1 := Zk KS1 hb
   replace KD5 := Zk KD5 hb
   have HD211 := Zh (HD210.out.below hb)
   replace KX7 := Zk KX7 hb
   have HD311 := Zh (HD310.out.below hb)
   replace KY9 := Zk KY9 hb
   have HD411 := Zh (HD410.out.below hb)
   replace HB0 := Zt HB0 hb
   have KZ11 := Zh hk
   clear hb hk HD210 HD310 HD410
   obtain ⟨wz11, hz11⟩ : ∃ W, w10.alloc (.cells #[.int .i64 0, .slice none 0 0, .int .i64 0, .int .i64 0] 26) = W := ⟨_, rfl⟩
   have HZK11 : Hid (Blok wz11 w10.heap.size 26 #[.int .i64 0, .slice none 0 0, .int .i64 0, .int .i64 0]) := Zh (by rw [<- hz11]; exact Blok.new w10 _ _)
   have HPZ11 : Hid (wz11.setRow w10.heap.size #[.int .i64 kt, .slice a4 n4 c4, .int .i64 nt, .int .i64 tt] = w11) := Zh (by rw [<- hz11, World.setRow_alloc_new, hw11])
   clear hw11
   clear hp
   have HM4 : Hid (G.may ((kt, FP.files y4), nt, tt)) := Zh (by have h1 : FP.files y4 = ft := HF4.out; have h2 := G.turn_may s HM3.out; rw [HST.out] at h2; rw [h1]; exact h2)
   have HU4 : Hid (G.sure (kt, FP.files y4)) := Zh (by have h1 : FP.files y4 = ft := HF4.out; have h2 := G.turn_sure (w := ((ka, FP.files y3), na, ta)) s HU3.out; rw [HST.out] at h2; rw [h1]; exact h2)
   go_wp2_with (refine Zw HZK11.out HPZ11.out ?_)
   refine Zd (fun w' => Below w11.heap.size w11 w') (zaa w11) fun RS0 => ?_
   refine Zq 0 w6.heap.size 0 RS0 ?_
   refine Zl 1 (.agg #[.int .i64 60000, .slice a2 n2 c2]) rfl (fun w9 hS => by
      have q := KX7.out.below hS KX7.out.lt
      have z0 := Zv q 0 (.int .i64 60000)
      have z1 := Zv q 1 (.slice a2 n2 c2)
      go_simp) RS0 ?_
   refine tk 2 (.slice ap0 mp cp0) RS0 ?_
   refine Zq 4 w6.heap.size 0 RS0 ?_
   refine Zl 5 (.agg #[.int .i64 60000, .slice a2 n2 c2]) rfl (fun w9 hS => by
      have q := KX7.out.below hS KX7.out.lt
      have z0 := Zv q 0 (.int .i64 60000)
      have z1 := Zv q 1 (.slice a2 n2 c2)
      go_simp) RS0 ?_
   refine Zc 3 34 #[.agg #[.int .i64 60000, .slice a2 n2 c2], .slice ap0 mp cp0] (zu1 60000 a2 n2 c2 ap0 mp cp0 y2 ps _ (HD211.out.below RS0) (D.small_may HM2.out.1) HU2.out HPL.out (HP0.out.below RS0) (by omega)) ?_
   rintro e wc2 ⟨b2, m2, d2, z2, rfl, hD2, hE2, hb⟩
   refine Zu (Zr RS0 hb) fun RS1 => ?_
   clear hb
   refine Zc 6 33 #[.agg #[.int .i64 60000, .slice b2 m2 d2], .agg #[.int .i64 60000, .slice a2 n2 c2]] (zuz 60000 b2 m2 d2 z2 60000 a2 n2 c2 y2 true _ hD2.out (HD211.out.below RS1) (decide_eq_true (by have h1 : FP.files z2 = FP.files y2 := hE2.out; rw [h1]))) ?_
   rintro e wd2 ⟨rfl, hb⟩
   refine Zu (Zr RS1 hb) fun RS2 => ?_
   clear hb
   refine tk 7 (.bool true) RS2 ?_
   refine Zq 8 w8.heap.size 0 RS2 ?_
   refine Zl 9 (.agg #[.int .i64 ka, .slice a3 n3 c3]) rfl (fun w9 hS => by
      have q := KY9.out.below hS KY9.out.lt
      have z0 := Zv q 0 (.int .i64 ka)
      have z1 := Zv q 1 (.slice a3 n3 c3)
      go_simp) RS2 ?_
   refine tk 10 (.slice ap0 mp cp0) RS2 ?_
   refine Zq 12 w8.heap.size 0 RS2 ?_
   refine Zl 13 (.agg #[.int .i64 ka, .slice a3 n3 c3]) rfl (fun w9 hS => by
      have q := KY9.out.below hS KY9.out.lt
      have z0 := Zv q 0 (.int .i64 ka)
      have z1 := Zv q 1 (.slice a3 n3 c3)
      go_simp) RS2 ?_
   refine Zc 11 34 #[.agg #[.int .i64 ka, .slice a3 n3 c3], .slice ap0 mp cp0] (zu1 ka a3 n3 c3 ap0 mp cp0 y3 ps _ (HD311.out.below RS2) (D.small_may HM3.out.1) HU3.out HPL.out (HP0.out.below RS2) (by omega)) ?_
   rintro e wc3 ⟨b3, m3, d3, z3, rfl, hD3, hE3, hb⟩
   refine Zu (Zr RS2 hb) fun RS3 => ?_
   clear hb
   refine Zc 14 33 #[.agg #[.int .i64 ka, .slice b3 m3 d3], .agg #[.int .i64 ka, .slice a3 n3 c3]] (zuz ka b3 m3 d3 z3 ka a3 n3 c3 y3 true _ hD3.out (HD311.out.below RS3) (decide_eq_true (by have h1 : FP.files z3 = FP.files y3 := hE3.out; rw [h1]))) ?_
   rintro e wd3 ⟨rfl, hb⟩
   refine Zu (Zr RS3 hb) fun RS4 => ?_
   clear hb
   refine tk 15 (.bool true) RS4 ?_
   refine tk 16 (.bool true) RS4 ?_
   refine Zq 17 w10.heap.size 0 RS4 ?_
   refine Zl 18 (.agg #[.int .i64 kt, .slice a4 n4 c4]) rfl (fun w9 hS => by
      have q := KZ11.out.below hS KZ11.out.lt
      have z0 := Zv q 0 (.int .i64 kt)
      have z1 := Zv q 1 (.slice a4 n4 c4)
      go_simp) RS4 ?_
   refine tk 19 (.slice ap0 mp cp0) RS4 ?_
   refine Zq 21 w10.heap.size 0 RS4 ?_
   refine Zl 22 (.agg #[.int .i64 kt, .slice a4 n4 c4]) rfl (fun w9 hS => by
      have q := KZ11.out.below hS KZ11.out.lt
      have z0 := Zv q 0 (.int .i64 kt)
      have z1 := Zv q 1 (.slice a4 n4 c4)
      go_simp) RS4 ?_
   refine Zc 20 34 #[.agg #[.int .i64 kt, .slice a4 n4 c4], .slice ap0 mp cp0] (zu1 kt a4 n4 c4 ap0 mp cp0 y4 ps _ (HD411.out.below RS4) (D.small_may HM4.out.1) HU4.out HPL.out (HP0.out.below RS4) (by omega)) ?_
   rintro e wc4 ⟨b4, m4, d4, z4, rfl, hD4, hE4, hb⟩
   refine Zu (Zr RS4 hb) fun RS5 => ?_
   clear hb
   refine Zc 23 33 #[.agg #[.int .i64 kt, .slice b4 m4 d4], .agg #[.int .i64 kt, .slice a4 n4 c4]] (zuz kt b4 m4 d4 z4 kt a4 n4 c4 y4 true _ hD4.out (HD411.out.below RS5) (decide_eq_true (by have h1 : FP.files z4 = FP.files y4 := hE4.out; rw [h1]))) ?_
   rintro e wd4 ⟨rfl, hb⟩
   refine Zu (Zr RS5 hb) fun RS6 => ?_
   clear hb
   refine tk 24 (.bool true) RS6 ?_
   refine tk 25 (.bool true) RS6 ?_
   refine wpAnyH_done (by kernel_rfl) ?_ _
   have hbz := HB0.out.trans (Below.mono RS6 HB0.out.size)
   go_wp2
   go_ret
   exact ⟨by kernel_rfl, hbz⟩
end Go.Proofs.YtnbkkjcmblfhpaaGreat
