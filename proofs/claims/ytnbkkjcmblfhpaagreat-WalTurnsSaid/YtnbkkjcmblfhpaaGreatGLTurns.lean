import Derived.Test.YtnbkkjcmblfhpaaGreatGAwake
import Derived.Test.YtnbkkjcmblfhpaaGreatP31
namespace Go.Proofs.YtnbkkjcmblfhpaaGreat
set_option maxHeartbeats 1000000
set_option maxRecDepth 100000
open Go.RowKit
theorem WalTurns_in (k : Int) (a : Option Addr) (n c : Nat) (wn wt : Int) (xs : List FP) (s : Y.St) (ap : Option Addr) (np cp : Nat) (al : Option Addr) (nl cl : Nat) (ah : Option Addr) (nh ch : Nat) (w : World) (hd : zf0 w a n c xs) (h : Y.SIn w ⟨ap, np, cp, al, nl, cl, ah, nh, ch⟩ s) (sm : O.Sm s.ps) (hb : s.d.b <= 9223372036854775807) (hc : s.d.c <= 9223372036854775807) :
  Calls Tryz.prog 8 #[.agg #[.int .i64 k, .slice a n c, .int .i64 wn, .int .i64 wt], .agg #[.int .i64 s.d.b, .int .i64 s.d.k, .int .i64 s.d.c, .int .i64 s.d.j, .int .i64 s.d.lo, .int .i64 s.d.hi, .int .i64 s.d.dy, .int .i64 s.d.bl, .int .i64 s.p.q, .int .i64 s.p.i, .int .i64 s.p.h, .bool s.p.pair, .int .i64 s.now, .slice ap np cp, .slice al nl cl, .slice ah nh ch]] w fun e w' => e = .returned (.bool true) /\ Below w.heap.size w w' := by
 have HB0 := Zh (Below.refl w.heap.size w)
 have HD0 := Zh (hd)
 have HI0 := Zh (h)
 have HSM := Zh sm
 clear hd h sm
 obtain ⟨w1, hw1, hb, hk⟩ := Zn w 26 #[.int .i64 k, .slice a n c, .int .i64 wn, .int .i64 wt]
 have HD1 := Zh (HD0.out.below hb)
 replace HI0 := Zh (HI0.out.below hb)
 replace HB0 := Zt HB0 hb
 have KW1 := Zh hk
 clear hb hk HD0
 obtain ⟨w2, hw2, hb, hk⟩ := Zn w1 37 #[.int .i64 s.d.b, .int .i64 s.d.k, .int .i64 s.d.c, .int .i64 s.d.j, .int .i64 s.d.lo, .int .i64 s.d.hi, .int .i64 s.d.dy, .int .i64 s.d.bl, .int .i64 s.p.q, .int .i64 s.p.i, .int .i64 s.p.h, .bool s.p.pair, .int .i64 s.now, .slice ap np cp, .slice al nl cl, .slice ah nh ch]
 have HD2 := Zh (HD1.out.below hb)
 replace HI0 := Zh (HI0.out.below hb)
 replace KW1 := Zk KW1 hb
 replace HB0 := Zt HB0 hb
 have KS2 := Zh hk
 clear hb hk HD1
 obtain ⟨fv, hfv⟩ : ∃ b, decide (D.few (FP.files xs)) = b := ⟨_, rfl⟩
 have HFV := Zh hfv
 clear hfv
 obtain ⟨fw, hfw⟩ : ∃ b, (decide (nl <= 40) && decide (nh <= 40) && decide (np <= 6)) = b := ⟨_, rfl⟩
 have HFW := Zh hfw
 clear hfw
 go_enter Tryz.func8, Tryz.ntmps8
 go_wp2_with fail
 try rw [hw1]
 try rw [hw2]
 refine (G.awake_any w2).mono ?_
 rintro e w3 ⟨rfl, hb⟩
 have HD3 := Zh (HD2.out.below hb)
 replace HI0 := Zh (HI0.out.below hb)
 replace KW1 := Zk KW1 hb
 replace KS2 := Zk KS2 hb
 replace HB0 := Zt HB0 hb
 clear hb HD2
 clear hw1 hw2
 obtain ⟨KWc0, KWc1, KWc2, KWc3⟩ := G.pk KW1.out
 go_wp2_with (first | (refine zak KS2.out rfl rfl (by kernel_rfl) Tryz.underlying37 rfl (by kernel_rfl) ?_))
 refine (G.few_any k a n c wn wt xs fv w3 HD3.out HFV.out).mono ?_
 rintro e w4 ⟨rfl, hb⟩
 have HD4 := Zh (HD3.out.below hb)
 replace HI0 := Zh (HI0.out.below hb)
 replace KW1 := Zk KW1 hb
 replace KS2 := Zk KS2 hb
 replace HB0 := Zt HB0 hb
 clear hb HD3
 clear KWc0 KWc1 KWc2 KWc3
 obtain ⟨KWc0, KWc1, KWc2, KWc3⟩ := G.pk KW1.out
 go_wp2_with (first | (refine zak KS2.out rfl rfl (by kernel_rfl) Tryz.underlying37 rfl (by kernel_rfl) ?_))
 refine (zcx s ap np cp al nl cl ah nh ch fw HFW.out w4).mono ?_
 rintro e w5 ⟨rfl, hb⟩
 have HD5 := Zh (HD4.out.below hb)
 replace HI0 := Zh (HI0.out.below hb)
 replace KW1 := Zk KW1 hb
 replace KS2 := Zk KS2 hb
 replace HB0 := Zt HB0 hb
 clear hb HD4
 clear KWc0 KWc1 KWc2 KWc3
 cases fv with
 | false =>
  obtain ⟨KWc0, KWc1, KWc2, KWc3⟩ := G.pk KW1.out
  go_wp2_with (first | (refine zak KS2.out rfl rfl (by kernel_rfl) Tryz.underlying37 rfl (by kernel_rfl) ?_))
  go_ret
  exact ⟨rfl, HB0.out⟩
 | true =>
  have HSML := Zh (D.few.small (of_decide_eq_true HFV.out))
  cases fw with
  | false =>
   obtain ⟨KWc0, KWc1, KWc2, KWc3⟩ := G.pk KW1.out
   go_wp2_with (first | (refine zak KS2.out rfl rfl (by kernel_rfl) Tryz.underlying37 rfl (by kernel_rfl) ?_))
   go_ret
   exact ⟨rfl, HB0.out⟩
  | true =>
   have hfe := HFW.out
   simp only [Bool.and_eq_true, decide_eq_true_eq] at hfe
   obtain ⟨⟨hnl, hnh⟩, hnp⟩ := hfe
   have HFT : Hid (Y.Fits ⟨ap, np, cp, al, nl, cl, ah, nh, ch⟩ s) := Zh ⟨by show np <= 600; omega, by show nl <= 600; omega, by show nh <= 600; omega, HSM.out, hb, hc⟩
   obtain ⟨mv, hmv⟩ : ∃ b, decide (G.may ((k, FP.files xs), wn, wt)) = b := ⟨_, rfl⟩
   have HMV := Zh hmv
   clear hmv
   obtain ⟨KWc0, KWc1, KWc2, KWc3⟩ := G.pk KW1.out
   go_wp2_with (first | (refine zak KS2.out rfl rfl (by kernel_rfl) Tryz.underlying37 rfl (by kernel_rfl) ?_))
   refine (G.may_any k a n c wn wt xs mv w5 HD5.out HMV.out).mono ?_
   rintro e w6 ⟨rfl, hb⟩
   have HD6 := Zh (HD5.out.below hb)
   replace HI0 := Zh (HI0.out.below hb)
   replace KW1 := Zk KW1 hb
   replace KS2 := Zk KS2 hb
   replace HB0 := Zt HB0 hb
   clear hb HD5
   clear KWc0 KWc1 KWc2 KWc3
   cases mv with
   | false =>
    obtain ⟨KWc0, KWc1, KWc2, KWc3⟩ := G.pk KW1.out
    go_wp2_with (first | (refine zak KS2.out rfl rfl (by kernel_rfl) Tryz.underlying37 rfl (by kernel_rfl) ?_))
    go_ret
    exact ⟨rfl, HB0.out⟩
   | true =>
    have HM := Zh (of_decide_eq_true HMV.out)
    cases n with
    | zero =>
     exact absurd (by rw [List.eq_nil_of_length_eq_zero HD6.out.1]; rfl) HM.out.2.1
    | succ m =>
     obtain ⟨b, off, no, a', n', c', B, q, rfl, hlt, hx, p0, p1, p2, hok⟩ := HD6.out.2.1.at (i := m) (by rw [HD6.out.1]; omega)
     have HL : Hid (G.long (k, FP.files xs) = (n' : Int)) := Zh (by rw [G.long_at HD6.out.1 hx]; exact congrArg Int.ofNat hok.1)
     clear hx hok p0 p2
     have hml : maxLen <= 9223372036854775807 := by decide
     have hcap := HD6.out.caps
     have e1 : (m : Int) + 1 - 1 = (m : Int) := by omega
     have e0 : ((m : Int) + 1 == 0) = false := by simp; omega
     have j0 : (0 : Int) <= m := by omega
     have j1 : (m : Int) < (m : Int) + 1 := by omega
     obtain ⟨⟨⟨⟨k3, f3⟩, wn3, wt3⟩, er⟩, hst⟩ : ∃ x, G.new (k, FP.files xs) s = x := ⟨_, rfl⟩
     have HST := Zh hst
     clear hst
     by_cases h3 : n' < 300
     ·have HLT : Hid (G.long (k, FP.files xs) < 300) := Zh (by rw [HL.out]; omega)
      have d3 : decide ((n' : Int) ≥ 300) = false := by simp; omega
      have d4 : decide ((300 : Int) <= n') = false := by simp; omega
      have hp := G.turn_any k (some ⟨b, off, none⟩) (m + 1) c wn wt xs s ap np cp al nl cl ah nh ch w6 HD6.out HSML.out HI0.out HFT.out
      rw [G.turn_few s HM.out HLT.out] at hp
      obtain ⟨KWc0, KWc1, KWc2, KWc3⟩ := G.pk KW1.out
      go_wp2_with (first | (refine zak KS2.out rfl rfl (by kernel_rfl) Tryz.underlying37 rfl (by kernel_rfl) ?_))
      refine (hp).mono ?_
      rintro e w7 ⟨a2, n2, c2, y2, rfl, HDq, HF2, HX2, hb⟩
      have HD7 := Zh (HD6.out.below hb)
      replace HI0 := Zh (HI0.out.below hb)
      replace KW1 := Zk KW1 hb
      replace KS2 := Zk KS2 hb
      replace HB0 := Zt HB0 hb
      clear hb HD6
      have HD27 := HDq
      clear KWc0 KWc1 KWc2 KWc3
      clear HDq
      obtain ⟨w8, hw8, hb, hk⟩ := Zn w7 26 #[.int .i64 k, .slice a2 n2 c2, .int .i64 wn, .int .i64 wt]
      have HD8 := Zh (HD7.out.below hb)
      replace HI0 := Zh (HI0.out.below hb)
      replace KW1 := Zk KW1 hb
      replace KS2 := Zk KS2 hb
      have HD28 := Zh (HD27.out.below hb)
      replace HB0 := Zt HB0 hb
      have KV8 := Zh hk
      clear hb hk HD7 HD27
      obtain ⟨wz8, hz8⟩ : ∃ W, w7.alloc (.cells #[.int .i64 0, .slice none 0 0, .int .i64 0, .int .i64 0] 26) = W := ⟨_, rfl⟩
      have HZK8 : Hid (Blok wz8 w7.heap.size 26 #[.int .i64 0, .slice none 0 0, .int .i64 0, .int .i64 0]) := Zh (by rw [<- hz8]; exact Blok.new w7 _ _)
      have HPZ8 : Hid (wz8.setRow w7.heap.size #[.int .i64 k, .slice a2 n2 c2, .int .i64 wn, .int .i64 wt] = w8) := Zh (by rw [<- hz8, World.setRow_alloc_new, hw8])
      clear hw8
      clear hp p1
      have hp := G.new_any k (some ⟨b, off, none⟩) (m + 1) c xs s ap np cp al nl cl ah nh ch w8 HD8.out HSML.out HI0.out HFT.out
      rw [HST.out] at hp
      obtain ⟨KWc0, KWc1, KWc2, KWc3⟩ := G.pk KW1.out
      obtain ⟨KVc0, KVc1, KVc2, KVc3⟩ := G.pk KV8.out
      go_wp2_with (first | (refine Zw HZK8.out HPZ8.out ?_) | (refine zak KS2.out rfl rfl (by kernel_rfl) Tryz.underlying37 rfl (by kernel_rfl) ?_))
      refine (hp).mono ?_
      rintro e w9 ⟨a3, n3, c3, y3, rfl, HDq, HF3, HX3, hb⟩
      have HD9 := Zh (HD8.out.below hb)
      replace HI0 := Zh (HI0.out.below hb)
      replace KW1 := Zk KW1 hb
      replace KS2 := Zk KS2 hb
      have HD29 := Zh (HD28.out.below hb)
      replace KV8 := Zk KV8 hb
      replace HB0 := Zt HB0 hb
      clear hb HD8 HD28
      have HD39 := HDq
      clear KWc0 KWc1 KWc2 KWc3 KVc0 KVc1 KVc2 KVc3
      clear HDq
      obtain ⟨w10, hw10, hb, hk⟩ := Zn w9 26 #[.int .i64 k3, .slice a3 n3 c3, .int .i64 wn3, .int .i64 wt3]
      have HD10 := Zh (HD9.out.below hb)
      replace HI0 := Zh (HI0.out.below hb)
      replace KW1 := Zk KW1 hb
      replace KS2 := Zk KS2 hb
      have HD210 := Zh (HD29.out.below hb)
      replace KV8 := Zk KV8 hb
      have HD310 := Zh (HD39.out.below hb)
      replace HB0 := Zt HB0 hb
      have KN10 := Zh hk
      clear hb hk HD9 HD29 HD39
      obtain ⟨wz10, hz10⟩ : ∃ W, w9.alloc (.cells #[.int .i64 0, .slice none 0 0, .int .i64 0, .int .i64 0] 26) = W := ⟨_, rfl⟩
      have HZK10 : Hid (Blok wz10 w9.heap.size 26 #[.int .i64 0, .slice none 0 0, .int .i64 0, .int .i64 0]) := Zh (by rw [<- hz10]; exact Blok.new w9 _ _)
      have HPZ10 : Hid (wz10.setRow w9.heap.size #[.int .i64 k3, .slice a3 n3 c3, .int .i64 wn3, .int .i64 wt3] = w10) := Zh (by rw [<- hz10, World.setRow_alloc_new, hw10])
      clear hw10
      clear hp
      obtain ⟨KWc0, KWc1, KWc2, KWc3⟩ := G.pk KW1.out
      obtain ⟨KVc0, KVc1, KVc2, KVc3⟩ := G.pk KV8.out
      obtain ⟨KNc0, KNc1, KNc2, KNc3⟩ := G.pk KN10.out
      go_wp2_with (first | (refine Zw HZK10.out HPZ10.out ?_) | (refine zak KS2.out rfl rfl (by kernel_rfl) Tryz.underlying37 rfl (by kernel_rfl) ?_))
      refine (G.same_any k a2 n2 c2 wn wt y2 k (some ⟨b, off, none⟩) (m + 1) c wn wt xs true w10 HD210.out HD10.out (decide_eq_true (by have h1 : FP.files y2 = FP.files xs := HF2.out; rw [h1]))).mono ?_
      rintro e w11 ⟨rfl, hb⟩
      have HD11 := Zh (HD10.out.below hb)
      replace HI0 := Zh (HI0.out.below hb)
      replace KW1 := Zk KW1 hb
      replace KS2 := Zk KS2 hb
      have HD211 := Zh (HD210.out.below hb)
      replace KV8 := Zk KV8 hb
      have HD311 := Zh (HD310.out.below hb)
      replace KN10 := Zk KN10 hb
      replace HB0 := Zt HB0 hb
      clear hb HD10 HD210 HD310
      clear KWc0 KWc1 KWc2 KWc3 KVc0 KVc1 KVc2 KVc3 KNc0 KNc1 KNc2 KNc3
      go_wp2
      go_ret
      exact ⟨rfl, HB0.out⟩
     have HLT : Hid (300 <= G.long (k, FP.files xs)) := Zh (by rw [HL.out]; omega)
     by_cases he : er = 0
     rotate_left
     ·have e2 : (er != 0) = true := by simpa using he
      have e3 : (er == 0) = false := by simpa using he
      have e4 : (er == er) = true := by simp
      have d3 : decide ((n' : Int) ≥ 300) = true := by simp; omega
      have d4 : decide ((300 : Int) <= n') = true := by simp; omega
      have hp := G.turn_any k (some ⟨b, off, none⟩) (m + 1) c wn wt xs s ap np cp al nl cl ah nh ch w6 HD6.out HSML.out HI0.out HFT.out
      rw [G.turn_err HM.out HLT.out HST.out he] at hp
      obtain ⟨KWc0, KWc1, KWc2, KWc3⟩ := G.pk KW1.out
      go_wp2_with (first | (refine zak KS2.out rfl rfl (by kernel_rfl) Tryz.underlying37 rfl (by kernel_rfl) ?_))
      refine (hp).mono ?_
      rintro e w7 ⟨a2, n2, c2, y2, rfl, HDq, HF2, HX2, hb⟩
      have HD7 := Zh (HD6.out.below hb)
      replace HI0 := Zh (HI0.out.below hb)
      replace KW1 := Zk KW1 hb
      replace KS2 := Zk KS2 hb
      replace HB0 := Zt HB0 hb
      clear hb HD6
      have HD27 := HDq
      clear KWc0 KWc1 KWc2 KWc3
      clear HDq
      obtain ⟨w8, hw8, hb, hk⟩ := Zn w7 26 #[.int .i64 k, .slice a2 n2 c2, .int .i64 wn, .int .i64 wt]
      have HD8 := Zh (HD7.out.below hb)
      replace HI0 := Zh (HI0.out.below hb)
      replace KW1 := Zk KW1 hb
      replace KS2 := Zk KS2 hb
      have HD28 := Zh (HD27.out.below hb)
      replace HB0 := Zt HB0 hb
      have KV8 := Zh hk
      clear hb hk HD7 HD27
      obtain ⟨wz8, hz8⟩ : ∃ W, w7.alloc (.cells #[.int .i64 0, .slice none 0 0, .int .i64 0, .int .i64 0] 26) = W := ⟨_, rfl⟩
      have HZK8 : Hid (Blok wz8 w7.heap.size 26 #[.int .i64 0, .slice none 0 0, .int .i64 0, .int .i64 0]) := Zh (by rw [<- hz8]; exact Blok.new w7 _ _)
      have HPZ8 : Hid (wz8.setRow w7.heap.size #[.int .i64 k, .slice a2 n2 c2, .int .i64 wn, .int .i64 wt] = w8) := Zh (by rw [<- hz8, World.setRow_alloc_new, hw8])
      clear hw8
      clear hp p1
      have hp := G.new_any k (some ⟨b, off, none⟩) (m + 1) c xs s ap np cp al nl cl ah nh ch w8 HD8.out HSML.out HI0.out HFT.out
      rw [HST.out] at hp
      obtain ⟨KWc0, KWc1, KWc2, KWc3⟩ := G.pk KW1.out
      obtain ⟨KVc0, KVc1, KVc2, KVc3⟩ := G.pk KV8.out
      go_wp2_with (first | (refine Zw HZK8.out HPZ8.out ?_) | (refine zak KS2.out rfl rfl (by kernel_rfl) Tryz.underlying37 rfl (by kernel_rfl) ?_))
      refine (hp).mono ?_
      rintro e w9 ⟨a3, n3, c3, y3, rfl, HDq, HF3, HX3, hb⟩
      have HD9 := Zh (HD8.out.below hb)
      replace HI0 := Zh (HI0.out.below hb)
      replace KW1 := Zk KW1 hb
      replace KS2 := Zk KS2 hb
      have HD29 := Zh (HD28.out.below hb)
      replace KV8 := Zk KV8 hb
      replace HB0 := Zt HB0 hb
      clear hb HD8 HD28
      have HD39 := HDq
      clear KWc0 KWc1 KWc2 KWc3 KVc0 KVc1 KVc2 KVc3
      clear HDq
      obtain ⟨w10, hw10, hb, hk⟩ := Zn w9 26 #[.int .i64 k3, .slice a3 n3 c3, .int .i64 wn3, .int .i64 wt3]
      have HD10 := Zh (HD9.out.below hb)
      replace HI0 := Zh (HI0.out.below hb)
      replace KW1 := Zk KW1 hb
      replace KS2 := Zk KS2 hb
      have HD210 := Zh (HD29.out.below hb)
      replace KV8 := Zk KV8 hb
      have HD310 := Zh (HD39.out.below hb)
      replace HB0 := Zt HB0 hb
      have KN10 := Zh hk
      clear hb hk HD9 HD29 HD39
      obtain ⟨wz10, hz10⟩ : ∃ W, w9.alloc (.cells #[.int .i64 0, .slice none 0 0, .int .i64 0, .int .i64 0] 26) = W := ⟨_, rfl⟩
      have HZK10 : Hid (Blok wz10 w9.heap.size 26 #[.int .i64 0, .slice none 0 0, .int .i64 0, .int .i64 0]) := Zh (by rw [<- hz10]; exact Blok.new w9 _ _)
      have HPZ10 : Hid (wz10.setRow w9.heap.size #[.int .i64 k3, .slice a3 n3 c3, .int .i64 wn3, .int .i64 wt3] = w10) := Zh (by rw [<- hz10, World.setRow_alloc_new, hw10])
      clear hw10
      clear hp
      obtain ⟨KWc0, KWc1, KWc2, KWc3⟩ := G.pk KW1.out
      obtain ⟨KVc0, KVc1, KVc2, KVc3⟩ := G.pk KV8.out
      obtain ⟨KNc0, KNc1, KNc2, KNc3⟩ := G.pk KN10.out
      go_wp2_with (first | (refine Zw HZK10.out HPZ10.out ?_) | (refine zak KS2.out rfl rfl (by kernel_rfl) Tryz.underlying37 rfl (by kernel_rfl) ?_))
      refine (G.same_any k a2 n2 c2 wn wt y2 k (some ⟨b, off, none⟩) (m + 1) c wn wt xs true w10 HD210.out HD10.out (decide_eq_true (by have h1 : FP.files y2 = FP.files xs := HF2.out; rw [h1]))).mono ?_
      rintro e w11 ⟨rfl, hb⟩
      have HD11 := Zh (HD10.out.below hb)
      replace HI0 := Zh (HI0.out.below hb)
      replace KW1 := Zk KW1 hb
      replace KS2 := Zk KS2 hb
      have HD211 := Zh (HD210.out.below hb)
      replace KV8 := Zk KV8 hb
      have HD311 := Zh (HD310.out.below hb)
      replace KN10 := Zk KN10 hb
      replace HB0 := Zt HB0 hb
      clear hb HD10 HD210 HD310
      clear KWc0 KWc1 KWc2 KWc3 KVc0 KVc1 KVc2 KVc3 KNc0 KNc1 KNc2 KNc3
      go_wp2
      go_ret
      exact ⟨rfl, HB0.out⟩
     subst he
     have e2 : ((0 : Int) != 0) = false := rfl
     have e3 : ((0 : Int) == 0) = true := rfl
     have d3 : decide ((n' : Int) ≥ 300) = true := by simp; omega
     have d4 : decide ((300 : Int) <= n') = true := by simp; omega
     have hp := G.turn_any k (some ⟨b, off, none⟩) (m + 1) c wn wt xs s ap np cp al nl cl ah nh ch w6 HD6.out HSML.out HI0.out HFT.out
     rw [G.turn_ok HM.out HLT.out HST.out] at hp
     obtain ⟨KWc0, KWc1, KWc2, KWc3⟩ := G.pk KW1.out
     go_wp2_with (first | (refine zak KS2.out rfl rfl (by kernel_rfl) Tryz.underlying37 rfl (by kernel_rfl) ?_))
     refine (hp).mono ?_
     rintro e w7 ⟨a2, n2, c2, y2, rfl, HDq, HF2, HX2, hb⟩
     have HD7 := Zh (HD6.out.below hb)
     replace HI0 := Zh (HI0.out.below hb)
     replace KW1 := Zk KW1 hb
     replace KS2 := Zk KS2 hb
     replace HB0 := Zt HB0 hb
     clear hb HD6
     have HD27 := HDq
     clear KWc0 KWc1 KWc2 KWc3
     clear HDq
     obtain ⟨w8, hw8, hb, hk⟩ := Zn w7 26 #[.int .i64 k3, .slice a2 n2 c2, .int .i64 wn3, .int .i64 wt3]
     have HD8 := Zh (HD7.out.below hb)
     replace HI0 := Zh (HI0.out.below hb)
     replace KW1 := Zk KW1 hb
     replace KS2 := Zk KS2 hb
     have HD28 := Zh (HD27.out.below hb)
     replace HB0 := Zt HB0 hb
     have KV8 := Zh hk
     clear hb hk HD7 HD27
     obtain ⟨wz8, hz8⟩ : ∃ W, w7.alloc (.cells #[.int .i64 0, .slice none 0 0, .int .i64 0, .int .i64 0] 26) = W := ⟨_, rfl⟩
     have HZK8 : Hid (Blok wz8 w7.heap.size 26 #[.int .i64 0, .slice none 0 0, .int .i64 0, .int .i64 0]) := Zh (by rw [<- hz8]; exact Blok.new w7 _ _)
     have HPZ8 : Hid (wz8.setRow w7.heap.size #[.int .i64 k3, .slice a2 n2 c2, .int .i64 wn3, .int .i64 wt3] = w8) := Zh (by rw [<- hz8, World.setRow_alloc_new, hw8])
     clear hw8
     clear hp p1
     have hp := G.new_any k (some ⟨b, off, none⟩) (m + 1) c xs s ap np cp al nl cl ah nh ch w8 HD8.out HSML.out HI0.out HFT.out
     rw [HST.out] at hp
     obtain ⟨KWc0, KWc1, KWc2, KWc3⟩ := G.pk KW1.out
     obtain ⟨KVc0, KVc1, KVc2, KVc3⟩ := G.pk KV8.out
     go_wp2_with (first | (refine Zw HZK8.out HPZ8.out ?_) | (refine zak KS2.out rfl rfl (by kernel_rfl) Tryz.underlying37 rfl (by kernel_rfl) ?_))
     refine (hp).mono ?_
     rintro e w9 ⟨a3, n3, c3, y3, rfl, HDq, HF3, HX3, hb⟩
     have HD9 := Zh (HD8.out.below hb)
     replace HI0 := Zh (HI0.out.below hb)
     replace KW1 := Zk KW1 hb
     replace KS2 := Zk KS2 hb
     have HD29 := Zh (HD28.out.below hb)
     replace KV8 := Zk KV8 hb
     replace HB0 := Zt HB0 hb
     clear hb HD8 HD28
     have HD39 := HDq
     clear KWc0 KWc1 KWc2 KWc3 KVc0 KVc1 KVc2 KVc3
     clear HDq
     obtain ⟨w10, hw10, hb, hk⟩ := Zn w9 26 #[.int .i64 k3, .slice a3 n3 c3, .int .i64 wn3, .int .i64 wt3]
     have HD10 := Zh (HD9.out.below hb)
     replace HI0 := Zh (HI0.out.below hb)
     replace KW1 := Zk KW1 hb
     replace KS2 := Zk KS2 hb
     have HD210 := Zh (HD29.out.below hb)
     replace KV8 := Zk KV8 hb
     have HD310 := Zh (HD39.out.below hb)
     replace HB0 := Zt HB0 hb
     have KN10 := Zh hk
     clear hb hk HD9 HD29 HD39
     obtain ⟨wz10, hz10⟩ : ∃ W, w9.alloc (.cells #[.int .i64 0, .slice none 0 0, .int .i64 0, .int .i64 0] 26) = W := ⟨_, rfl⟩
     have HZK10 : Hid (Blok wz10 w9.heap.size 26 #[.int .i64 0, .slice none 0 0, .int .i64 0, .int .i64 0]) := Zh (by rw [<- hz10]; exact Blok.new w9 _ _)
     have HPZ10 : Hid (wz10.setRow w9.heap.size #[.int .i64 k3, .slice a3 n3 c3, .int .i64 wn3, .int .i64 wt3] = w10) := Zh (by rw [<- hz10, World.setRow_alloc_new, hw10])
     clear hw10
     clear hp
     obtain ⟨KWc0, KWc1, KWc2, KWc3⟩ := G.pk KW1.out
     obtain ⟨KVc0, KVc1, KVc2, KVc3⟩ := G.pk KV8.out
     obtain ⟨KNc0, KNc1, KNc2, KNc3⟩ := G.pk KN10.out
     go_wp2_with (first | (refine Zw HZK10.out HPZ10.out ?_) | (refine zak KS2.out rfl rfl (by kernel_rfl) Tryz.underlying37 rfl (by kernel_rfl) ?_))
     refine (G.same_any k3 a2 n2 c2 wn3 wt3 y2 k3 a3 n3 c3 wn3 wt3 y3 true w10 HD210.out HD310.out (decide_eq_true (by have h1 : FP.files y2 = f3 := HF2.out; have h2 : FP.files y3 = f3 := HF3.out; rw [h1, h2]))).mono ?_
     rintro e w11 ⟨rfl, hb⟩
     have HD11 := Zh (HD10.out.below hb)
     replace HI0 := Zh (HI0.out.below hb)
     replace KW1 := Zk KW1 hb
     replace KS2 := Zk KS2 hb
     have HD211 := Zh (HD210.out.below hb)
     replace KV8 := Zk KV8 hb
     have HD311 := Zh (HD310.out.below hb)
     replace KN10 := Zk KN10 hb
     replace HB0 := Zt HB0 hb
     clear hb HD10 HD210 HD310
     clear KWc0 KWc1 KWc2 KWc3 KVc0 KVc1 KVc2 KVc3 KNc0 KNc1 KNc2 KNc3
     go_wp2
     go_ret
     exact ⟨rfl, HB0.out⟩
end Go.Proofs.YtnbkkjcmblfhpaaGreat
