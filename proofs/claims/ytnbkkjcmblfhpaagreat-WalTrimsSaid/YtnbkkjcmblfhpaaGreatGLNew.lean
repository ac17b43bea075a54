import Derived.Lib.QuietBelow
import Derived.Test.YtnbkkjcmblfhpaaGreatGAwake
import Derived.Test.YtnbkkjcmblfhpaaGreatP31
import Derived.Test.YtnbkkjcmblfhpaaGreatP32
namespace Go.Proofs.YtnbkkjcmblfhpaaGreat
set_option maxHeartbeats 1000000
set_option maxRecDepth 100000
open Go.RowKit
namespace G
theorem cellq {w : World} {p : Addr} {v : Value} (h : w.cell? p = some v) (hlt : p.block < w.heap.size) : ∀ d os, (Go.Sort.grow (redrawn w d) os).cell? p = some v := fun _ _ => ((below_regrown _ _ _).cell hlt).trans h
theorem convq {w : World} {a : Option Addr} {n cap : Nat} {L : List Int} (h : zfv .u8 w a cap L) (hn : L.length = n) : ∀ d os, (convert 51 9 (.slice a n cap)).run Tryz.prog (Go.Sort.grow (redrawn w d) os) = .ok (.string (zrg L)) (Go.Sort.grow (redrawn w d) os) := fun _ _ => znu (h.below (below_regrown _ _ _)) hn
theorem file_at {w : World} {a : Option Addr} {n c i : Nat} {xs : List FP} (h : zf0 w a n c xs) (hi : i < n) :
  ∃ b off no a' n' c' B s, a = some ⟨b, off, none⟩ /\ b < w.heap.size /\ (FP.files xs)[i]? = some (no, B, s) /\ w.cell? ⟨b, off + i * 3, none⟩ = some (.int .i64 no) /\ w.cell? ⟨b, off + i * 3 + 1, none⟩ = some (.slice a' n' c') /\ w.cell? ⟨b, off + i * 3 + 2, none⟩ = some (.int .i64 s) /\ B.length = n' /\ zfv .u8 w a' c' B /\ (a' = none -> n' = 0 /\ c' = 0) := by
 obtain ⟨b, off, no, a', n', c', B, s, ha, hlt, hx, p0, p1, p2, hok⟩ := h.2.1.at (i := i) (by rw [h.1]; exact hi)
 exact ⟨b, off, no, a', n', c', B, s, ha, hlt, by unfold FP.files; rw [List.getElem?_map, hx]; rfl, p0, p1, p2, hok.1, hok.2.1, hok.2.2⟩
end G
theorem WalNew_in (k : Int) (a : Option Addr) (n c : Nat) (wn wt : Int) (xs : List FP) (s : Y.St) (ap : Option Addr) (np cp : Nat) (al : Option Addr) (nl cl : Nat) (ah : Option Addr) (nh ch : Nat) (w : World) (hd : zf0 w a n c xs) (h : Y.SIn w ⟨ap, np, cp, al, nl, cl, ah, nh, ch⟩ s) (sm : O.Sm s.ps) (hb : s.d.b <= 9223372036854775807) (hc : s.d.c <= 9223372036854775807) :
  Calls Tryz.prog 7 #[.agg #[.int .i64 k, .slice a n c, .int .i64 wn, .int .i64 wt], .agg #[.int .i64 s.d.b, .int .i64 s.d.k, .int .i64 s.d.c, .int .i64 s.d.j, .int .i64 s.d.lo, .int .i64 s.d.hi, .int .i64 s.d.dy, .int .i64 s.d.bl, .int .i64 s.p.q, .int .i64 s.p.i, .int .i64 s.p.h, .bool s.p.pair, .int .i64 s.now, .slice ap np cp, .slice al nl cl, .slice ah nh ch]] w fun e w' => e = .returned (.bool true) /\ Below w.heap.size w w' := by
 have HB0 := Zh (Below.refl w.heap.size w)
 have HD0 := Zh (hd)
 have HI0 := Zh (h)
 have HSM := Zh sm
 clear hd h sm
 obtain ⟨w1, hw1, hb, hk⟩ := Zn w 26 #[.int .i64 k, .slice a n c, .int .i64 wn, .int .i64 wt]
 have HD1 := Zh (HD0.out.below hb)
 replace HI0 := Zh (HI0.out.below hb)
 have HB1 := Zt HB0 hb
 have KW1 := Zh hk
 clear hb hk HD0 HB0
 obtain ⟨w2, hw2, hb, hk⟩ := Zn w1 37 #[.int .i64 s.d.b, .int .i64 s.d.k, .int .i64 s.d.c, .int .i64 s.d.j, .int .i64 s.d.lo, .int .i64 s.d.hi, .int .i64 s.d.dy, .int .i64 s.d.bl, .int .i64 s.p.q, .int .i64 s.p.i, .int .i64 s.p.h, .bool s.p.pair, .int .i64 s.now, .slice ap np cp, .slice al nl cl, .slice ah nh ch]
 have HD2 := Zh (HD1.out.below hb)
 replace HI0 := Zh (HI0.out.below hb)
 replace KW1 := Zk KW1 hb
 have HB2 := Zt HB1 hb
 have KS2 := Zh hk
 clear hb hk HD1 HB1
 obtain ⟨fv, hfv⟩ : ∃ b, decide (D.few (FP.files xs)) = b := ⟨_, rfl⟩
 have HFV := Zh hfv
 clear hfv
 obtain ⟨fw, hfw⟩ : ∃ b, (decide (nl <= 40) && decide (nh <= 40) && decide (np <= 6)) = b := ⟨_, rfl⟩
 have HFW := Zh hfw
 clear hfw
 go_enter Tryz.func7, Tryz.ntmps7
 go_wp2_with fail
 try rw [hw1]
 try rw [hw2]
 refine (G.awake_any w2).mono ?_
 rintro e w3 ⟨rfl, hb⟩
 have HD3 := Zh (HD2.out.below hb)
 replace HI0 := Zh (HI0.out.below hb)
 replace KW1 := Zk KW1 hb
 replace KS2 := Zk KS2 hb
 have HB3 := Zt HB2 hb
 clear hb HD2 HB2
 clear hw1 hw2
 obtain ⟨KWc0, KWc1, KWc2, KWc3⟩ := G.pk KW1.out
 go_wp2_with (first | (refine zak KS2.out rfl rfl (by kernel_rfl) Tryz.underlying37 rfl (by kernel_rfl) ?_))
 refine (G.few_any k a n c wn wt xs fv w3 HD3.out HFV.out).mono ?_
 rintro e w4 ⟨rfl, hb⟩
 have HD4 := Zh (HD3.out.below hb)
 replace HI0 := Zh (HI0.out.below hb)
 replace KW1 := Zk KW1 hb
 replace KS2 := Zk KS2 hb
 have HB4 := Zt HB3 hb
 clear hb HD3 HB3
 clear KWc0 KWc1 KWc2 KWc3
 obtain ⟨KWc0, KWc1, KWc2, KWc3⟩ := G.pk KW1.out
 go_wp2_with (first | (refine zak KS2.out rfl rfl (by kernel_rfl) Tryz.underlying37 rfl (by kernel_rfl) ?_))
 refine (zcx s ap np cp al nl cl ah nh ch fw HFW.out w4).mono ?_
 rintro e w5 ⟨rfl, hb⟩
 have HD5 := Zh (HD4.out.below hb)
 replace HI0 := Zh (HI0.out.below hb)
 replace KW1 := Zk KW1 hb
 replace KS2 := Zk KS2 hb
 have HB5 := Zt HB4 hb
 clear hb HD4 HB4
 clear KWc0 KWc1 KWc2 KWc3
 cases fv with
 | false =>
  obtain ⟨KWc0, KWc1, KWc2, KWc3⟩ := G.pk KW1.out
  go_wp2_with (first | (refine zak KS2.out rfl rfl (by kernel_rfl) Tryz.underlying37 rfl (by kernel_rfl) ?_))
  go_ret
  exact ⟨rfl, HB5.out⟩
 | true =>
  have HSML := Zh (D.few.small (of_decide_eq_true HFV.out))
  cases fw with
  | false =>
   obtain ⟨KWc0, KWc1, KWc2, KWc3⟩ := G.pk KW1.out
   go_wp2_with (first | (refine zak KS2.out rfl rfl (by kernel_rfl) Tryz.underlying37 rfl (by kernel_rfl) ?_))
   go_ret
   exact ⟨rfl, HB5.out⟩
  | true =>
   have hfe := HFW.out
   simp only [Bool.and_eq_true, decide_eq_true_eq] at hfe
   obtain ⟨⟨hnl, hnh⟩, hnp⟩ := hfe
   have HFT : Hid (Y.Fits ⟨ap, np, cp, al, nl, cl, ah, nh, ch⟩ s) := Zh ⟨by show np <= 600; omega, by show nl <= 600; omega, by show nh <= 600; omega, HSM.out, hb, hc⟩
   obtain ⟨mv, hmv⟩ : ∃ b, decide (G.may ((k, FP.files xs), wn, wt)) = b := ⟨_, rfl⟩
   have HMV := Zh hmv
   clear hmv
   obtain ⟨KWc0, KWc1, KWc2, KWc3⟩ := G.pk KW1.out
   go_wp2_with (first | (refine zak KS2.out rfl rfl (by kernel_rfl) Tryz.underlying37 rfl (by kernel_rfl) ?_))
   refine (G.may_any k a n c wn wt xs mv w5 HD5.out HMV.out).mono ?_
   rintro e w6 ⟨rfl, hb⟩
   have HD6 := Zh (HD5.out.below hb)
   replace HI0 := Zh (HI0.out.below hb)
   replace KW1 := Zk KW1 hb
   replace KS2 := Zk KS2 hb
   have HB6 := Zt HB5 hb
   clear hb HD5 HB5
   clear KWc0 KWc1 KWc2 KWc3
   cases mv with
   | false =>
    obtain ⟨KWc0, KWc1, KWc2, KWc3⟩ := G.pk KW1.out
    go_wp2_with (first | (refine zak KS2.out rfl rfl (by kernel_rfl) Tryz.underlying37 rfl (by kernel_rfl) ?_))
    go_ret
    exact ⟨rfl, HB6.out⟩
   | true =>
    have HM := Zh (of_decide_eq_true HMV.out)
    obtain ⟨⟨⟨⟨k3, f3⟩, wn3, wt3⟩, er⟩, hst⟩ : ∃ x, G.new (k, FP.files xs) s = x := ⟨_, rfl⟩
    have HST := Zh hst
    have hp := G.new_any k a n c xs s ap np cp al nl cl ah nh ch w6 HD6.out HSML.out HI0.out HFT.out
    rw [hst] at hp
    clear hst
    obtain ⟨KWd0, KWd1, KWd2, KWd3⟩ := G.pk KW1.out
    obtain ⟨KWc0, KWc1, KWc2, KWc3⟩ := G.pk KW1.out
    go_wp2_with (first | (refine zak KS2.out rfl rfl (by kernel_rfl) Tryz.underlying37 rfl (by kernel_rfl) ?_))
    refine (hp).mono ?_
    rintro e w7 ⟨a2, n2, c2, y2, rfl, HDq, HF2, HX2, hb⟩
    have HD7 := Zh (HD6.out.below hb)
    replace HI0 := Zh (HI0.out.below hb)
    replace KW1 := Zk KW1 hb
    replace KS2 := Zk KS2 hb
    have HB7 := Zt HB6 hb
    clear hb HD6 HB6
    have HD27 := HDq
    clear KWc0 KWc1 KWc2 KWc3
    clear HDq
    obtain ⟨w8, hw8, hb, hk⟩ := Zn w7 26 #[.int .i64 k3, .slice a2 n2 c2, .int .i64 wn3, .int .i64 wt3]
    have HD8 := Zh (HD7.out.below hb)
    replace HI0 := Zh (HI0.out.below hb)
    replace KW1 := Zk KW1 hb
    replace KS2 := Zk KS2 hb
    have HD28 := Zh (HD27.out.below hb)
    have HB8 := Zt HB7 hb
    have KV8 := Zh hk
    clear hb hk HD7 HD27 HB7
    obtain ⟨wz8, hz8⟩ : ∃ W, w7.alloc (.cells #[.int .i64 0, .slice none 0 0, .int .i64 0, .int .i64 0] 26) = W := ⟨_, rfl⟩
    have HZK8 : Hid (Blok wz8 w7.heap.size 26 #[.int .i64 0, .slice none 0 0, .int .i64 0, .int .i64 0]) := Zh (by rw [<- hz8]; exact Blok.new w7 _ _)
    have HPZ8 : Hid (wz8.setRow w7.heap.size #[.int .i64 k3, .slice a2 n2 c2, .int .i64 wn3, .int .i64 wt3] = w8) := Zh (by rw [<- hz8, World.setRow_alloc_new, hw8])
    clear hw8
    clear hp KWd0 KWd1 KWd2 KWd3
    have hcs := G.new_cases (k, FP.files xs) s
    rw [HST.out] at hcs
    have HCS := Zh hcs
    clear hcs
    by_cases he : er = 0
    rotate_left
    ·have e2 : (er != 0) = true := by simpa using he
     have hzw : (((k3, f3), wn3, wt3) : G.T) = G.zw := by rcases HCS.out with h1 | ⟨b, _, _, _, h1⟩; exact h1.2; exact absurd (congrArg Prod.snd h1) he
     simp only [G.zw, Prod.mk.injEq] at hzw
     obtain ⟨⟨rfl, rfl⟩, rfl, rfl⟩ := hzw
     obtain rfl : 0 = n2 := by have h1 := HD28.out.1; have h2 : FP.files y2 = [] := HF2.out; rw [<- FP.files_len, h2] at h1; exact h1
     obtain ⟨KWc0, KWc1, KWc2, KWc3⟩ := G.pk KW1.out
     obtain ⟨KVc0, KVc1, KVc2, KVc3⟩ := G.pk KV8.out
     go_wp2_with (first | (refine Zw HZK8.out HPZ8.out ?_) | (refine zak KS2.out rfl rfl (by kernel_rfl) Tryz.underlying37 rfl (by kernel_rfl) ?_))
     go_ret
     exact ⟨rfl, HB8.out⟩
    subst he
    have e2 : ((0 : Int) != 0) = false := rfl
    have hxx : ∃ b, J.put s = some b /\ G.last (k, FP.files xs) < 1073741824 /\ (((k3, f3), wn3, wt3) : G.T) = ((k, FP.files xs ++ [(G.last (k, FP.files xs) + 1, G.recS s, ((G.recS s).length : Int))]), G.last (k, FP.files xs) + 1, s.now) := by
     rcases HCS.out with h1 | ⟨b, h1, _, h2, h3⟩
     ·exact absurd rfl h1.1
     ·exact ⟨b, h1, h2, congrArg Prod.fst h3⟩
    obtain ⟨bp, hbp, hlast, hxx⟩ := hxx
    have hwn : wn = G.last (k, FP.files xs) := HM.out.2.2.1
    rw [<- hwn] at hxx hlast
    simp only [Prod.mk.injEq] at hxx
    obtain ⟨⟨rfl, hf3⟩, hn3, rfl⟩ := hxx
    have HBP := Zh hbp
    have HF3 : Hid (FP.files y2 = FP.files xs ++ [(wn3, G.recS s, ((G.recS s).length : Int))]) := Zh (by rw [hn3, <- hf3]; exact HF2.out)
    have hr := G.last_range HM.out.1
    rw [<- hwn] at hr
    have hz : IntKind.i64.wrap (wn + 1) = wn3 := by rw [hn3, IntKind.wrap_i64]; omega
    have HMV3 : Hid (G.may ((k3, FP.files y2), wn3, s.now)) := Zh (by have h1 := G.new_may (d := (k3, FP.files xs)) (s := s) (by rw [HST.out]); rw [HST.out] at h1; have h2 : FP.files y2 = f3 := HF2.out; rw [h2]; exact h1)
    clear hbp hwn hf3 hn3 hr hlast
    obtain rfl : n + 1 = n2 := by have h1 := HD28.out.1; rw [<- FP.files_len, HF3.out, List.length_append, FP.files_len, HD8.out.1] at h1; exact h1
    have hcap := HD28.out.caps
    have hml : maxLen <= 9223372036854775807 := by decide
    have e3 : (wn3 != wn3) = false := by simp
    have e4 : (s.now != s.now) = false := by simp
    have y12 := Zv KS2.out 12 (.int .i64 s.now)
    obtain ⟨KWc0, KWc1, KWc2, KWc3⟩ := G.pk KW1.out
    obtain ⟨KVc0, KVc1, KVc2, KVc3⟩ := G.pk KV8.out
    go_wp2_with (first | (refine Zw HZK8.out HPZ8.out ?_) | (refine zak KS2.out rfl rfl (by kernel_rfl) Tryz.underlying37 rfl (by kernel_rfl) ?_))
    refine (G.may_any k3 a2 (n + 1) c2 wn3 s.now y2 true w8 HD28.out (decide_eq_true HMV3.out)).mono ?_
    rintro e w9 ⟨rfl, hb⟩
    have HD9 := Zh (HD8.out.below hb)
    replace HI0 := Zh (HI0.out.below hb)
    replace KW1 := Zk KW1 hb
    replace KS2 := Zk KS2 hb
    have HD29 := Zh (HD28.out.below hb)
    have KV9 := Zk KV8 hb
    have HB9 := Zt HB8 hb
    clear hb HD8 HD28 KV8 HB8
    clear KWc0 KWc1 KWc2 KWc3 KVc0 KVc1 KVc2 KVc3
    clear y12
    obtain ⟨KWc0, KWc1, KWc2, KWc3⟩ := G.pk KW1.out
    obtain ⟨KVc0, KVc1, KVc2, KVc3⟩ := G.pk KV9.out
    go_wp2_with fail
    clear KWc0 KWc1 KWc2 KWc3 KVc0 KVc1 KVc2 KVc3
    go_loopg [11] n (fun q i wr => ∃ j : Nat, i = .int .i64 j /\ j + q = n /\ Hid (Below w9.heap.size w9 wr))
    case atStart => exact ⟨0, rfl, by omega, Zh (Below.refl _ _)⟩
    case round =>
     obtain ⟨j, rfl, hjn, HLP⟩ := hrel
     have KWr := Zh (KW1.out.below HLP.out KW1.out.lt)
     have KVr := Zh (KV9.out.below HLP.out KV9.out.lt)
     have KSr := Zh (KS2.out.below HLP.out KS2.out.lt)
     have HDr := Zh (HD9.out.below HLP.out)
     have HD2r := Zh (HD29.out.below HLP.out)
     have HBr := Zh (HB9.out.trans (HLP.out.mono HB9.out.size))
     clear KW1 KV9 KS2 HD9 HD29 HB9
     obtain ⟨x0, x1, x2, x3⟩ := G.pk KWr.out
     obtain ⟨y0, y1, y2', y3⟩ := G.pk KVr.out
     obtain ⟨qx0, qx1, qx2, qx3⟩ := G.pkq KWr.out
     obtain ⟨qy0, qy1, qy2, qy3⟩ := G.pkq KVr.out
     by_cases hlt : j < n
     ·have d0 : decide ((j : Int) < n) = true := by simp; omega
      obtain ⟨b, off, no, a', n', c', B, q, rfl, hb, hx, p0, p1, p2, hl, hro, hnl⟩ := G.file_at HDr.out hlt
      obtain ⟨b2, off2, no2, a2', n2', c2', B2, q2, rfl, hb2, hx2, r0, r1, r2, hl2, hro2, hnl2⟩ := G.file_at (i := j) HD2r.out (by omega)
      rw [HF3.out, List.getElem?_append_left (by rw [FP.files_len, HDr.out.1]; exact hlt), hx] at hx2
      simp only [Option.some.injEq, Prod.mk.injEq] at hx2
      obtain ⟨rfl, rfl, rfl⟩ := hx2
      have j0 : (0 : Int) <= j := by omega
      have j1 : (j : Int) < n := by omega
      have j2 : (j : Int) < (n : Int) + 1 := by omega
      have q0 := G.cellq p0 hb
      have q1 := G.cellq p1 hb
      have q2' := G.cellq p2 hb
      have s0 := G.cellq r0 hb2
      have s1 := G.cellq r1 hb2
      have s2 := G.cellq r2 hb2
      have v1 := G.convq hro hl
      have v2 := G.convq hro2 hl2
      obtain ⟨st, hst⟩ : ∃ z, zrg B = z := ⟨_, rfl⟩
      rw [hst] at v1 v2
      have e5 : (st.toList != st.toList) = false := by simp
      have e6 : (no != no) = false := by simp
      have e7 : (q != q) = false := by simp
      clear hst hx hl hl2 hro hro2 hnl hnl2 hb hb2
      go_wp2_with fail
      refine wp_region_quiet_below (by kernel_rfl) (by kernel_rfl) ?_
      repeat (go_big_quiet_step (fail))
      refine wpQuiet_nil ?_
      intro _ hw'
      obtain ⟨⟨dq, osq⟩, hw''⟩ := hw'
      subst hw''
      go_wp2
      go_roundg (n - (j + 1))
      case rel => exact ⟨j + 1, by go_num, by omega, Zh (HLP.out.trans ((below_regrown _ _ _).mono HLP.out.size))⟩
      case measure => omega
     have d0 : decide ((j : Int) < n) = false := by simp; omega
     obtain rfl : j = n := by omega
     obtain ⟨b2, off2, no2, a2', n2', c2', B2, q2, rfl, hb2, hx2, r0, r1, r2, hl2, hro2, hnl2⟩ := G.file_at (i := j) HD2r.out (by omega)
     rw [HF3.out, List.getElem?_append_right (by rw [FP.files_len, HDr.out.1]; exact Nat.le_refl _), FP.files_len, HDr.out.1, Nat.sub_self] at hx2
     simp only [List.getElem?_cons_zero, Option.some.injEq, Prod.mk.injEq] at hx2
     obtain ⟨rfl, rfl, rfl⟩ := hx2
     have HFR : Hid (G.firstL (G.recS s) = (s, (n2' : Int), true)) := Zh (by have h1 := G.first_rec HBP.out []; rw [List.append_nil] at h1; rw [h1, <- hl2])
     have HRL : Hid ((G.recS s).length = n2' /\ n2' <= 1007) := Zh ⟨hl2, by rw [<- hl2, (G.recS_eq HBP.out).1]; exact (R.bytes_big (G.recS_eq HBP.out).2).2⟩
     have HRO := Zh (And.intro hro2 hnl2)
     have HB2 := Zh hb2
     clear hl2 hro2 hnl2 hb2 qx0 qx1 qx2 qx3 qy0 qy1 qy2 qy3
     have j0 : (0 : Int) <= j := by omega
     have j2 : (j : Int) < (j : Int) + 1 := by omega
     have HRR := Zh (And.intro r1 (show wr.cell? ⟨b2, off2 + j * 3 + 2, none⟩ = some (.int .i64 (n2' : Int)) from by rw [r2, HRL.out.1]))
     go_wp2_with fail
     refine (G.first_any s n2' true a2' n2' c2' (G.recS s) HFR.out wr (by have := HRL.out.2; omega) HRL.out.1 HRO.out.1 HRO.out.2).mono ?_
     rintro e w90 ⟨xap, xnp, xcp, xal, xnl, xcl, xah, xnh, xch, rfl, hG, hb⟩
     clear hG r0 r1 r2 y0 y1 y2' y3 x0 x1 x2 x3
     have KV90 := Zk KVr hb
     have HB90 := Zt HBr hb
     have HS90 := Zh ((hb.cell (p := ⟨b2, off2 + j * 3 + 2, none⟩) HB2.out).trans HRR.out.2)
     have HR90 := Zh (And.intro ((hb.cell (p := ⟨b2, off2 + j * 3 + 1, none⟩) HB2.out).trans HRR.out.1) (Nat.lt_of_lt_of_le HB2.out hb.size))
     clear hb KVr HBr HDr HD2r KWr KSr HLP
     obtain ⟨w91, hw91, hb, hk⟩ := Zn w90 37 #[.int .i64 s.d.b, .int .i64 s.d.k, .int .i64 s.d.c, .int .i64 s.d.j, .int .i64 s.d.lo, .int .i64 s.d.hi, .int .i64 s.d.dy, .int .i64 s.d.bl, .int .i64 s.p.q, .int .i64 s.p.i, .int .i64 s.p.h, .bool s.p.pair, .int .i64 s.now, .slice xap xnp xcp, .slice xal xnl xcl, .slice xah xnh xch]
     have KV91 := Zk KV90 hb
     have HBT := Zh hb
     have HB91 := Zt HB90 hb
     have KT91 := Zh hk
     clear hb hk KV90 HB90
     obtain ⟨wz91, hz91⟩ : ∃ W, w90.alloc (.cells #[.int .i64 0, .int .i64 0, .int .i64 0, .int .i64 0, .int .i64 0, .int .i64 0, .int .i64 0, .int .i64 0, .int .i64 0, .int .i64 0, .int .i64 0, .bool false, .int .i64 0, .slice none 0 0, .slice none 0 0, .slice none 0 0] 37) = W := ⟨_, rfl⟩
     have HZK91 : Hid (Blok wz91 w90.heap.size 37 #[.int .i64 0, .int .i64 0, .int .i64 0, .int .i64 0, .int .i64 0, .int .i64 0, .int .i64 0, .int .i64 0, .int .i64 0, .int .i64 0, .int .i64 0, .bool false, .int .i64 0, .slice none 0 0, .slice none 0 0, .slice none 0 0]) := Zh (by rw [<- hz91]; exact Blok.new w90 _ _)
     have HPZ91 : Hid (wz91.setRow w90.heap.size #[.int .i64 s.d.b, .int .i64 s.d.k, .int .i64 s.d.c, .int .i64 s.d.j, .int .i64 s.d.lo, .int .i64 s.d.hi, .int .i64 s.d.dy, .int .i64 s.d.bl, .int .i64 s.p.q, .int .i64 s.p.i, .int .i64 s.p.h, .bool s.p.pair, .int .i64 s.now, .slice xap xnp xcp, .slice xal xnl xcl, .slice xah xnh xch] = w91) := Zh (by rw [<- hz91, World.setRow_alloc_new, hw91])
     clear hw91
     obtain ⟨y0, y1, y2', y3⟩ := G.pk KV91.out
     have r1 : w91.cell? ⟨b2, off2 + j * 3 + 1, none⟩ = some (.slice a2' n2' c2') := by have hbt : Below w90.heap.size w90 w91 := HBT.out; exact (hbt.cell (p := ⟨b2, off2 + j * 3 + 1, none⟩) HR90.out.2).trans HR90.out.1
     have r2 : w91.cell? ⟨b2, off2 + j * 3 + 2, none⟩ = some (.int .i64 (n2' : Int)) := by have hbt : Below w90.heap.size w90 w91 := HBT.out; exact (hbt.cell (p := ⟨b2, off2 + j * 3 + 2, none⟩) HR90.out.2).trans HS90.out
     have e8 : ((n2' : Int) == (n2' : Int)) = true := by simp
     go_wp2_with (refine Zw HZK91.out HPZ91.out ?_)
     go_ret
     exact ⟨rfl, HB91.out⟩
end Go.Proofs.YtnbkkjcmblfhpaaGreat
