import Derived.Lib.QuietBelow
import Derived.Test.YtnbkkjcmblfhpaaGreatGLNew
namespace Go.Proofs.YtnbkkjcmblfhpaaGreat
set_option maxHeartbeats 1000000
set_option maxRecDepth 100000
open Go.RowKit
theorem WalTrims_in (k : Int) (a : Option Addr) (n c : Nat) (wn wt : Int) (xs : List FP) (now later : Int) (w : World) (hd : zf0 w a n c xs) (hnw : now <= 9223372036854775807) :
  Calls Tryz.prog 6 #[.agg #[.int .i64 k, .slice a n c, .int .i64 wn, .int .i64 wt], .int .i64 now, .int .i64 later] w fun e w' => e = .returned (.bool true) /\ Below w.heap.size w w' := by
 have HB0 := Zh (Below.refl w.heap.size w)
 have HNW := Zh hnw
 have HD0 := Zh (hd)
 clear hd hnw
 obtain ⟨w1, hw1, hb, hk⟩ := Zn w 26 #[.int .i64 k, .slice a n c, .int .i64 wn, .int .i64 wt]
 have HD1 := Zh (HD0.out.below hb)
 have HB1 := Zt HB0 hb
 have KW1 := Zh hk
 clear hb hk HD0 HB0
 obtain ⟨fv, hfv⟩ : ∃ b, decide (D.few (FP.files xs)) = b := ⟨_, rfl⟩
 have HFV := Zh hfv
 clear hfv
 go_enter Tryz.func6, Tryz.ntmps6
 go_wp2_with fail
 try rw [hw1]
 refine (G.awake_any w1).mono ?_
 rintro e w2 ⟨rfl, hb⟩
 have HD2 := Zh (HD1.out.below hb)
 replace KW1 := Zk KW1 hb
 have HB2 := Zt HB1 hb
 clear hb HD1 HB1
 clear hw1
 obtain ⟨KWc0, KWc1, KWc2, KWc3⟩ := G.pk KW1.out
 go_wp2_with fail
 refine (G.few_any k a n c wn wt xs fv w2 HD2.out HFV.out).mono ?_
 rintro e w3 ⟨rfl, hb⟩
 have HD3 := Zh (HD2.out.below hb)
 replace KW1 := Zk KW1 hb
 have HB3 := Zt HB2 hb
 clear hb HD2 HB2
 clear KWc0 KWc1 KWc2 KWc3
 cases fv with
 | false =>
  obtain ⟨KWc0, KWc1, KWc2, KWc3⟩ := G.pk KW1.out
  go_wp2_with fail
  go_ret
  exact ⟨rfl, HB3.out⟩
 | true =>
  have HSML := Zh (D.few.small (of_decide_eq_true HFV.out))
  obtain ⟨mv, hmv⟩ : ∃ b, decide (G.may ((k, FP.files xs), wn, wt)) = b := ⟨_, rfl⟩
  have HMV := Zh hmv
  clear hmv
  obtain ⟨KWc0, KWc1, KWc2, KWc3⟩ := G.pk KW1.out
  go_wp2_with fail
  refine (G.may_any k a n c wn wt xs mv w3 HD3.out HMV.out).mono ?_
  rintro e w4 ⟨rfl, hb⟩
  have HD4 := Zh (HD3.out.below hb)
  replace KW1 := Zk KW1 hb
  have HB4 := Zt HB3 hb
  clear hb HD3 HB3
  clear KWc0 KWc1 KWc2 KWc3
  cases mv with
  | false =>
   obtain ⟨KWc0, KWc1, KWc2, KWc3⟩ := G.pk KW1.out
   go_wp2_with fail
   go_ret
   exact ⟨rfl, HB4.out⟩
  | true =>
   have HM := Zh (of_decide_eq_true HMV.out)
   by_cases hlt0 : later < now
   ·have d0 : decide (later < now) = true := decide_eq_true hlt0
    obtain ⟨KWc0, KWc1, KWc2, KWc3⟩ := G.pk KW1.out
    go_wp2_with fail
    go_ret
    exact ⟨rfl, HB4.out⟩
   have d0 : decide (later < now) = false := decide_eq_false hlt0
   have HLT : Hid (now <= later) := Zh (by omega)
   clear hlt0
   have hp := G.trim_any k a n c wn wt now xs w4 HD4.out HSML.out
   rw [G.trim_yes now HM.out] at hp
   obtain ⟨KWc0, KWc1, KWc2, KWc3⟩ := G.pk KW1.out
   go_wp2_with fail
   refine (hp).mono ?_
   rintro e w5 ⟨a2, n2, c2, y2, rfl, HDq, HF2, HX2, hb⟩
   have HD5 := Zh (HD4.out.below hb)
   replace KW1 := Zk KW1 hb
   have HB5 := Zt HB4 hb
   clear hb HD4 HB4
   have HD25 := HDq
   clear KWc0 KWc1 KWc2 KWc3
   clear HDq
   obtain ⟨w6, hw6, hb, hk⟩ := Zn w5 26 #[.int .i64 k, .slice a2 n2 c2, .int .i64 wn, .int .i64 wt]
   have HD6 := Zh (HD5.out.below hb)
   replace KW1 := Zk KW1 hb
   have HD26 := Zh (HD25.out.below hb)
   have HB6 := Zt HB5 hb
   have KA6 := Zh hk
   clear hb hk HD5 HD25 HB5
   obtain ⟨wz6, hz6⟩ : ∃ W, w5.alloc (.cells #[.int .i64 0, .slice none 0 0, .int .i64 0, .int .i64 0] 26) = W := ⟨_, rfl⟩
   have HZK6 : Hid (Blok wz6 w5.heap.size 26 #[.int .i64 0, .slice none 0 0, .int .i64 0, .int .i64 0]) := Zh (by rw [<- hz6]; exact Blok.new w5 _ _)
   have HPZ6 : Hid (wz6.setRow w5.heap.size #[.int .i64 k, .slice a2 n2 c2, .int .i64 wn, .int .i64 wt] = w6) := Zh (by rw [<- hz6, World.setRow_alloc_new, hw6])
   clear hw6
   clear hp
   have hp := G.trim_any k a n c wn wt later xs w6 HD6.out HSML.out
   rw [G.trim_yes later HM.out] at hp
   obtain ⟨KWc0, KWc1, KWc2, KWc3⟩ := G.pk KW1.out
   obtain ⟨KAc0, KAc1, KAc2, KAc3⟩ := G.pk KA6.out
   go_wp2_with (first | (refine Zw HZK6.out HPZ6.out ?_))
   refine (hp).mono ?_
   rintro e w7 ⟨a3, n3, c3, y3, rfl, HDq, HF3, HX3, hb⟩
   have HD7 := Zh (HD6.out.below hb)
   replace KW1 := Zk KW1 hb
   have HD27 := Zh (HD26.out.below hb)
   replace KA6 := Zk KA6 hb
   have HB7 := Zt HB6 hb
   clear hb HD6 HD26 HB6
   have HD37 := HDq
   clear KWc0 KWc1 KWc2 KWc3 KAc0 KAc1 KAc2 KAc3
   clear HDq
   obtain ⟨w8, hw8, hb, hk⟩ := Zn w7 26 #[.int .i64 k, .slice a3 n3 c3, .int .i64 wn, .int .i64 wt]
   have HD8 := Zh (HD7.out.below hb)
   replace KW1 := Zk KW1 hb
   have HD28 := Zh (HD27.out.below hb)
   replace KA6 := Zk KA6 hb
   have HD38 := Zh (HD37.out.below hb)
   have HB8 := Zt HB7 hb
   have KB8 := Zh hk
   clear hb hk HD7 HD27 HD37 HB7
   obtain ⟨wz8, hz8⟩ : ∃ W, w7.alloc (.cells #[.int .i64 0, .slice none 0 0, .int .i64 0, .int .i64 0] 26) = W := ⟨_, rfl⟩
   have HZK8 : Hid (Blok wz8 w7.heap.size 26 #[.int .i64 0, .slice none 0 0, .int .i64 0, .int .i64 0]) := Zh (by rw [<- hz8]; exact Blok.new w7 _ _)
   have HPZ8 : Hid (wz8.setRow w7.heap.size #[.int .i64 k, .slice a3 n3 c3, .int .i64 wn, .int .i64 wt] = w8) := Zh (by rw [<- hz8, World.setRow_alloc_new, hw8])
   clear hw8
   clear hp
   obtain ⟨pre, hpre, hne⟩ := G.cut_suffix now (FP.files xs)
   have h2 : FP.files y2 = G.cut now (FP.files xs) := HF2.out
   have h3 : FP.files y3 = G.cut later (FP.files xs) := HF3.out
   rw [<- h2] at hpre
   obtain ⟨p, hp⟩ : ∃ p, pre.length = p := ⟨_, rfl⟩
   have HPP := Zh (And.intro hpre hp)
   obtain rfl : p + n2 = n := by have h4 := congrArg List.length hpre; rw [FP.files_len, List.length_append, FP.files_len, HD8.out.1, HD28.out.1, hp] at h4; exact h4.symm
   have hne2 : 1 <= n2 := by
    rw [<- HD28.out.1, <- FP.files_len, h2]
    exact List.length_pos_iff.2 (hne HM.out.2.1)
   have hne3 : 1 <= n3 := by
    rw [<- HD38.out.1, <- FP.files_len, h3]
    exact List.length_pos_iff.2 ((G.cut_suffix later (FP.files xs)).choose_spec.2 HM.out.2.1)
   have h32 : n3 <= n2 := by
    have h4 := G.cut_len HLT.out (FP.files xs)
    rw [<- h2, <- h3, FP.files_len, FP.files_len, HD28.out.1, HD38.out.1] at h4
    exact h4
   have HID : Hid (G.cut now (FP.files y2) = FP.files y2) := Zh (by rw [h2, G.cut_idem])
   have HM2 : Hid (G.may ((k, FP.files y2), wn, wt)) := Zh (by have h4 := G.trim_may now HM.out; rw [G.trim_yes now HM.out] at h4; rw [h2]; exact h4)
   have HHD : Hid (p ≠ 0 -> ∃ q r x, FP.files y2 = q :: r /\ G.first q.2.1 = some x /\ x.1.now + 1000 <= now) := Zh (fun h0 => by
    have h4 := G.cut_head now (FP.files xs) (by rw [<- h2, FP.files_len, FP.files_len, HD8.out.1, HD28.out.1]; omega)
    rw [<- h2] at h4
    exact h4)
   clear hpre hp hne h2 h3
   have hcap := HD8.out.caps
   have hml : maxLen <= 9223372036854775807 := by decide
   have t1 : ((p : Int) + (n2 : Int)) - (n2 : Int) = (p : Int) := by omega
   have t2 : (((p + n2 : Nat) : Int)) - (n2 : Int) = (p : Int) := by omega
   have d1 : decide ((p : Int) < 0) = false := by simp
   have d2 : decide ((n2 : Int) < 1) = false := by simp; omega
   have d2' : decide (n2 < 1) = false := by simp; omega
   have d3 : decide ((n3 : Int) > (n2 : Int)) = false := by simp; omega
   have d3' : decide ((n2 : Int) < (n3 : Int)) = false := by simp; omega
   have d3'' : decide (n2 < n3) = false := by simp; omega
   have d4 : decide ((n3 : Int) < 1) = false := by simp; omega
   have d4' : decide (n3 < 1) = false := by simp; omega
   have e1 : ((p : Int) == 0) = decide (p = 0) := by rw [Bool.eq_iff_iff, beq_iff_eq, decide_eq_true_iff]; omega
   obtain ⟨KWc0, KWc1, KWc2, KWc3⟩ := G.pk KW1.out
   obtain ⟨KAc0, KAc1, KAc2, KAc3⟩ := G.pk KA6.out
   obtain ⟨KBc0, KBc1, KBc2, KBc3⟩ := G.pk KB8.out
   go_wp2_with (refine Zw HZK8.out HPZ8.out ?_)
   refine Zd (fun w' => Below w8.heap.size w8 w') (zaa w8) fun RS0 => ?_
   refine tk 0 (.int .i64 (p : Int)) RS0 ?_
   refine wpAnyH_take (i := 1) (v := .bool false) rfl (by kernel_rfl) (by kernel_rfl) (by kernel_rfl) (fun _ _ _ h => h) (.inl ⟨by kernel_rfl, fun w9 hS => by go_simp⟩) RS0 ?_
   refine tk 2 (.bool false) RS0 ?_
   refine Zq 3 w5.heap.size 0 RS0 ?_
   refine Zq 4 w5.heap.size 1 RS0 ?_
   refine Zl 5 (.slice a2 n2 c2) rfl (fun w9 hS => by
      have q := KA6.out.below hS KA6.out.lt
      have z1 := Zv q 1 (.slice a2 n2 c2)
      go_simp) RS0 ?_
   refine tk 6 (.int .i64 (n2 : Int)) RS0 ?_
   refine wpAnyH_take (i := 7) (v := .bool false) rfl (by kernel_rfl) (by kernel_rfl) (by kernel_rfl) (fun _ _ _ h => h) (.inl ⟨by kernel_rfl, fun w9 hS => by go_simp⟩) RS0 ?_
   refine tk 8 (.bool false) RS0 ?_
   refine tk 9 (.bool false) RS0 ?_
   refine Zq 10 w7.heap.size 0 RS0 ?_
   refine Zq 11 w7.heap.size 1 RS0 ?_
   refine Zl 12 (.slice a3 n3 c3) rfl (fun w9 hS => by
      have q := KB8.out.below hS KB8.out.lt
      have z1 := Zv q 1 (.slice a3 n3 c3)
      go_simp) RS0 ?_
   refine tk 13 (.int .i64 (n3 : Int)) RS0 ?_
   refine Zq 14 w5.heap.size 0 RS0 ?_
   refine Zq 15 w5.heap.size 1 RS0 ?_
   refine Zl 16 (.slice a2 n2 c2) rfl (fun w9 hS => by
      have q := KA6.out.below hS KA6.out.lt
      have z1 := Zv q 1 (.slice a2 n2 c2)
      go_simp) RS0 ?_
   refine tk 17 (.int .i64 (n2 : Int)) RS0 ?_
   refine wpAnyH_take (i := 18) (v := .bool false) rfl (by kernel_rfl) (by kernel_rfl) (by kernel_rfl) (fun _ _ _ h => h) (.inl ⟨by kernel_rfl, fun w9 hS => by go_simp⟩) RS0 ?_
   refine tk 19 (.bool false) RS0 ?_
   refine tk 20 (.bool false) RS0 ?_
   refine Zq 21 w7.heap.size 0 RS0 ?_
   refine Zq 22 w7.heap.size 1 RS0 ?_
   refine Zl 23 (.slice a3 n3 c3) rfl (fun w9 hS => by
      have q := KB8.out.below hS KB8.out.lt
      have z1 := Zv q 1 (.slice a3 n3 c3)
      go_simp) RS0 ?_
   refine tk 24 (.int .i64 (n3 : Int)) RS0 ?_
   refine wpAnyH_take (i := 25) (v := .bool false) rfl (by kernel_rfl) (by kernel_rfl) (by kernel_rfl) (fun _ _ _ h => h) (.inl ⟨by kernel_rfl, fun w9 hS => by go_simp⟩) RS0 ?_
   refine tk 26 (.bool false) RS0 ?_
   refine tk 27 (.bool false) RS0 ?_
   refine Zl 28 (.agg #[.int .i64 k, .slice a2 n2 c2, .int .i64 wn, .int .i64 wt]) rfl (fun w9 hS => by
      have q := KA6.out.below hS KA6.out.lt
      have z0 := Zv q 0 (.int .i64 k)
      have z1 := Zv q 1 (.slice a2 n2 c2)
      have z2 := Zv q 2 (.int .i64 wn)
      have z3 := Zv q 3 (.int .i64 wt)
      go_simp) RS0 ?_
   refine tk 29 (.int .i64 now) RS0 ?_
   refine Zl 31 (.agg #[.int .i64 k, .slice a2 n2 c2, .int .i64 wn, .int .i64 wt]) rfl (fun w9 hS => by
      have q := KA6.out.below hS KA6.out.lt
      have z0 := Zv q 0 (.int .i64 k)
      have z1 := Zv q 1 (.slice a2 n2 c2)
      have z2 := Zv q 2 (.int .i64 wn)
      have z3 := Zv q 3 (.int .i64 wt)
      go_simp) RS0 ?_
   have hq := fun W (hW : zf0 W a2 n2 c2 y2) => G.trim_any k a2 n2 c2 wn wt now y2 W hW (D.small_may HM2.out.1)
   rw [G.trim_yes now HM2.out] at hq
   refine Zc 30 20 #[.agg #[.int .i64 k, .slice a2 n2 c2, .int .i64 wn, .int .i64 wt], .int .i64 now] (hq _ (HD28.out.below RS0)) ?_
   rintro e wc5 ⟨a5, n5, c5, y5, rfl, hD5, hF5, hX5, hb⟩
   refine Zu (Zr RS0 hb) fun RS1 => ?_
   clear hb hq
   refine Zc 32 27 #[.agg #[.int .i64 k, .slice a5 n5 c5, .int .i64 wn, .int .i64 wt], .agg #[.int .i64 k, .slice a2 n2 c2, .int .i64 wn, .int .i64 wt]] (G.same_any k a5 n5 c5 wn wt y5 k a2 n2 c2 wn wt y2 true _ hD5.out (HD28.out.below RS1) (decide_eq_true (by have h1 : FP.files y5 = G.cut now (FP.files y2) := hF5.out; rw [h1, HID.out]))) ?_
   rintro e wc6 ⟨rfl, hb⟩
   refine Zu (Zr RS1 hb) fun RS2 => ?_
   have hb6 := hb
   clear hb
   refine tk 33 (.bool false) RS2 ?_
   refine tk 34 (.bool false) RS2 ?_
   refine wpAnyH_done (by kernel_rfl) ?_ _
   simp only [List.getElem_toArray, List.getElem_cons_succ, List.getElem_cons_zero, zc7, List.setIfInBounds_toArray, List.set_cons_succ, List.set_cons_zero]
   have hbb : Below w8.heap.size w8 wc6 := RS2
   obtain ⟨w9, hwm⟩ : ∃ W, W = wc6 := ⟨_, rfl⟩
   subst hwm
   have HD9 := Zh (HD8.out.below hbb)
   have KW9 := Zh (KW1.out.below hbb KW1.out.lt)
   have HD29 := Zh (HD28.out.below hbb)
   have KA9 := Zh (KA6.out.below hbb KA6.out.lt)
   have HD39 := Zh (HD38.out.below hbb)
   have KB9 := Zh (KB8.out.below hbb KB8.out.lt)
   have HB9 := Zt HB8 hbb
   clear hbb hb6 RS0 RS1 RS2 HD8 KW1 HD28 KA6 HD38 KB8 HB8 hD5 hF5 hX5 KWc0 KWc1 KWc2 KWc3 KAc0 KAc1 KAc2 KAc3 KBc0 KBc1 KBc2 KBc3
   obtain ⟨KWc0, KWc1, KWc2, KWc3⟩ := G.pk KW9.out
   obtain ⟨KAc0, KAc1, KAc2, KAc3⟩ := G.pk KA9.out
   obtain ⟨KBc0, KBc1, KBc2, KBc3⟩ := G.pk KB9.out
   go_wp2_with fail
   clear KWc0 KWc1 KWc2 KWc3 KAc0 KAc1 KAc2 KAc3 KBc0 KBc1 KBc2 KBc3
   have HE1 := Zh e1
   clear e1 t1 t2 d1 d2 d2' d3 d3' d3'' d4 d4' hne3 h32
   go_loopg [12] n2 (fun q i wr => ∃ j : Nat, i = .int .i64 j /\ j + q = n2 /\ Hid (Below w9.heap.size w9 wr))
   case atStart => exact ⟨0, rfl, by omega, Zh (Below.refl _ _)⟩
   case round =>
    obtain ⟨j, rfl, hjn, HLP⟩ := hrel
    have KWr := Zh (KW9.out.below HLP.out KW9.out.lt)
    have KAr := Zh (KA9.out.below HLP.out KA9.out.lt)
    have HDr := Zh (HD9.out.below HLP.out)
    have HD2r := Zh (HD29.out.below HLP.out)
    have HBr := Zh (HB9.out.trans (HLP.out.mono HB9.out.size))
    clear KW9 KA9 KB9 HD9 HD29 HD39 HB9
    obtain ⟨x0, x1, x2, x3⟩ := G.pk KWr.out
    obtain ⟨y0, y1, y2', y3'⟩ := G.pk KAr.out
    obtain ⟨qx0, qx1, qx2, qx3⟩ := G.pkq KWr.out
    obtain ⟨qy0, qy1, qy2, qy3⟩ := G.pkq KAr.out
    by_cases hlt : j < n2
    ·have d0 : decide ((j : Int) < n2) = true := by simp; omega
     obtain ⟨b, off, no, a', n', c', B, q, rfl, hb, hx, p0, p1, p2, hl, hro, hnl⟩ := G.file_at (i := p + j) HDr.out (by omega)
     obtain ⟨b2, off2, no2, a2', n2', c2', B2, q2, rfl, hb2, hx2, r0, r1, r2, hl2, hro2, hnl2⟩ := G.file_at (i := j) HD2r.out hlt
     rw [HPP.out.1, List.getElem?_append_right (by rw [HPP.out.2]; omega), HPP.out.2, Nat.add_sub_cancel_left, hx2] at hx
     simp only [Option.some.injEq, Prod.mk.injEq] at hx
     obtain ⟨rfl, rfl, rfl⟩ := hx
     have j0 : (0 : Int) <= j := by omega
     have j1 : (j : Int) < n2 := by omega
     have j2 : (0 : Int) <= (p : Int) + j := by omega
     have j3 : (p : Int) + (j : Int) < (p : Int) + n2 := by omega
     have j4 : ((p + j : Nat) : Int) < ((p + n2 : Nat) : Int) := by omega
     have q0 := G.cellq p0 hb
     have q1 := G.cellq p1 hb
     have s0 := G.cellq r0 hb2
     have s1 := G.cellq r1 hb2
     have v1 := G.convq hro hl
     have v2 := G.convq hro2 hl2
     obtain ⟨st, hst⟩ : ∃ z, zrg B2 = z := ⟨_, rfl⟩
     rw [hst] at v1 v2
     have e5 : (st.toList != st.toList) = false := by simp
     have e6 : (no2 != no2) = false := by simp
     clear hst hl hl2 hro hro2 hnl hnl2 hb hb2 p2 r2
     go_wp2_with fail
     refine wp_region_quiet_below (by kernel_rfl) (by kernel_rfl) ?_
     repeat (go_big_quiet_step (fail))
     refine wpQuiet_nil ?_
     intro _ hw'
     obtain ⟨⟨dq, osq⟩, hw''⟩ := hw'
     subst hw''
     go_wp2
     go_roundg (n2 - (j + 1))
     case rel => exact ⟨j + 1, by go_num, by omega, Zh (HLP.out.trans ((below_regrown _ _ _).mono HLP.out.size))⟩
     case measure => omega
    have d0 : decide ((j : Int) < n2) = false := by simp; omega
    obtain rfl : j = n2 := by omega
    clear qx0 qx1 qx2 qx3 qy0 qy1 qy2 qy3
    by_cases hp0 : p = 0
    ·have e2 : decide (p = 0) = true := decide_eq_true hp0
     have e3 : ((p : Int) == 0) = true := by rw [HE1.out]; exact e2
     clear e2 hp0
     go_wp2_with fail
     go_ret
     exact ⟨rfl, HBr.out⟩
    have e3 : ((p : Int) == 0) = false := by rw [HE1.out]; exact decide_eq_false hp0
    obtain ⟨qf, rf, ⟨tf, enf⟩, hq1, hq2, hq3⟩ := HHD.out hp0
    obtain ⟨b2, off2, no2, a2', n2', c2', B2, q2, rfl, hb2, hx2, r0, r1, r2, hl2, hro2, hnl2⟩ := G.file_at (i := 0) HD2r.out (by omega)
    rw [hq1] at hx2
    obtain rfl : qf = (no2, B2, q2) := by simpa using hx2
    have hsm := (D.small_may HM2.out.1).2 (no2, B2, q2) (by rw [hq1]; simp)
    have HFR : Hid (G.firstL B2 = (tf, enf, true)) := Zh (by unfold G.firstL; simp only at hq2; rw [hq2])
    simp only at hq3 hsm
    have HRO := Zh (And.intro hro2 (And.intro hnl2 (And.intro hl2 hsm)))
    have HMT := Zh (G.first_may HFR.out)
    have HQ3 := Zh hq3
    clear hq1 hq2 hq3 hx2 hro2 hnl2 hl2 hsm r0 r2
    simp only [Nat.zero_mul, Nat.add_zero] at r1
    have j1 : (0 : Int) < j := by omega
    go_wp2_with fail
    refine (G.first_any tf enf true a2' n2' c2' B2 HFR.out wr (by have h1 := HRO.out.2.2.1; have h2 := HRO.out.2.2.2; omega) HRO.out.2.2.1 HRO.out.1 HRO.out.2.1).mono ?_
    rintro e w90 ⟨xap, xnp, xcp, xal, xnl, xcl, xah, xnh, xch, rfl, hG, hb⟩
    clear hG r1 y0 y1 y2' y3' x0 x1 x2 x3
    have HB90 := Zt HBr hb
    clear hb KAr HBr HDr HD2r KWr HLP
    obtain ⟨w91, hw91, hb, hk⟩ := Zn w90 37 #[.int .i64 tf.d.b, .int .i64 tf.d.k, .int .i64 tf.d.c, .int .i64 tf.d.j, .int .i64 tf.d.lo, .int .i64 tf.d.hi, .int .i64 tf.d.dy, .int .i64 tf.d.bl, .int .i64 tf.p.q, .int .i64 tf.p.i, .int .i64 tf.p.h, .bool tf.p.pair, .int .i64 tf.now, .slice xap xnp xcp, .slice xal xnl xcl, .slice xah xnh xch]
    have HB91 := Zt HB90 hb
    have KT91 := Zh hk
    clear hb hk HB90
    obtain ⟨wz91, hz91⟩ : ∃ W, w90.alloc (.cells #[.int .i64 0, .int .i64 0, .int .i64 0, .int .i64 0, .int .i64 0, .int .i64 0, .int .i64 0, .int .i64 0, .int .i64 0, .int .i64 0, .int .i64 0, .bool false, .int .i64 0, .slice none 0 0, .slice none 0 0, .slice none 0 0] 37) = W := ⟨_, rfl⟩
    have HZK91 : Hid (Blok wz91 w90.heap.size 37 #[.int .i64 0, .int .i64 0, .int .i64 0, .int .i64 0, .int .i64 0, .int .i64 0, .int .i64 0, .int .i64 0, .int .i64 0, .int .i64 0, .int .i64 0, .bool false, .int .i64 0, .slice none 0 0, .slice none 0 0, .slice none 0 0]) := Zh (by rw [<- hz91]; exact Blok.new w90 _ _)
    have HPZ91 : Hid (wz91.setRow w90.heap.size #[.int .i64 tf.d.b, .int .i64 tf.d.k, .int .i64 tf.d.c, .int .i64 tf.d.j, .int .i64 tf.d.lo, .int .i64 tf.d.hi, .int .i64 tf.d.dy, .int .i64 tf.d.bl, .int .i64 tf.p.q, .int .i64 tf.p.i, .int .i64 tf.p.h, .bool tf.p.pair, .int .i64 tf.now, .slice xap xnp xcp, .slice xal xnl xcl, .slice xah xnh xch] = w91) := Zh (by rw [<- hz91, World.setRow_alloc_new, hw91])
    clear hw91
    have y12 := Zv KT91.out 12 (.int .i64 tf.now)
    have hmt : 0 <= tf.now /\ tf.now <= 1073741824 := HMT.out.2.2.2.1
    have hw5 : IntKind.i64.wrap (now - 1000) = now - 1000 := by have h1 := HNW.out; have h2 := HQ3.out; rw [IntKind.wrap_i64]; omega
    have d9 : decide (tf.now <= now - 1000) = true := by have h2 := HQ3.out; simp; omega
    go_wp2_with (refine Zw HZK91.out HPZ91.out ?_)
    go_ret
    exact ⟨rfl, HB91.out⟩
end Go.Proofs.YtnbkkjcmblfhpaaGreat
