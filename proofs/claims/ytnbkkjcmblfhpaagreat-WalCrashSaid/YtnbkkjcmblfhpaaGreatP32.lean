import Derived.Test.YtnbkkjcmblfhpaaGreatP22
import Derived.Test.YtnbkkjcmblfhpaaGreatP21
import Derived.Test.YtnbkkjcmblfhpaaGreatP26
import Derived.Test.YtnbkkjcmblfhpaaGreatP24
import Derived.Test.YtnbkkjcmblfhpaaGreatP25
import Derived.Test.YtnbkkjcmblfhpaaGreatP28
import Derived.Test.YtnbkkjcmblfhpaaGreatP29
namespace Go.Proofs.YtnbkkjcmblfhpaaGreat
set_option maxHeartbeats 400000
set_option maxRecDepth 100000
open Go.RowKit
theorem zyi {d : D.T} {no i e : Int} (h : zur d no = (i, e)) (he : e ≠ 0) : D.drop d no = (d, e) := by
 unfold zur at h
 unfold D.drop
 split at h
 ·rename_i hm
  rw [if_pos hm]
  cases hi : D.idx d.2 no with
  | none => simp only [hi, Prod.mk.injEq] at h ⊢; exact ⟨trivial, h.2⟩
  | some j => simp only [hi, Prod.mk.injEq] at h; exact absurd h.2.symm he
 ·rename_i hm
  rw [if_neg hm]
  simp only [Prod.mk.injEq] at h ⊢; exact ⟨trivial, h.2⟩
theorem zxc {l : List D.F} (hs : D.small l) (j : Nat) : D.small (l.take j ++ l.drop (j + 1)) := by
 refine ⟨by have := hs.1; simp; omega, fun g hg => ?_⟩
 rcases List.mem_append.1 hg with h | h
 ·exact hs.2 g (List.mem_of_mem_take h)
 ·exact hs.2 g (List.mem_of_mem_drop h)
theorem zyj (k : Int) (a : Option Addr) (n c : Nat) (no : Int) (xs : List FP) (w : World) (hd : zf0 w a n c xs) (hs : D.small (FP.files xs)) :
  Calls Tryz.prog 55 #[.agg #[.int .i64 k, .slice a n c], .int .i64 no] w (RetE any (D.drop (k, FP.files xs) no) w) := by
 have HD := Zh hd
 have HS := Zh hs
 have hcap := hd.caps
 have hml : maxLen <= 9223372036854775807 := by decide
 have KA := Zh (zf7 w k a n c)
 have KR := Zh (zf4 w k a n c)
 have X0 : Hid (Below (dbn w k a n c).heap.size (dbn w k a n c) (dbn w k a n c)) := Zh (Below.refl _ _)
 have h14 : n <= 14 := by have h1 := hs.1; simp only [FP.files_len, hd.1] at h1; exact h1
 obtain ⟨i, e0, hk⟩ : ∃ i e, zur (k, FP.files xs) no = (i, e) := ⟨_, _, rfl⟩
 have HK := Zh hk
 clear hd hs hk
 by_cases he : e0 = 0
 ·subst he
  obtain ⟨hm, j, rfl, hj⟩ := zve HK.out
  obtain ⟨hj1, hj2⟩ := D.idx_some hj
  have hjn : j < n := by rw [FP.files_len, HD.out.1] at hj1; exact hj1
  have HLT : Hid (j < xs.length) := Zh (by rw [HD.out.1]; exact hjn)
  have HU : Hid (D.drop (k, FP.files xs) no = ((k, (FP.files xs).take j ++ (FP.files xs).drop (j + 1)), 0)) := Zh (by
   unfold D.drop
   rw [if_pos hm, hj])
  clear hm hj hj1 hj2
  go_enter Tryz.func55, Tryz.ntmps55
  go_wp2_with fail
  refine (zuo k a n c no xs _ _ (dbn w k a n c) (HD.out.below (zf5 X0.out)) HK.out).mono ?_
  rintro e w1 ⟨rfl, hb1⟩
  have X1 := Zt X0 hb1
  have KA1 := Zh ((zf7 w k a n c).on X1.out)
  have KR1 := Zh ((zf4 w k a n c).on X1.out)
  clear hb1
  have k0 := dk0 KA1.out
  have k1 := dk1 KA1.out
  have hsm : D.small (FP.files (xs.take j ++ [] ++ xs.drop (j + 1))) := by
   rw [List.append_nil, FP.files_append, FP.files_take, FP.files_drop]
   exact zxc HS.out j
  go_wp2_with fail
  refine (zvp k a n c j (j + 1) _ _ none 0 0 xs [] _ rfl (by simp) (HD.out.below (zf5 X1.out)) (zf0.empty _) (by omega) (by omega) (by omega) hsm).mono ?_
  rintro e w2 ⟨a3, n3, c3, zs, rfl, HD3, HF3, HX3, hb2⟩
  clear k0 k1 hsm
  have XF := Zh (Below.trans X1.out (hb2.mono (Below.size X1.out)))
  have KRF := Zh ((zf4 w k a n c).on XF.out)
  have hsz := zuk X1.out
  have hfar : dFar (w.heap.size + 1) a3 zs := HX3.out _ (by omega) trivial
  have hfb : ∀ b, b < w.heap.size -> dFar b a3 zs := fun b hb => HX3.out b (by omega) trivial
  have r0 := dk0 KRF.out
  have r1 := dk1 KRF.out
  have f0 := KRF.out.frozen 0
  have f1 := KRF.out.frozen 1
  clear hb2 hsz
  go_wp2
  refine bodyPost_ret (zt0 (x := .int .i64 0) (g := w.heap.size + 1) rfl k a3 n3 c3 (by kernel_rfl) (by kernel_rfl) KRF.out.putD) (by kernel_rfl) ?_
  exact ⟨a3, n3, c3, zs, by rw [HU.out], Zh ((HD3.out.set hfar 0 _).set hfar 1 _), Zh (by rw [HF3.out, HU.out]; simp [FP.files_append, FP.files_take, FP.files_drop]), Zh fun b hb _ => hfb b hb, zf1 (zf5 XF.out) (Nat.le_succ _) _ _ _ _⟩
 ·have HU : Hid (D.drop (k, FP.files xs) no = ((k, FP.files xs), e0)) := Zh (zyi HK.out he)
  have hne : (e0 != 0) = true := by simpa using he
  clear he
  go_enter Tryz.func55, Tryz.ntmps55
  go_wp2_with fail
  refine (zuo k a n c no xs _ _ (dbn w k a n c) (HD.out.below (zf5 X0.out)) HK.out).mono ?_
  rintro e w1 ⟨rfl, hb1⟩
  have X1 := Zt X0 hb1
  have KA1 := Zh ((zf7 w k a n c).on X1.out)
  have KR1 := Zh ((zf4 w k a n c).on X1.out)
  clear hb1
  have k0 := dk0 KA1.out
  have k1 := dk1 KA1.out
  go_wp2_with fail
  refine (zt7 k a n c xs w1 (HD.out.below (zf5 X1.out)) HS.out).mono ?_
  rintro e w2 ⟨a3, n3, c3, zs, rfl, HD3, HF3, HX3, hb2⟩
  clear k0 k1
  have XF := Zh (Below.trans X1.out (hb2.mono (Below.size X1.out)))
  have KRF := Zh ((zf4 w k a n c).on XF.out)
  have hsz := zuk X1.out
  have hfar : dFar (w.heap.size + 1) a3 zs := HX3.out _ (by omega) trivial
  have hfb : ∀ b, b < w.heap.size -> dFar b a3 zs := fun b hb => HX3.out b (by omega) trivial
  have r0 := dk0 KRF.out
  have r1 := dk1 KRF.out
  have f0 := KRF.out.frozen 0
  have f1 := KRF.out.frozen 1
  clear hb2 hsz
  go_wp2
  refine bodyPost_ret (zt0 (x := .int .i64 e0) (g := w.heap.size + 1) rfl k a3 n3 c3 (by kernel_rfl) (by kernel_rfl) KRF.out.putD) (by kernel_rfl) ?_
  exact ⟨a3, n3, c3, zs, by rw [HU.out], Zh ((HD3.out.set hfar 0 _).set hfar 1 _), Zh (by rw [HF3.out, HU.out]), Zh fun b hb _ => hfb b hb, zf1 (zf5 XF.out) (Nat.le_succ _) _ _ _ _⟩
end Go.Proofs.YtnbkkjcmblfhpaaGreat
namespace Go.Proofs.YtnbkkjcmblfhpaaGreat
set_option maxHeartbeats 1000000
set_option maxRecDepth 100000
open Go.RowKit
namespace G
theorem drop_head {k : Int} {f : D.F} {l : List D.F} (h : D.may (k, f :: l)) : D.drop (k, f :: l) f.1 = ((k, l), 0) := by
 unfold D.drop
 rw [if_pos h]
 have h1 : D.idx (f :: l) f.1 = some 0 := by unfold D.idx; rw [List.findIdx?_cons]; simp
 simp only [h1]
 rfl
theorem may_tail {k : Int} {f : D.F} {l : List D.F} (h : D.may (k, f :: l)) : D.may (k, l) := by
 have := (D.op_may 4 f.1 0 [] [] (k, f :: l)).2 h
 rw [show D.op 4 f.1 0 [] [] (k, f :: l) = D.drop (k, f :: l) f.1 from rfl, drop_head h] at this
 exact this
theorem cut_new {l : List D.F} {now : Int} (h : isOld l now = false) : cut now l = l := by
 cases l with
 | nil => rfl
 | cons f r => unfold cut; rw [if_neg (by rw [h]; decide)]
theorem cut_old {f : D.F} {l : List D.F} {now : Int} (h : isOld (f :: l) now = true) : cut now (f :: l) = cut now l := by
 rw [cut, if_pos h]
theorem old_two {l : List D.F} {now : Int} (h : isOld l now = true) : 2 <= l.length := by
 match l, h with
 | [], h => cases h
 | [_], h => cases h
 | _ :: _ :: _, _ => simp
theorem trim_no {w : T} (now : Int) (h : ¬ may w) : trim w now = w := by unfold trim; rw [if_neg h]
theorem trim_yes {w : T} (now : Int) (h : may w) : trim w now = ((w.1.1, cut now w.1.2), w.2) := by unfold trim; rw [if_pos h]
def TrimJ (h1 : Nat) (k : Int) (a : Option Addr) (n c : Nat) (wn wt : Int) (now : Int) (z : T) (w : World) (q : Nat) (a' : Act) (w' : World) : Prop :=
 ∃ (g : Nat) (a4 : Option Addr) (n4 c4 : Nat) (ys : List FP) (u3 u6 u7 u8 u9 u10 u11 u12 u13 u14 u15 u16 u17 u18 u19 u20 u21 u22 u23 u24 u25 u26 u27 u28 u29 u30 : Value), a' = { tmps := #[.agg #[.int .i64 k, .slice a n c, .int .i64 wn, .int .i64 wt], .int .i64 now, .pointer (some ⟨w.heap.size, 0, none⟩), u3, .pointer (some ⟨h1, 0, none⟩), .pointer (some ⟨g, 0, none⟩), u6, u7, u8, u9, u10, u11, u12, u13, u14, u15, u16, u17, u18, u19, u20, u21, u22, u23, u24, u25, u26, u27, u28, u29, u30], defers := [] } /\ ys.length = q /\ h1 < g /\ Hid (Blok w' g 26 #[.int .i64 k, .slice a4 n4 c4, .int .i64 wn, .int .i64 wt]) /\ Hid (Blok w' h1 26 #[.int .i64 0, .slice none 0 0, .int .i64 0, .int .i64 0]) /\ Hid (zf0 w' a4 n4 c4 ys) /\ Hid (∀ b, b <= h1 -> dFar b a4 ys) /\ Hid (D.may (k, FP.files ys)) /\ Hid (((k, cut now (FP.files ys)), wn, wt) = z) /\ Hid (Below w.heap.size w w')
end G
theorem G.trim_any (k : Int) (a : Option Addr) (n c : Nat) (wn wt : Int) (now : Int) (xs : List FP) (w : World) (hd : zf0 w a n c xs) (hs : D.small (FP.files xs)) :
  Calls Tryz.prog 20 #[.agg #[.int .i64 k, .slice a n c, .int .i64 wn, .int .i64 wt], .int .i64 now] w (G.RetW (G.trim ((k, FP.files xs), wn, wt) now) w) := by
 have HB0 := Zh (Below.refl w.heap.size w)
 have HD0 := Zh (hd)
 have HS := Zh hs
 obtain ⟨mv, hmv⟩ : ∃ b, decide (G.may ((k, FP.files xs), wn, wt)) = b := ⟨_, rfl⟩
 have HMV := Zh hmv
 clear hd hs hmv
 obtain ⟨z, hz⟩ : ∃ z, G.trim ((k, FP.files xs), wn, wt) now = z := ⟨_, rfl⟩
 have HZ := Zh hz
 clear hz
 obtain ⟨w1, hw1, hb, hk⟩ := Zn w 26 #[.int .i64 k, .slice a n c, .int .i64 wn, .int .i64 wt]
 have HD1 := Zh (HD0.out.below hb)
 have HB1 := Zt HB0 hb
 have KW1 := Zh hk
 clear hb hk HD0 HB0
 have HW1 : Hid (w.heap.size <= w1.heap.size) := Zh HB1.out.size
 obtain ⟨w2, hw2, hb, hk⟩ := Zn w1 26 #[.int .i64 0, .slice none 0 0, .int .i64 0, .int .i64 0]
 have HD2 := Zh (HD1.out.below hb)
 replace KW1 := Zk KW1 hb
 have HB2 := Zt HB1 hb
 have KR2 := Zh hk
 clear hb hk HD1 HB1
 go_enter Tryz.func20, Tryz.ntmps20
 go_wp2_with fail
 try rw [hw1]
 try rw [hw2]
 clear hw1 hw2
 refine zn6 0 (G.TrimJ w1.heap.size k a n c wn wt now z w) rfl ?pass ?first
 case first =>
  have HWL : Hid (w.heap.size <= w2.heap.size) := Zh HB2.out.size
  have HKL := Zh KR2.out.lt
  intro hpass
  obtain ⟨x0, x1, x2, x3⟩ := G.pk KW1.out
  go_wp2_with fail
  refine (G.own_any k a n c wn wt xs w2 HD2.out HS.out).mono ?_
  rintro e w3 ⟨a3, n3, c3, zs, rfl, HDq, HF3, HX3, hb⟩
  have HD3 := Zh (HD2.out.below hb)
  replace KW1 := Zk KW1 hb
  have KR3 := Zk KR2 hb
  have HB3 := Zt HB2 hb
  clear hb HD2 KR2 HB2
  have HDD3 := HDq
  clear x0 x1 x2 x3 HDq
  have HLR := Zh KR3.out.lt
  have HX4 : Hid (∀ b, b <= w1.heap.size -> dFar b a3 zs) := Zh (fun b hb => HX3.out b (Nat.lt_of_le_of_lt hb HKL.out))
  obtain ⟨w4, hw4, hb, hk⟩ := Zn w3 26 #[.int .i64 k, .slice a3 n3 c3, .int .i64 wn, .int .i64 wt]
  have HD4 := Zh (HD3.out.below hb)
  replace KW1 := Zk KW1 hb
  have KR4 := Zk KR3 hb
  replace HDD3 := Zh (HDD3.out.below hb)
  have HB4 := Zt HB3 hb
  have KT4 := Zh hk
  clear hb hk HD3 KR3 HB3
  obtain ⟨wz4, hz4⟩ : ∃ W, w3.alloc (.cells #[.int .i64 0, .slice none 0 0, .int .i64 0, .int .i64 0] 26) = W := ⟨_, rfl⟩
  have HZK4 : Hid (Blok wz4 w3.heap.size 26 #[.int .i64 0, .slice none 0 0, .int .i64 0, .int .i64 0]) := Zh (by rw [<- hz4]; exact Blok.new w3 _ _)
  have HPZ4 : Hid (wz4.setRow w3.heap.size #[.int .i64 k, .slice a3 n3 c3, .int .i64 wn, .int .i64 wt] = w4) := Zh (by rw [<- hz4, World.setRow_alloc_new, hw4])
  clear hw4
  obtain ⟨x0, x1, x2, x3⟩ := G.pk KW1.out
  go_wp2_with (refine Zw HZK4.out HPZ4.out ?_)
  refine (G.may_any k a n c wn wt xs mv w4 HD4.out HMV.out).mono ?_
  rintro e w5 ⟨rfl, hb⟩
  have HD5 := Zh (HD4.out.below hb)
  replace KW1 := Zk KW1 hb
  have KR5 := Zk KR4 hb
  replace HDD3 := Zh (HDD3.out.below hb)
  have KT5 := Zk KT4 hb
  have HB5 := Zt HB4 hb
  clear hb HD4 KR4 KT4 HB4
  clear x0 x1 x2 x3
  cases mv with
  | false =>
   have HKT := KT5
   have HLE : Hid (w.heap.size <= w2.heap.size) := HWL
   obtain ⟨w6, hp6⟩ : ∃ W, w5.setRow (w1.heap.size) #[.int .i64 k, .slice a3 n3 c3, .int .i64 wn, .int .i64 wt] = W := ⟨_, rfl⟩
   have hg6 : w5.grownBy w6 (some (w1.heap.size)) := by rw [<- hp6]; exact zbr _ _ _
   have HP6 := Zh hp6
   have KR6 : Hid (Blok w6 (w1.heap.size) 26 #[.int .i64 k, .slice a3 n3 c3, .int .i64 wn, .int .i64 wt]) := Zh (by rw [<- hp6]; exact KR5.out.put _)
   have HDD6 := Zh (G.disk_grown HDD3.out (HX4.out _ (Nat.le_refl _)) hg6)
   have HB6 := Zh (HB5.out.grown hg6 HB5.out.size (fun q hq => by cases hq; exact HW1.out))
   clear hp6 hg6 HD5 KW1 HDD3 KT5 HB5
   go_wp2_with (first | (refine Zw KR5.out HP6.out ?_) | (refine zak HKT.out rfl rfl (by kernel_rfl) Tryz.underlying26 rfl (by kernel_rfl) ?_))
   refine bodyPost_ret (G.ret_wal rfl w1.heap.size (by kernel_rfl) KR6.out) rfl ?_
   rw [G.trim_no now (of_decide_eq_false HMV.out)]
   exact ⟨a3, n3, c3, zs, rfl, HDD6, HF3, Zh (fun b hb => HX3.out b (Nat.lt_of_lt_of_le hb HLE.out)), HB6.out⟩
  | true =>
   have HM := Zh (of_decide_eq_true HMV.out)
   go_wp2
   go_step3
   refine (by assumption : ∀ (a : Act) (w : World), Code.wp _ _ _ a w -> _) _ _ ?_
   refine hpass zs.length _ _ ⟨w3.heap.size, a3, n3, c3, zs, _, _, _, _, _, _, _, _, _, _, _, _, _, _, _, _, _, _, _, _, _, _, _, _, _, _, rfl, rfl, HLR.out, KT5, KR5, HDD3, HX4, Zh ?_, Zh ?_, HB5⟩
   ·rw [HF3.out]; exact HM.out.1
   ·rw [HF3.out, <- HZ.out, G.trim_yes now HM.out]
 case pass =>
  rintro q a' w' ⟨g, a4, n4, c4, ys, u3, u6, u7, u8, u9, u10, u11, u12, u13, u14, u15, u16, u17, u18, u19, u20, u21, u22, u23, u24, u25, u26, u27, u28, u29, u30, rfl, hq, hg, KT, KZ, HE, HX, HM, HC, HB⟩
  have HSM := Zh (D.small_may HM.out)
  obtain ⟨v, hv⟩ : ∃ v, G.isOld (FP.files ys) now = v := ⟨_, rfl⟩
  have HV := Zh hv
  clear hv HD2 KW1 KR2 HB2
  have HG := Zh hg
  clear hg
  obtain ⟨x0, x1, x2, x3⟩ := G.pk KT.out
  go_wp2_with fail
  refine (G.old_any now v a4 n4 c4 ys w' HE.out HSM.out HV.out).mono ?_
  clear x0 x1 x2 x3
  rintro e w3 ⟨rfl, hb⟩
  have KT3 := Zk KT hb
  have KR3 := Zk KZ hb
  have HD3 := Zh (HE.out.below hb)
  have HB3 := Zt HB hb
  clear hb KT KZ HE HB
  cases v with
  | false =>
   have HKT := KT3
   obtain ⟨w4, hp4⟩ : ∃ W, w3.setRow (w1.heap.size) #[.int .i64 k, .slice a4 n4 c4, .int .i64 wn, .int .i64 wt] = W := ⟨_, rfl⟩
   have hg4 : w3.grownBy w4 (some (w1.heap.size)) := by rw [<- hp4]; exact zbr _ _ _
   have HP4 := Zh hp4
   have KR4 : Hid (Blok w4 (w1.heap.size) 26 #[.int .i64 k, .slice a4 n4 c4, .int .i64 wn, .int .i64 wt]) := Zh (by rw [<- hp4]; exact KR3.out.put _)
   have HD4 := Zh (G.disk_grown HD3.out (HX.out _ (Nat.le_refl _)) hg4)
   have HB4 := Zh (HB3.out.grown hg4 HB3.out.size (fun q hq => by cases hq; exact HW1.out))
   clear hp4 hg4 KT3 HD3 HB3
   go_wp2_with (first | (refine Zw KR3.out HP4.out ?_) | (refine zak HKT.out rfl rfl (by kernel_rfl) Tryz.underlying26 rfl (by kernel_rfl) ?_))
   change bodyPost _ _ _ Exit.ret _ _
   refine bodyPost_ret (G.ret_wal rfl w1.heap.size (by kernel_rfl) KR4.out) rfl ?_
   have hz2 : ((k, FP.files ys), wn, wt) = z := by rw [<- HC.out, G.cut_new HV.out]
   rw [HZ.out, <- hz2]
   exact ⟨a4, n4, c4, ys, rfl, HD4, Zh rfl, Zh (fun b hb => HX.out b (Nat.le_of_lt (Nat.lt_of_lt_of_le hb HW1.out))), HB4.out⟩
  | true =>
   have h2 := G.old_two HV.out
   rw [FP.files_len] at h2
   obtain ⟨y0, rest, rfl⟩ : ∃ y r, ys = y :: r := by
    cases ys with
    | nil => simp at h2
    | cons y r => exact ⟨y, r, rfl⟩
   obtain ⟨no, yn⟩ : ∃ x, x = y0.no := ⟨_, rfl⟩
   have hn4 : rest.length + 1 = n4 := HD3.out.1
   obtain ⟨b, off, no, a', n', c', B, s, rfl, hlt, hx, p0, p1, p2, hok⟩ := HD3.out.2.1.at (i := 0) (by simp)
   obtain rfl : y0 = ⟨no, a', n', c', B, s⟩ := by simpa using hx
   clear hx hok p1 p2
   simp only [Nat.zero_mul, Nat.add_zero] at p0
   have HP0 := Zh p0
   have hcap := HD3.out.caps
   have hml : maxLen <= 9223372036854775807 := by decide
   have HN4 := Zh hn4
   have j1 : (0 : Int) < n4 := by omega
   have hp := fun W hW => zyj k (some ⟨b, off, none⟩) n4 c4 no (⟨no, a', n', c', B, s⟩ :: rest) W hW HSM.out
   have hdr : D.drop (k, FP.files (⟨no, a', n', c', B, s⟩ :: rest)) no = ((k, FP.files rest), 0) := G.drop_head HM.out
   rw [hdr] at hp
   clear hdr
   obtain ⟨x0, x1, x2, x3⟩ := G.pk (KT3.out.below (zaa w3) KT3.out.lt)
   have p9 : (World.drew w3).cell? ⟨b, off, none⟩ = some (.int .i64 no) := ((zaa w3).cell (p := ⟨b, off, none⟩) hlt).trans p0
   clear p0 hlt hn4
   go_wp2_with fail
   go_region_with (go_at_call 55; refine (hp _ (HD3.out.below (zaa w3))).mono ?_; rintro e w4 ⟨a5, n5, c5, zs, rfl, HD4, HF4, HX4, hb4⟩; have hb := (zaa w3).trans hb4; have KT4 := Zh (KT3.out.below hb KT3.out.lt); have KR4 := Zh (KR3.out.below hb KR3.out.lt); have HB4 := Zh (HB3.out.trans (hb.mono HB3.out.size)); have HLT := Zh (And.intro KT3.out.lt KR3.out.lt); clear hb4 hb x0 x1 x2 x3 p9; obtain ⟨y0, y1, y2, y3⟩ := G.pk KT4.out; have f0 := KT4.out.frozen 0; have f1 := KT4.out.frozen 1)
   all_goals (
    have KT5 := Zh (G.put2 KT4.out (.int .i64 k) (.slice a5 n5 c5))
    have HD5 := Zh (G.set_far HD4.out (HX4.out g HLT.out.1 trivial) (.int .i64 k) (.slice a5 n5 c5))
    have HG5 := Zh (G.put2_grown (w := w4) (g := g) (.int .i64 k) (.slice a5 n5 c5))
    have KR5 := Zh (KR4.out.grown HG5.out (fun e => by have := HG.out; simp only [Option.some.injEq] at e; omega))
    have HB5 := Zh (HB4.out.grown HG5.out HB4.out.size (fun q hq => by cases hq; have := HG.out; have h3 := HW1.out; omega))
    have HZL : Hid (zs.length = rest.length) := Zh (by have h1 : FP.files zs = FP.files rest := HF4.out; rw [<- FP.files_len, h1, FP.files_len])
    have HX5 : Hid (∀ b, b <= w1.heap.size -> dFar b a5 zs) := Zh (fun b hb => HX4.out b (Nat.lt_of_le_of_lt hb HLT.out.2) trivial)
    clear y0 y1 y2 y3 f0 f1 hp HG5
    go_wp2
    go_step3
    refine ⟨rfl, rest.length, by simp at hq; omega, g, a5, n5, c5, zs, _, _, _, _, _, _, _, _, _, _, _, _, _, _, _, _, _, _, _, _, _, _, _, _, _, _, rfl, HZL.out, HG.out, KT5, KR5, HD5, HX5, Zh ?_, Zh ?_, HB5⟩
    ·have h1 : FP.files zs = FP.files rest := HF4.out; rw [h1]; exact G.may_tail HM.out
    ·have h1 : FP.files zs = FP.files rest := HF4.out; rw [h1, <- HC.out]; exact congrArg (fun l => ((k, l), wn, wt)) (G.cut_old HV.out).symm)
end Go.Proofs.YtnbkkjcmblfhpaaGreat
namespace Go.Proofs.YtnbkkjcmblfhpaaGreat
namespace D
theorem crashed_sure : ∀ (l : List F) (ps : List Int), (∀ f ∈ l, f.2.2 = (f.2.1.length : Int)) -> crashed l ps = l
 | [], _, _ => rfl
 | f :: l, ps, h => by
  rw [crashed, if_pos (h f (by simp)), crashed_sure l ps (fun g hg => h g (by simp [hg]))]
end D
end Go.Proofs.YtnbkkjcmblfhpaaGreat
namespace Go.Proofs.YtnbkkjcmblfhpaaGreat
namespace G
open D
theorem steps_may {d : D.T} (no : Int) (b : List Int) (j : Nat) (h : D.may d) : D.may (steps no b j d).1 := by
 have m0 := (D.op_may 0 no 0 [] [] d).2 h
 have m1 : ∀ x : D.T, D.may x -> D.may (D.write x no b).1 := fun x hx => (D.op_may 1 no 0 b [] x).2 hx
 have m2 : ∀ x : D.T, D.may x -> D.may (D.sync x no).1 := fun x hx => (D.op_may 2 no 0 [] [] x).2 hx
 change D.may (D.make d no).1 at m0
 match j with
 | 0 =>
  simp only [steps]
  split
  ·split
   ·exact m2 _ (m1 _ m0)
   ·exact m1 _ m0
  ·exact m0
 | 1 =>
  simp only [steps]
  split
  ·exact m2 _ (m1 _ h)
  ·exact m1 _ h
 | 2 => exact m2 _ h
 | _ + 3 => exact h
theorem new_cases (d : D.T) (s : Y.St) : ((new d s).2 ≠ 0 /\ (new d s).1 = zw) \/ ∃ b, J.put s = some b /\ D.may d /\ last d < 1073741824 /\ new d s = (((d.1, d.2 ++ [(last d + 1, recS s, ((recS s).length : Int))]), last d + 1, s.now), 0) := by
 cases hp : J.put s with
 | none => exact .inl (by rw [zm4 (by rw [hp]; rfl)]; exact ⟨by show (1 : Int) ≠ 0; decide, rfl⟩)
 | some b =>
  have h1 : (J.put s).isSome = true := by rw [hp]; rfl
  have hs := steps0_eq d (recS s)
  by_cases hm : D.may d /\ last d < 1073741824
  ·rw [if_pos hm] at hs
   by_cases h12 : d.2.length = 12
   ·rw [if_pos h12] at hs
    exact .inl (by rw [new_err h1 hs (by decide)]; exact ⟨by show (9 : Int) ≠ 0; decide, rfl⟩)
   ·rw [if_neg h12] at hs
    by_cases hc : d.1 < ((used d.2 + (recS s).length : Nat) : Int)
    ·rw [if_pos hc] at hs
     exact .inl (by rw [new_err h1 hs (by decide)]; exact ⟨by show (9 : Int) ≠ 0; decide, rfl⟩)
    ·rw [if_neg hc] at hs
     exact .inr ⟨b, rfl, hm.1, hm.2, by rw [new_ok h1 hs, next_may hm.1]⟩
  ·rw [if_neg hm] at hs
   exact .inl (by rw [new_err h1 hs (by decide)]; exact ⟨by show (1 : Int) ≠ 0; decide, rfl⟩)
theorem new_may {d : D.T} {s : Y.St} (h : (new d s).2 = 0) : may (new d s).1 := by
 rcases new_cases d s with h1 | ⟨b, hp, hm, hl, he⟩
 ·exact absurd h h1.1
 ·have h1 : (J.put s).isSome = true := by rw [hp]; rfl
  have h2 := steps_may (next d) (recS s) 0 hm
  have h3 : (new d s).1.1 = (steps (next d) (recS s) 0 d).1 := by
   unfold new at h ⊢
   rw [h1, if_pos rfl] at h ⊢
   split
   ·rfl
   ·rename_i h4; rw [if_neg h4] at h; exact absurd h h4
  rw [<- h3] at h2
  have h5 := (J.zc7.1 hp).1.1.2.2.2.1
  rw [he] at h2 ⊢
  exact ⟨h2, by simp, (last_snoc d.1 d.2 (last d + 1, recS s, ((recS s).length : Int))).symm, h5.1, h5.2⟩
theorem add_cases {w : T} (l : List Y.Ev) (hw : may w) : ((add w l).2 ≠ 0 /\ (add w l).1 = w) \/ ∃ m f, w.1 = (w.1.1, m ++ [f]) /\ f.1 = w.2.1 /\ 6 <= (recE w l).length /\ add w l = (((w.1.1, m ++ [(f.1, f.2.1 ++ recE w l, ((f.2.1 ++ recE w l).length : Int))]), w.2.1, N.last w.2.2 l), 0) /\ N.tick (N.last w.2.2 l) := by
 by_cases hc : canAdd w l
 ·obtain ⟨m, f, hf⟩ := snoc_of hw.2.1
  have hd : w.1 = (w.1.1, m ++ [f]) := by rw [<- hf]
  have hn : f.1 = w.2.1 := by have h1 := hw.2.2.1; rw [hd, last_snoc] at h1; exact h1.symm
  have hm : D.may (w.1.1, m ++ [f]) := by rw [<- hd]; exact hw.1
  have hs := steps1_eq (recE w l) hm
  rw [<- hd, hn] at hs
  by_cases hf9 : w.1.1 < ((used (m ++ [f]) + (recE w l).length : Nat) : Int)
  ·rw [if_pos hf9] at hs
   exact .inl (by rw [add_err hc hs (by decide)]; exact ⟨by show (9 : Int) ≠ 0; decide, rfl⟩)
  ·rw [if_neg hf9] at hs
   refine .inr ⟨m, f, hd, hn, (R.bytes_big hc.2.2.2).1, ?_, ?_⟩
   ·rw [add_ok hc hs, hn]
   ·have h1 := hc.2.2.1
    unfold N.put at h1
    split at h1
    ·rename_i h2; exact N.last_tick _ _ h2.1 h2.2
    ·cases h1
 ·exact .inl (by rw [add_no hc]; exact ⟨by show (1 : Int) ≠ 0; decide, rfl⟩)
theorem add_may {w : T} (l : List Y.Ev) (hw : may w) : may (add w l).1 := by
 rcases add_cases l hw with h1 | ⟨m, f, hd, hn, h6, he, ht⟩
 ·rw [h1.2]; exact hw
 ·have hc : canAdd w l := by
   by_cases hc : canAdd w l
   ·exact hc
   ·rw [add_no hc] at he; have := congrArg Prod.snd he; exact absurd this (by show (1 : Int) ≠ 0; decide)
  have h2 := steps_may w.2.1 (recE w l) 1 hw.1
  have h3 : (add w l).1.1 = (steps w.2.1 (recE w l) 1 w.1).1 := by
   have h4 : (add w l).2 = 0 := by rw [he]
   unfold add at h4 ⊢
   rw [if_pos hc] at h4 ⊢
   split
   ·rfl
   ·rename_i h5; rw [if_neg h5] at h4; exact absurd h4 h5
  rw [<- h3] at h2
  rw [he] at h2 ⊢
  exact ⟨h2, by simp, by rw [last_snoc]; exact hn.symm, ht.1, ht.2⟩
theorem turn_cases (w : T) (s : Y.St) : (turn w s).1 = w \/ ((turn w s).2 = 0 /\ (new w.1 s).2 = 0 /\ (turn w s).1 = (new w.1 s).1) := by
 unfold turn
 split
 ·split
  ·exact .inl rfl
  ·split
   ·rename_i h; exact .inr ⟨rfl, h, rfl⟩
   ·exact .inl rfl
 ·exact .inl rfl
theorem turn_err_same {w : T} {s : Y.St} (h : (turn w s).2 ≠ 0) : (turn w s).1 = w := by
 rcases turn_cases w s with h1 | h1
 ·exact h1
 ·exact absurd h1.1 h
theorem turn_may {w : T} (s : Y.St) (hw : may w) : may (turn w s).1 := by
 rcases turn_cases w s with h1 | h1
 ·rw [h1]; exact hw
 ·rw [h1.2.2]; exact new_may h1.2.1
def sure (d : D.T) : Prop := ∀ f ∈ d.2, f.2.2 = (f.2.1.length : Int)
theorem new_sure {d : D.T} (s : Y.St) (h : sure d) : sure (new d s).1.1 := by
 rcases new_cases d s with h1 | ⟨b, _, _, _, he⟩
 ·rw [h1.2]; exact fun _ hf => nomatch hf
 ·rw [he]
  intro f hf
  rcases List.mem_append.1 hf with h2 | h2
  ·exact h f h2
  ·simp only [List.mem_singleton] at h2; subst h2; rfl
theorem add_sure {w : T} (l : List Y.Ev) (hw : may w) (h : sure w.1) : sure (add w l).1.1 := by
 rcases add_cases l hw with h1 | ⟨m, f, hd, hn, h6, he, ht⟩
 ·rw [h1.2]; exact h
 ·rw [he]
  intro g hg
  rcases List.mem_append.1 hg with h2 | h2
  ·exact h g (by rw [hd]; exact List.mem_append.2 (.inl h2))
  ·simp only [List.mem_singleton] at h2; subst h2; rfl
theorem turn_sure {w : T} (s : Y.St) (h : sure w.1) : sure (turn w s).1.1 := by
 rcases turn_cases w s with h1 | h1
 ·rw [h1]; exact h
 ·rw [h1.2.2]; exact new_sure s h
theorem crash_sure {d : D.T} (ps : List Int) (h : sure d) : D.crash d ps = d := by
 unfold D.crash
 split
 ·rw [D.crashed_sure _ _ h]
 ·rfl
theorem cut_suffix (now : Int) : ∀ l : List F, ∃ p, l = p ++ cut now l /\ (l ≠ [] -> cut now l ≠ [])
 | [] => ⟨[], rfl, fun h => absurd rfl h⟩
 | f :: l => by
  by_cases h : isOld (f :: l) now = true
  ·obtain ⟨p, h1, h2⟩ := cut_suffix now l
   rw [cut_old h]
   exact ⟨f :: p, by rw [List.cons_append, <- h1], fun _ => h2 (fun e => by have := old_two h; rw [e] at this; simp at this)⟩
  ·rw [cut_new (by simpa using h)]
   exact ⟨[], rfl, fun h => h⟩
theorem cut_not_old (now : Int) : ∀ l : List F, isOld (cut now l) now = false
 | [] => rfl
 | f :: l => by
  by_cases h : isOld (f :: l) now = true
  ·rw [cut_old h]; exact cut_not_old now l
  ·rw [cut_new (by simpa using h)]; simpa using h
theorem cut_idem (now : Int) (l : List F) : cut now (cut now l) = cut now l := cut_new (cut_not_old now l)
theorem old_later {l : List F} {now later : Int} (hl : now <= later) (h : isOld l now = true) : isOld l later = true := by
 match l, h with
 | q :: g :: r, h =>
  have e : ∀ t, isOld (q :: g :: r) t = (match first g.2.1 with | some x => decide (x.1.now + 1000 <= t) | none => false) := fun _ => rfl
  rw [e] at h ⊢
  cases hf : first g.2.1 with
  | none => rw [hf] at h; cases h
  | some x => rw [hf] at h; simp only [decide_eq_true_eq] at h ⊢; omega
theorem cut_later {now later : Int} (hl : now <= later) : ∀ l : List F, cut later (cut now l) = cut later l
 | [] => rfl
 | f :: l => by
  by_cases h : isOld (f :: l) now = true
  ·rw [cut_old h, cut_old (old_later hl h)]; exact cut_later hl l
  ·rw [cut_new (now := now) (l := f :: l) (by simpa using h)]
theorem cut_len {now later : Int} (hl : now <= later) (l : List F) : (cut later l).length <= (cut now l).length := by
 rw [<- cut_later hl l]
 obtain ⟨p, h1, _⟩ := cut_suffix later (cut now l)
 have := congrArg List.length h1
 rw [List.length_append] at this
 omega
theorem cut_head (now : Int) : ∀ l : List F, l.length ≠ (cut now l).length -> ∃ g r x, cut now l = g :: r /\ first g.2.1 = some x /\ x.1.now + 1000 <= now
 | [], h => absurd rfl h
 | [f], h => absurd rfl (by
   rw [cut_new (now := now) (l := [f]) rfl] at h
   exact h)
 | f :: g :: r, h => by
  by_cases ho : isOld (f :: g :: r) now = true
  ·rw [cut_old ho]
   by_cases h2 : (g :: r).length = (cut now (g :: r)).length
   ·have h3 : cut now (g :: r) = g :: r := by
     obtain ⟨p, h1, _⟩ := cut_suffix now (g :: r)
     have h4 := congrArg List.length h1
     rw [List.length_append] at h4
     have : p = [] := List.eq_nil_of_length_eq_zero (by omega)
     rw [this, List.nil_append] at h1
     exact h1.symm
    have e : isOld (f :: g :: r) now = (match first g.2.1 with | some x => decide (x.1.now + 1000 <= now) | none => false) := rfl
    rw [e] at ho
    cases hf : first g.2.1 with
    | none => rw [hf] at ho; cases ho
    | some x => rw [hf] at ho; exact ⟨g, r, x, h3, hf, of_decide_eq_true ho⟩
   ·exact cut_head now (g :: r) h2
  ·rw [cut_new (by simpa using ho)] at h
   exact absurd rfl h
theorem cut_may {k : Int} (now : Int) : ∀ {l : List F}, D.may (k, l) -> D.may (k, cut now l)
 | [], h => h
 | f :: l, h => by
  by_cases ho : isOld (f :: l) now = true
  ·rw [cut_old ho]; exact cut_may now (may_tail h)
  ·rw [cut_new (by simpa using ho)]; exact h
theorem trim_may {w : T} (now : Int) (hw : may w) : may (trim w now) := by
 rw [trim_yes now hw]
 obtain ⟨⟨k, l⟩, wn, wt⟩ := w
 obtain ⟨h1, h2, h3, h4⟩ := hw
 obtain ⟨p, hp, hne⟩ := cut_suffix now l
 refine ⟨cut_may now h1, hne h2, ?_, h4⟩
 obtain ⟨m, f, hf⟩ := snoc_of (hne h2)
 show wn = last (k, cut now l)
 rw [hf, last_snoc]
 have h5 : wn = last (k, l) := h3
 rw [h5, hp, hf, <- List.append_assoc, last_snoc]
end G
end Go.Proofs.YtnbkkjcmblfhpaaGreat
namespace Go.Proofs.YtnbkkjcmblfhpaaGreat
open Go.RowKit
theorem zxd (m : Int) (t : Nat) (w : World) :
  Calls Tryz.prog 77 #[.int .i64 m, .int .i64 (t : Int)] w fun e w' => e = .returned (.int .i64 ((D.kept m t : Nat) : Int)) /\ w = w' := by
 by_cases h0 : m < 0
 ·have HK : Hid (D.kept m t = 0) := Zh (by unfold D.kept; rw [if_pos h0])
  have d0 : decide (m < 0) = true := by simp; omega
  clear h0
  go_enter Tryz.func77, Tryz.ntmps77
  go_wp2
  go_ret
  exact ⟨by rw [HK.out]; rfl, rfl⟩
 ·have d0 : decide (m < 0) = false := by simp; omega
  by_cases h1 : (t : Int) < m
  ·have HK : Hid (D.kept m t = t) := Zh (by unfold D.kept; rw [if_neg h0, if_pos h1])
   have d1 : decide ((t : Int) < m) = true := by simp; omega
   clear h0 h1
   go_enter Tryz.func77, Tryz.ntmps77
   go_wp2
   go_ret
   exact ⟨by rw [HK.out]; rfl, rfl⟩
  ·have HK : Hid (((D.kept m t : Nat) : Int) = m) := Zh (by unfold D.kept; rw [if_neg h0, if_neg h1]; omega)
   have d1 : decide ((t : Int) < m) = false := by simp; omega
   clear h0 h1
   go_enter Tryz.func77, Tryz.ntmps77
   go_wp2
   go_ret
   exact ⟨by rw [HK.out]; rfl, rfl⟩
structure PickAt (w : World) (g0 g1 : Nat) (i : Nat) (a : Option Addr) (n c : Nat) (ps : List Int) : Prop where
 ne : g0 ≠ g1
 at_ : Blok w g0 3 #[.int .i64 (i : Int)]
 list : Blok w g1 74 #[.slice a n c]
 len : ps.length = n
 row : zfv .i64 w a c ps
 le : i <= n
 far : ∀ b off, a = some ⟨b, off, none⟩ -> ps ≠ [] -> b ≠ g0
theorem PickAt.on {w w' : World} {g0 g1 i : Nat} {a : Option Addr} {n c : Nat} {ps : List Int} (h : PickAt w g0 g1 i a n c ps) (hb : Below w.heap.size w w') : PickAt w' g0 g1 i a n c ps := ⟨h.ne, h.at_.on hb, h.list.on hb, h.len, h.row.below hb, h.le, h.far⟩
theorem zxe (a : Option Addr) (n c : Nat) (ps : List Int) (w : World) (hl : ps.length = n) (hr : zfv .i64 w a c ps) :
  Calls Tryz.prog 76 #[.slice a n c] w fun e w' => ∃ g0 g1, e = .returned (.func (.func 149) #[] #[.pointer (some ⟨g0, 0, none⟩), .pointer (some ⟨g1, 0, none⟩)]) /\ (w.heap.size <= g0 /\ w.heap.size <= g1) /\ PickAt w' g0 g1 0 a n c ps /\ Below w.heap.size w w' := by
 have HL := Zh hl
 have HR := Zh hr
 clear hl hr
 go_enter Tryz.func76, Tryz.ntmps76
 go_wp2
 go_ret
 have h1 : Below w.heap.size w (w.alloc (.cells #[.slice a n c] 74)) := (Below.refl _ w).alloc (Nat.le_refl _) _
 have h2 : Below w.heap.size w ((w.alloc (.cells #[.slice a n c] 74)).alloc (.cells #[.int .i64 0] 3)) := h1.alloc (by simp) _
 have hz : (w.alloc (.cells #[.slice a n c] 74)).heap.size = w.heap.size + 1 := by simp
 exact ⟨w.heap.size + 1, w.heap.size, rfl, ⟨Nat.le_succ _, Nat.le_refl _⟩, ⟨by omega, by rw [<- hz]; exact Blok.new (w.alloc (.cells #[.slice a n c] 74)) 3 #[.int .i64 0], (Blok.new w 74 #[.slice a n c]).alloc _, HL.out, HR.out.below h2, Nat.zero_le _, fun b off ha h0 hb => by
  rcases HR.out.2.2 with h3 | ⟨b', off', he, hlt, _⟩
  ·exact h0 h3
  ·rw [ha] at he; cases he; omega⟩, h2⟩
theorem zwt (g0 g1 i : Nat) (a : Option Addr) (n c : Nat) (ps : List Int) (q : Int) (w : World) (h9 : n <= 1000) (h : PickAt w g0 g1 i a n c ps) (hq : ps.getD i 0 = q) :
  Calls Tryz.prog 149 #[.pointer (some ⟨g0, 0, none⟩), .pointer (some ⟨g1, 0, none⟩)] w fun e w' => e = .returned (.int .i64 q) /\ (∃ j, ps.drop j = (ps.drop i).drop 1 /\ PickAt w' g0 g1 j a n c ps) /\ w.grownBy w' (some g0) := by
 have H := Zh h
 have k0 := Zv h.at_ 0 (.int .i64 (i : Int))
 have k1 := Zv h.list 0 (.slice a n c)
 have f0 := h.at_.frozen 0
 have hi := h.le
 by_cases hin : i = n
 ·have HG : Hid (q = 0) := Zh (by rw [<- hq]; simp [List.getD_eq_getElem?_getD, h.len, hin])
  have HJ : Hid (ps.drop i = (ps.drop i).drop 1) := Zh (by rw [List.drop_eq_nil_of_le (by rw [h.len]; omega)]; rfl)
  have hne : ((i : Int) == (n : Int)) = true := by simp; omega
  clear h hq hin
  go_enter Tryz.func149, Tryz.ntmps149
  go_wp2
  go_ret
  exact ⟨by rw [HG.out]; rfl, ⟨i, HJ.out, H.out⟩, rfl, rfl, rfl, Nat.le_refl _, fun _ _ _ => rfl⟩
 ·have hne : ((i : Int) == (n : Int)) = false := by simp; omega
  have hlt : i < n := by omega
  obtain ⟨b, off, rfl, hb, hc⟩ := zl4 h.row (i := i) (by rw [h.len]; exact hlt)
  rw [hq] at hc
  have HJ : Hid (ps.drop (i + 1) = (ps.drop i).drop 1) := Zh (by rw [List.drop_drop])
  have hg := zf3 w g0 0 (.int .i64 ((i : Int) + 1))
  have hbne : b ≠ g0 := h.far b off rfl (fun h0 => by have := h.len; rw [h0] at this; simp at this; omega)
  have hw : IntKind.i64.wrap ((i : Int) + 1) = (i : Int) + 1 := zf9 (by omega) (by omega)
  have hw2 : (i : Int) + 1 - 1 = (i : Int) := by omega
  have A1 : Blok (w.setCell ⟨g0, 0, none⟩ (.int .i64 ((i : Int) + 1))) g0 3 #[.int .i64 ((i + 1 : Nat) : Int)] := by simpa using h.at_.set 0 (.int .i64 ((i : Int) + 1))
  have A2 := h.list.grown hg (by simpa using (Ne.symm h.ne))
  have HR := zwd h.row (.inr (fun x hx => by cases hx; exact hbne)) 0 (.int .i64 ((i : Int) + 1))
  have q0 : (w.setCell ⟨g0, 0, none⟩ (.int .i64 ((i : Int) + 1))).cell? ⟨g0, 0, none⟩ = some (.int .i64 ((i : Int) + 1)) := by simpa using A1.cell 0
  have q1 : (w.setCell ⟨g0, 0, none⟩ (.int .i64 ((i : Int) + 1))).cell? ⟨g1, 0, none⟩ = some (.slice (some ⟨b, off, none⟩) n c) := A2.cell 0
  have q2 : (w.setCell ⟨g0, 0, none⟩ (.int .i64 ((i : Int) + 1))).cell? ⟨b, off + i, none⟩ = some (.int .i64 q) := (zt4 (p := ⟨b, off + i, none⟩) hbne).trans hc
  have HP : Hid (PickAt (w.setCell ⟨g0, 0, none⟩ (.int .i64 ((i : Int) + 1))) g0 g1 (i + 1) (some ⟨b, off, none⟩) n c ps) := Zh ⟨h.ne, A1, A2, h.len, HR, hlt, h.far⟩
  have HG := Zh hg
  have hcap : n <= c /\ c <= maxLen := by have h1 := h.row.1; have h2 := h.len; omega
  clear h hq hin A1 A2 HR hg hbne
  go_enter Tryz.func149, Tryz.ntmps149
  go_wp2
  go_ret
  exact ⟨rfl, ⟨i + 1, HJ.out, HP.out⟩, HG.out⟩
end Go.Proofs.YtnbkkjcmblfhpaaGreat
namespace Go.Proofs.YtnbkkjcmblfhpaaGreat
open Go.RowKit
theorem zt3 {w : World} {g h : Nat} {t u : TypeId} {cs ds : Array Value} (h1 : Blok w g t cs) (h2 : Blok w h u ds) (ht : t ≠ u) : g ≠ h := by
 rintro rfl
 have := (show w.heap[g]? = _ from h1).symm.trans h2
 simp at this
 exact ht this.2
theorem zuf {w : World} {B e size n : Nat} {v : Value} {xs : List Value} (h : w.ownsRow B e size v n xs) {g : Nat} (hg : v.ownBlock = some g) : ∃ cs, Blok w g e cs := by
 rcases h.2 with ⟨rfl, _⟩ | ⟨g', cap, cur, rfl, _, hh, _⟩
 ·cases hg
 ·have : g' = g := by simpa [Value.ownBlock] using hg
  subst this
  exact ⟨cur, hh⟩
def Gone (B : Nat) (w : World) (rest : List FP) (z : FP) : Prop :=
 FP.ok w z /\ (z.a = none \/ ∃ g cs, z.a = some ⟨g, 0, none⟩ /\ B <= g /\ Blok w g 5 cs /\ ∀ y ∈ rest, ∀ h, y.a = some h -> g < h.block)
theorem Own1.blok {B : Nat} {w : World} {x : FP} (h : Own1 B w x) : x.a = none \/ ∃ g cs, x.a = some ⟨g, 0, none⟩ /\ B <= g /\ Blok w g 5 cs := by
 rcases h.1.2 with ⟨he, _⟩ | ⟨g, cap, cur, he, hb, hg, _⟩
 ·simp only [Value.slice.injEq] at he; exact .inl he.1
 ·simp only [Value.slice.injEq] at he; exact .inr ⟨g, cur, he.1, hb, hg⟩
theorem Gone.grown {B : Nat} {w w' : World} {rest rest' : List FP} {z : FP} {row : Nat} (h : Gone B w rest z) (hg : w.grownBy w' (some row)) (hr : ∀ y ∈ rest', y ∈ rest) (hne : ∀ g cs, z.a = some ⟨g, 0, none⟩ -> Blok w g 5 cs -> (∀ y ∈ rest, ∀ h, y.a = some h -> g < h.block) -> g ≠ row) : Gone B w' rest' z := by
 rcases h.2 with h0 | ⟨g, cs, h1, h2, h3, h4⟩
 ·have hn : z.B = [] := by
   have := h.1.2.2 h0
   exact List.eq_nil_of_length_eq_zero (by rw [h.1.1]; exact this.1)
  exact ⟨⟨h.1.1, ⟨h.1.2.1.1, h.1.2.1.2.1, .inl hn⟩, h.1.2.2⟩, .inl h0⟩
 ·have hn := hne g cs h1 h3 h4
  refine ⟨⟨h.1.1, ⟨h.1.2.1.1, h.1.2.1.2.1, ?_⟩, h.1.2.2⟩, .inr ⟨g, cs, h1, h2, h3.grown hg (by simpa using hn), fun y hy => h4 y (hr y hy)⟩⟩
  rcases h.1.2.1.2.2 with h5 | ⟨b, off, h6, h7, h8⟩
  ·exact .inl h5
  ·rw [h1] at h6
   cases h6
   exact .inr ⟨g, 0, h1, Nat.lt_of_lt_of_le h7 hg.size, fun i hi => by
    rw [<- h8 i hi]
    unfold World.cell?
    rw [hg.block g h7 (by simpa using hn)]⟩
theorem Gone.below {B : Nat} {w w' : World} {rest : List FP} {z : FP} (h : Gone B w rest z) (hb : Below w.heap.size w w') : Gone B w' rest z := by
 refine ⟨h.1.below hb, ?_⟩
 rcases h.2 with h0 | ⟨g, cs, h1, h2, h3, h4⟩
 ·exact .inl h0
 ·exact .inr ⟨g, cs, h1, h2, h3.on hb, h4⟩
theorem PickAt.grown {w w' : World} {g0 g1 i : Nat} {a : Option Addr} {n c : Nat} {ps : List Int} {row : Nat} (h : PickAt w g0 g1 i a n c ps) (hg : w.grownBy w' (some row)) (h0 : g0 ≠ row) (h1 : g1 ≠ row) (h2 : ∀ b off, a = some ⟨b, off, none⟩ -> ps ≠ [] -> b ≠ row) : PickAt w' g0 g1 i a n c ps := by
 refine ⟨h.ne, h.at_.grown hg (by simpa using h0), h.list.grown hg (by simpa using h1), h.len, ⟨h.row.1, h.row.2.1, ?_⟩, h.le, h.far⟩
 by_cases hp : ps = []
 ·exact .inl hp
 rcases h.row.2.2 with h3 | ⟨b, off, h4, h5, h6⟩
 ·exact .inl h3
 ·exact .inr ⟨b, off, h4, Nat.lt_of_lt_of_le h5 hg.size, fun j hj => by
   rw [<- h6 j hj]
   unfold World.cell?
   rw [hg.block b h5 (by simpa using h2 b off h4 hp)]⟩
structure CInv (w : World) (B lb rb : Nat) (k : Int) (a1 : Option Addr) (n1 c1 : Nat) (ys : List FP) (g0 g1 : Nat) (ap : Option Addr) (np cp : Nat) (ps : List Int) (j : Nat) (zs rs : List FP) (i : Nat) (wr : World) : Prop where
 row : wr.ownsRow B 53 3 (.slice a1 n1 c1) n1 (FP.flat rs)
 gone : ∀ z ∈ zs, Gone B wr (ys.drop j) z
 own : ∀ y ∈ ys.drop j, Own1 B wr y
 pick : PickAt wr g0 g1 i ap np cp ps
 lbox : Blok wr lb 24 #[.int .i64 k, .slice a1 n1 c1]
 rbox : Blok wr rb 24 #[.int .i64 0, .slice none 0 0]
 below : Below w.heap.size w wr
 base : w.heap.size <= B
 args : ∀ b off, ap = some ⟨b, off, none⟩ -> ps ≠ [] -> b < B
 g0B : B <= g0
section
variable {w : World} {B lb rb : Nat} {k : Int} {a1 : Option Addr} {n1 c1 : Nat} {ys : List FP} {g0 g1 : Nat} {ap : Option Addr} {np cp : Nat} {ps : List Int} {j : Nat} {zs rs : List FP} {i : Nat} {wr w' : World}
theorem CInv.on (h : CInv w B lb rb k a1 n1 c1 ys g0 g1 ap np cp ps j zs rs i wr) (hb : Below wr.heap.size wr w') : CInv w B lb rb k a1 n1 c1 ys g0 g1 ap np cp ps j zs rs i w' :=
 ⟨zab h.row hb, fun z hz => (h.gone z hz).below hb, fun y hy => (h.own y hy).below hb, h.pick.on hb, h.lbox.on hb, h.rbox.on hb, h.below.trans (hb.mono h.below.size), h.base, h.args, h.g0B⟩
theorem CInv.picked (h : CInv w B lb rb k a1 n1 c1 ys g0 g1 ap np cp ps j zs rs i wr) (hg : wr.grownBy w' (some g0)) {i' : Nat} (hp : PickAt w' g0 g1 i' ap np cp ps) : CInv w B lb rb k a1 n1 c1 ys g0 g1 ap np cp ps j zs rs i' w' := by
 refine ⟨h.row.kept hg ?_, fun z hz => (h.gone z hz).grown hg (fun y hy => hy) (fun g cs _ hb _ => zt3 hb h.pick.at_ (by decide)), fun y hy => (h.own y hy).grown hg (fun g hh e => ?_), hp, h.lbox.grown hg ?_, h.rbox.grown hg ?_, h.below.grown hg h.below.size (fun q hq => by cases hq; have := h.g0B; have := h.base; omega), h.base, h.args, h.g0B⟩
 ·cases ha : (Value.slice a1 n1 c1).ownBlock with
  | none => exact .inl rfl
  | some g =>
   refine .inr fun e => ?_
   obtain ⟨cs, hcs⟩ := zuf h.row ha
   exact zt3 hcs h.pick.at_ (by decide) (by simpa using e)
 ·obtain ⟨cs, hcs⟩ := zuf (h.own y hy).1 (g := g.block) (by rw [hh]; rfl)
  exact zt3 hcs h.pick.at_ (by decide) (by simpa using e)
 ·intro e; exact zt3 h.lbox h.pick.at_ (by decide) (by simpa using e)
 ·intro e; exact zt3 h.rbox h.pick.at_ (by decide) (by simpa using e)
theorem CInv.rowset (h : CInv w B lb rb k a1 n1 c1 ys g0 g1 ap np cp ps j zs rs i wr) {g : Nat} (ha : a1 = some ⟨g, 0, none⟩) (hg : wr.grownBy w' (some g)) {rs' : List FP} (hr : w'.ownsRow B 53 3 (.slice a1 n1 c1) n1 (FP.flat rs')) : CInv w B lb rb k a1 n1 c1 ys g0 g1 ap np cp ps j zs rs' i w' := by
 obtain ⟨ds, hds⟩ := zuf h.row (g := g) (by rw [ha]; rfl)
 have hBg := (h.row.lt g (by rw [ha]; rfl)).1
 refine ⟨hr, fun z hz => (h.gone z hz).grown hg (fun y hy => hy) (fun q cs _ hb _ => zt3 hb hds (by decide)), fun y hy => (h.own y hy).grown hg (fun q hh e => ?_), h.pick.grown hg (zt3 h.pick.at_ hds (by decide)) (zt3 h.pick.list hds (by decide)) (fun b off h1 h2 => by have := h.args b off h1 h2; omega), h.lbox.grown hg ?_, h.rbox.grown hg ?_, h.below.grown hg h.below.size (fun q hq => by cases hq; have := h.base; omega), h.base, h.args, h.g0B⟩
 ·obtain ⟨cs, hcs⟩ := zuf (h.own y hy).1 (g := q.block) (by rw [hh]; rfl)
  exact zt3 hcs hds (by decide) (by simpa using e)
 ·intro e; exact zt3 h.lbox hds (by decide) (by simpa using e)
 ·intro e; exact zt3 h.rbox hds (by decide) (by simpa using e)
theorem zu0 {ys : List FP} {j : Nat} {y : FP} (hy : ys[j]? = some y) : ys.drop j = y :: ys.drop (j + 1) := by
 obtain ⟨h1, h2⟩ := List.getElem?_eq_some_iff.1 hy
 rw [List.drop_eq_getElem_cons h1, h2]
theorem zwu {ys : List FP} {j : Nat} {y : FP} (h : Apart ys) (hy : ys[j]? = some y) : ∀ x ∈ ys.drop (j + 1), ∀ g q, y.a = some g -> x.a = some q -> g.block < q.block := by
 have h1 : (ys.drop j).Pairwise _ := List.Pairwise.drop (i := j) h
 rw [zu0 hy] at h1
 exact fun x hx g q hg hq => (List.pairwise_cons.1 h1).1 x hx g q hg hq
theorem CInv.same (h : CInv w B lb rb k a1 n1 c1 ys g0 g1 ap np cp ps j zs (zs ++ ys.drop j) i wr) (hA : Apart ys) {y : FP} (hy : ys[j]? = some y) : CInv w B lb rb k a1 n1 c1 ys g0 g1 ap np cp ps (j + 1) (zs ++ [y]) ((zs ++ [y]) ++ ys.drop (j + 1)) i wr := by
 have hd := zu0 hy
 have hO := h.own y (by rw [hd]; simp)
 refine ⟨by rw [List.append_assoc, List.singleton_append, <- hd]; exact h.row, fun z hz => ?_, fun x hx => h.own x (by rw [hd]; simp [hx]), h.pick, h.lbox, h.rbox, h.below, h.base, h.args, h.g0B⟩
 rcases List.mem_append.1 hz with hz | hz
 ·obtain ⟨h1, h2⟩ := h.gone z hz
  refine ⟨h1, ?_⟩
  rcases h2 with h2 | ⟨g, cs, h3, h4, h5, h6⟩
  ·exact .inl h2
  ·exact .inr ⟨g, cs, h3, h4, h5, fun x hx => h6 x (by rw [hd]; simp [hx])⟩
 ·simp only [List.mem_singleton] at hz
  subst hz
  refine ⟨hO.ok, ?_⟩
  rcases hO.blok with h2 | ⟨g, cs, h3, h4, h5⟩
  ·exact .inl h2
  ·exact .inr ⟨g, cs, h3, h4, h5, fun x hx q hq => zwu hA hy x hx _ q h3 hq⟩
theorem CInv.bytes {z : FP} (h : CInv w B lb rb k a1 n1 c1 ys g0 g1 ap np cp ps j zs (zs ++ z :: ys.drop (j + 1)) i wr) (hA : Apart ys) {y : FP} (hy : ys[j]? = some y) {gy : Nat} (hya : y.a = some ⟨gy, 0, none⟩) (hza : z.a = some ⟨gy, 0, none⟩) (hg : wr.grownBy w' (some gy)) (hz : FP.ok w' z) {cs : Array Value} (hb : Blok w' gy 5 cs) : CInv w B lb rb k a1 n1 c1 ys g0 g1 ap np cp ps (j + 1) (zs ++ [z]) ((zs ++ [z]) ++ ys.drop (j + 1)) i w' := by
 have hd := zu0 hy
 have hO := h.own y (by rw [hd]; simp)
 obtain ⟨ds, hds⟩ := zuf hO.1 (g := gy) (by rw [hya]; rfl)
 have hBg := (hO.lt hya).1
 have hap := zwu hA hy
 refine ⟨?_, fun x hx => ?_, fun x hx => (h.own x (by rw [hd]; simp [hx])).grown hg (fun q hq e => ?_), h.pick.grown hg (zt3 h.pick.at_ hds (by decide)) (zt3 h.pick.list hds (by decide)) (fun b off h1 h2 => by have := h.args b off h1 h2; simp only at hBg; omega), h.lbox.grown hg ?_, h.rbox.grown hg ?_, h.below.grown hg h.below.size (fun q hq => by cases hq; have := h.base; simp only at hBg; omega), h.base, h.args, h.g0B⟩
 ·rw [List.append_assoc, List.singleton_append]
  refine h.row.kept hg ?_
  cases ha : (Value.slice a1 n1 c1).ownBlock with
  | none => exact .inl rfl
  | some g =>
   refine .inr fun e => ?_
   obtain ⟨cs, hcs⟩ := zuf h.row ha
   exact zt3 hcs hds (by decide) (by simpa using e)
 ·rcases List.mem_append.1 hx with hx | hx
  ·exact (h.gone x hx).grown hg (fun y hy => by rw [hd]; simp [hy]) (fun g cs _ _ h4 => by have h5 := h4 y (by rw [hd]; simp) _ hya; simp only at h5; omega)
  ·simp only [List.mem_singleton] at hx
   subst hx
   exact ⟨hz, .inr ⟨gy, cs, hza, hBg, hb, fun x hx q hq => hap x hx _ q hya hq⟩⟩
 ·have h1 := hap x hx _ q hya hq
  have h2 : q.block = gy := by simpa using e
  simp only at h1
  omega
 ·intro e; exact zt3 h.lbox hds (by decide) (by simpa using e)
 ·intro e; exact zt3 h.rbox hds (by decide) (by simpa using e)
end
theorem FP.flat_set3 (zs : List FP) (x y : FP) (r : List FP) : (((FP.flat (zs ++ x :: r)).set (zs.length * 3) (.int .i64 y.no)).set (zs.length * 3 + 1) (.slice y.a y.n y.c)).set (zs.length * 3 + 2) (.int .i64 y.s) = FP.flat (zs ++ y :: r) := by
 have e0 : zs.length * 3 - zs.length * 3 = 0 := by omega
 have e1 : zs.length * 3 + 1 - zs.length * 3 = 1 := by omega
 have e2 : zs.length * 3 + 2 - zs.length * 3 = 2 := by omega
 rw [FP.flat_append, FP.flat_append, List.set_append_right _ _ (by rw [FP.flat_len]; omega), List.set_append_right _ _ (by rw [FP.flat_len]; omega), List.set_append_right _ _ (by rw [FP.flat_len]; omega), FP.flat_len, e0, e1, e2]
 rfl
theorem zvf {w w1 w2 : World} {r : Nat} (h1 : w.grownBy w1 (some r)) (h2 : w1.grownBy w2 (some r)) : w.grownBy w2 (some r) :=
 ⟨h2.os.trans h1.os, h2.tape.trans h1.tape, h2.output.trans h1.output, Nat.le_trans h1.size h2.size, fun k hk hne => (h2.block k (Nat.lt_of_lt_of_le hk h1.size) hne).trans (h1.block k hk hne)⟩
def D.tearing (L : List Int) (m E : Nat) : List Int := L.mapIdx fun i c => if m <= i /\ i < E then D.tear c else c
theorem D.tearing_none (L : List Int) (E : Nat) : D.tearing L E E = L := by
 apply List.ext_getElem?
 intro i
 rw [D.tearing, List.getElem?_mapIdx]
 cases L[i]? with
 | none => rfl
 | some c => simp; intro h1 h2; omega
theorem D.tearing_len (L : List Int) (m E : Nat) : (D.tearing L m E).length = L.length := by simp [D.tearing]
theorem D.tearing_step {L : List Int} {m E : Nat} (hE : E <= L.length) (hm : m < E) : D.tearing L m E = (D.tearing L (m + 1) E).set m (D.tear (L.getD m 0)) := by
 apply List.ext_getElem?
 intro i
 rw [List.getElem?_set, D.tearing, D.tearing, List.getElem?_mapIdx, List.getElem?_mapIdx]
 by_cases hi : m = i
 ·subst hi
  have : m < L.length := by omega
  simp [this, hm]
 ·cases h : L[i]? with
  | none => simp [hi]
  | some c =>
   simp only [Option.map_some, hi, if_false]
   congr 1
   by_cases h1 : m + 1 <= i /\ i < E
   ·rw [if_pos ⟨by omega, h1.2⟩, if_pos h1]
   ·rw [if_neg (by omega), if_neg h1]
theorem D.tearing_at {L : List Int} {m E : Nat} (hm : m < L.length) : (D.tearing L (m + 1) E).getD m 0 = L.getD m 0 := by
 simp [D.tearing, hm]
 intro h1 _
 omega
theorem D.tearing_torn {L : List Int} {s m E : Nat} (hE : E <= L.length) (h1 : s <= m) (h3 : m = E \/ E <= m + 8) (h4 : m = s \/ m + 8 <= E) (hs : s <= E) : (D.tearing L m E).take E = D.torn (L.take E) s := by
 apply List.ext_getElem?
 intro i
 rw [List.getElem?_take, D.tearing, D.torn, List.getElem?_mapIdx, List.getElem?_mapIdx, List.getElem?_take]
 have hl : (L.take E).length = E := by simp; omega
 rw [hl]
 by_cases hi : i < E
 ·rw [if_pos hi, if_pos hi]
  cases L[i]? with
  | none => rfl
  | some c =>
   simp only [Option.map_some]
   congr 1
   by_cases h5 : m <= i /\ i < E
   ·rw [if_pos h5, if_pos ⟨by omega, by omega⟩]
   ·rw [if_neg h5, if_neg (by omega)]
 ·rw [if_neg hi, if_neg hi]; rfl
end Go.Proofs.YtnbkkjcmblfhpaaGreat
