import Derived.Test.YtnbkkjcmblfhpaaGreatP25
import Derived.Test.YtnbkkjcmblfhpaaGreatP26
import Derived.Test.YtnbkkjcmblfhpaaGreatP22
import Derived.Test.YtnbkkjcmblfhpaaGreatP8
import Derived.Test.YtnbkkjcmblfhpaaGreatP10
import Derived.Test.YtnbkkjcmblfhpaaGreatP9
namespace Go.Proofs.YtnbkkjcmblfhpaaGreat
set_option maxHeartbeats 1000000
set_option maxRecDepth 100000
open Go.RowKit
namespace G
theorem zle {w : T} (s : Y.St) (h : ¬ may w) : turn w s = (w, 1) := by unfold turn; rw [if_neg h]
theorem turn_few {w : T} (s : Y.St) (h : may w) (hl : long w.1 < 300) : turn w s = (w, 0) := by unfold turn; rw [if_pos h, if_pos hl]
theorem turn_err {w x : T} {s : Y.St} {er : Int} (h : may w) (hl : 300 <= long w.1) (hn : new w.1 s = (x, er)) (he : er ≠ 0) : turn w s = (w, er) := by unfold turn; rw [if_pos h, if_neg (Int.not_lt.2 hl), hn]; simp only [if_neg he]
theorem turn_ok {w x : T} {s : Y.St} (h : may w) (hl : 300 <= long w.1) (hn : new w.1 s = (x, 0)) : turn w s = (x, 0) := by unfold turn; rw [if_pos h, if_neg (Int.not_lt.2 hl), hn]; rfl
theorem long_at {k : Int} {xs : List FP} {n : Nat} {x : FP} (hn : xs.length = n + 1) (hx : xs[n]? = some x) : long (k, FP.files xs) = (x.B.length : Int) := by
 unfold long
 have h1 : (FP.files xs).getLast? = some (FP.file x) := by
  rw [List.getLast?_eq_getElem?]
  rw [FP.files_len, hn, Nat.add_sub_cancel]
  unfold FP.files
  rw [List.getElem?_map, hx]
  rfl
 simp only [h1]
 rfl
end G
theorem G.turn_any (k : Int) (a : Option Addr) (n c : Nat) (wn wt : Int) (xs : List FP) (s : Y.St) (ap : Option Addr) (np cp : Nat) (al : Option Addr) (nl cl : Nat) (ah : Option Addr) (nh ch : Nat) (w : World) (hd : zf0 w a n c xs) (hs : D.small (FP.files xs)) (hi : Y.SIn w ⟨ap, np, cp, al, nl, cl, ah, nh, ch⟩ s) (hf : Y.Fits ⟨ap, np, cp, al, nl, cl, ah, nh, ch⟩ s) :
  Calls Tryz.prog 17 #[.agg #[.int .i64 k, .slice a n c, .int .i64 wn, .int .i64 wt], .agg #[.int .i64 s.d.b, .int .i64 s.d.k, .int .i64 s.d.c, .int .i64 s.d.j, .int .i64 s.d.lo, .int .i64 s.d.hi, .int .i64 s.d.dy, .int .i64 s.d.bl, .int .i64 s.p.q, .int .i64 s.p.i, .int .i64 s.p.h, .bool s.p.pair, .int .i64 s.now, .slice ap np cp, .slice al nl cl, .slice ah nh ch]] w (G.RetX (G.turn ((k, FP.files xs), wn, wt) s) w) := by
 have HB0 := Zh (Below.refl w.heap.size w)
 have HI0 := Zh (hi)
 have HD0 := Zh (hd)
 have HFT := Zh hf
 have HSM := Zh hs
 clear hi hd hf hs
 obtain ⟨w1, hw1, hb, hk⟩ := Zn w 26 #[.int .i64 k, .slice a n c, .int .i64 wn, .int .i64 wt]
 replace HI0 := Zh (HI0.out.below hb)
 replace HD0 := Zh (HD0.out.below hb)
 have HB1 := Zt HB0 hb
 have KW1 := Zh hk
 clear hb hk HB0
 obtain ⟨w2, hw2, hb, hk⟩ := Zn w1 37 #[.int .i64 s.d.b, .int .i64 s.d.k, .int .i64 s.d.c, .int .i64 s.d.j, .int .i64 s.d.lo, .int .i64 s.d.hi, .int .i64 s.d.dy, .int .i64 s.d.bl, .int .i64 s.p.q, .int .i64 s.p.i, .int .i64 s.p.h, .bool s.p.pair, .int .i64 s.now, .slice ap np cp, .slice al nl cl, .slice ah nh ch]
 replace HI0 := Zh (HI0.out.below hb)
 replace HD0 := Zh (HD0.out.below hb)
 replace KW1 := Zk KW1 hb
 have HB2 := Zt HB1 hb
 have KS2 := Zh hk
 clear hb hk HB1
 have HS9 : Hid (w.heap.size <= w2.heap.size) := Zh HB2.out.size
 obtain ⟨w3, hw3, hb, hk⟩ := Zn w2 26 #[.int .i64 0, .slice none 0 0, .int .i64 0, .int .i64 0]
 replace HI0 := Zh (HI0.out.below hb)
 replace HD0 := Zh (HD0.out.below hb)
 replace KW1 := Zk KW1 hb
 replace KS2 := Zk KS2 hb
 have HB3 := Zt HB2 hb
 have KR3 := Zh hk
 clear hb hk HB2
 obtain ⟨mv, hmv⟩ : ∃ b, decide (G.may ((k, FP.files xs), wn, wt)) = b := ⟨_, rfl⟩
 have HMV := Zh hmv
 clear hmv
 obtain ⟨x0, x1, x2, x3⟩ := G.pk KW1.out
 go_enter Tryz.func17, Tryz.ntmps17
 go_wp2_with fail
 try rw [hw1]
 try rw [hw2]
 try rw [hw3]
 refine (G.may_any k a n c wn wt xs mv w3 HD0.out HMV.out).mono ?_
 rintro e w4 ⟨rfl, hb⟩
 replace HI0 := Zh (HI0.out.below hb)
 replace HD0 := Zh (HD0.out.below hb)
 replace KW1 := Zk KW1 hb
 replace KS2 := Zk KS2 hb
 have KR4 := Zk KR3 hb
 have HB4 := Zt HB3 hb
 clear hb KR3 HB3
 clear x0 x1 x2 x3 hw1 hw2 hw3
 cases mv with
 | false =>
  have HLE : Hid (w.heap.size <= w4.heap.size) := Zh HB4.out.size
  have HKL := Zh KR4.out.lt
  obtain ⟨x0, x1, x2, x3⟩ := G.pk KW1.out
  go_wp2_with fail
  refine (G.own_any k a n c wn wt xs w4 HD0.out HSM.out).mono ?_
  rintro e w5 ⟨a3, n3, c3, zs, rfl, HE0, HF3, HX3, hb⟩
  replace HI0 := Zh (HI0.out.below hb)
  replace HD0 := Zh (HD0.out.below hb)
  replace KW1 := Zk KW1 hb
  replace KS2 := Zk KS2 hb
  have KR5 := Zk KR4 hb
  have HB5 := Zt HB4 hb
  clear hb KR4 HB4
  have HDD5 := HE0
  clear x0 x1 x2 x3 HE0
  obtain ⟨w6, hp6⟩ : ∃ W, w5.setRow (w2.heap.size) #[.int .i64 k, .slice a3 n3 c3, .int .i64 wn, .int .i64 wt] = W := ⟨_, rfl⟩
  have hg6 : w5.grownBy w6 (some (w2.heap.size)) := by rw [<- hp6]; exact zbr _ _ _
  have HP6 := Zh hp6
  have KR6 : Hid (Blok w6 (w2.heap.size) 26 #[.int .i64 k, .slice a3 n3 c3, .int .i64 wn, .int .i64 wt]) := Zh (by rw [<- hp6]; exact KR5.out.put _)
  have HDD6 := Zh (G.disk_grown HDD5.out (HX3.out _ HKL.out) hg6)
  have HB6 := Zh (HB5.out.grown hg6 HB5.out.size (fun q hq => by cases hq; exact HS9.out))
  clear hp6 hg6 HI0 HD0 KW1 KS2 HDD5 HB5
  go_wp2_with (first | (refine Zw KR5.out HP6.out ?_))
  refine bodyPost_ret (G.ret_wal2 (v := .int .i64 1) rfl w2.heap.size (by kernel_rfl) (by kernel_rfl) KR6.out) rfl ?_
  rw [G.zle s (of_decide_eq_false HMV.out)]
  exact ⟨a3, n3, c3, zs, rfl, HDD6, HF3, Zh (fun b hb => HX3.out b (Nat.lt_of_lt_of_le hb HLE.out)), HB6.out⟩
 | true =>
  have HM := Zh (of_decide_eq_true HMV.out)
  cases n with
  | zero =>
   exact absurd (by rw [List.eq_nil_of_length_eq_zero HD0.out.1]; rfl) HM.out.2.1
  | succ m =>
   obtain ⟨b, off, no, a', n', c', B, q, rfl, hlt, hx, p0, p1, p2, hok⟩ := HD0.out.2.1.at (i := m) (by rw [HD0.out.1]; omega)
   have HL : Hid (G.long (k, FP.files xs) = (n' : Int)) := Zh (by rw [G.long_at HD0.out.1 hx]; exact congrArg Int.ofNat hok.1)
   clear hx hok p0 p2
   have hml : maxLen <= 9223372036854775807 := by decide
   have hcap := HD0.out.caps
   have e1 : (m : Int) + 1 - 1 = (m : Int) := by omega
   have j0 : (0 : Int) <= m := by omega
   have j1 : (m : Int) < (m : Int) + 1 := by omega
   obtain ⟨x0, x1, x2, x3⟩ := G.pk KW1.out
   by_cases h3 : n' < 300
   ·have d3 : decide ((n' : Int) < 300) = true := by simp; omega
    have HLT : Hid (G.long (k, FP.files xs) < 300) := Zh (by rw [HL.out]; omega)
    clear x0 x1 x2 x3
    have HLE : Hid (w.heap.size <= w4.heap.size) := Zh HB4.out.size
    have HKL := Zh KR4.out.lt
    obtain ⟨x0, x1, x2, x3⟩ := G.pk KW1.out
    go_wp2_with fail
    refine (G.own_any k (some ⟨b, off, none⟩) (m + 1) c wn wt xs w4 HD0.out HSM.out).mono ?_
    rintro e w5 ⟨a3, n3, c3, zs, rfl, HE0, HF3, HX3, hb⟩
    replace HI0 := Zh (HI0.out.below hb)
    replace HD0 := Zh (HD0.out.below hb)
    replace KW1 := Zk KW1 hb
    replace KS2 := Zk KS2 hb
    have KR5 := Zk KR4 hb
    have HB5 := Zt HB4 hb
    clear hb KR4 HB4
    have HDD5 := HE0
    clear x0 x1 x2 x3 HE0
    obtain ⟨w6, hp6⟩ : ∃ W, w5.setRow (w2.heap.size) #[.int .i64 k, .slice a3 n3 c3, .int .i64 wn, .int .i64 wt] = W := ⟨_, rfl⟩
    have hg6 : w5.grownBy w6 (some (w2.heap.size)) := by rw [<- hp6]; exact zbr _ _ _
    have HP6 := Zh hp6
    have KR6 : Hid (Blok w6 (w2.heap.size) 26 #[.int .i64 k, .slice a3 n3 c3, .int .i64 wn, .int .i64 wt]) := Zh (by rw [<- hp6]; exact KR5.out.put _)
    have HDD6 := Zh (G.disk_grown HDD5.out (HX3.out _ HKL.out) hg6)
    have HB6 := Zh (HB5.out.grown hg6 HB5.out.size (fun q hq => by cases hq; exact HS9.out))
    clear hp6 hg6 HI0 HD0 KW1 KS2 HDD5 HB5
    go_wp2_with (first | (refine Zw KR5.out HP6.out ?_))
    refine bodyPost_ret (G.ret_wal2 (v := .int .i64 0) rfl w2.heap.size (by kernel_rfl) (by kernel_rfl) KR6.out) rfl ?_
    rw [G.turn_few s HM.out HLT.out]
    exact ⟨a3, n3, c3, zs, rfl, HDD6, HF3, Zh (fun b hb => HX3.out b (Nat.lt_of_lt_of_le hb HLE.out)), HB6.out⟩
   have d3 : decide ((n' : Int) < 300) = false := by simp; omega
   have HLT : Hid (300 <= G.long (k, FP.files xs)) := Zh (by rw [HL.out]; omega)
   obtain ⟨⟨⟨⟨k2, f2⟩, wn2, wt2⟩, er⟩, hst⟩ : ∃ x, G.new (k, FP.files xs) s = x := ⟨_, rfl⟩
   have HST := Zh hst
   have HQL := Zh KR4.out.lt
   have HBL : Hid (w.heap.size <= w4.heap.size) := Zh HB4.out.size
   have hp := G.new_any k (some ⟨b, off, none⟩) (m + 1) c xs s ap np cp al nl cl ah nh ch w4 HD0.out HSM.out HI0.out HFT.out
   rw [hst] at hp
   clear hst
   have y0 := Zv KS2.out 0 (.int .i64 s.d.b)
   have y1 := Zv KS2.out 1 (.int .i64 s.d.k)
   have y2 := Zv KS2.out 2 (.int .i64 s.d.c)
   have y3 := Zv KS2.out 3 (.int .i64 s.d.j)
   have y4 := Zv KS2.out 4 (.int .i64 s.d.lo)
   have y5 := Zv KS2.out 5 (.int .i64 s.d.hi)
   have y6 := Zv KS2.out 6 (.int .i64 s.d.dy)
   have y7 := Zv KS2.out 7 (.int .i64 s.d.bl)
   have y8 := Zv KS2.out 8 (.int .i64 s.p.q)
   have y9 := Zv KS2.out 9 (.int .i64 s.p.i)
   have y10 := Zv KS2.out 10 (.int .i64 s.p.h)
   have y11 := Zv KS2.out 11 (.bool s.p.pair)
   have y12 := Zv KS2.out 12 (.int .i64 s.now)
   have y13 := Zv KS2.out 13 (.slice ap np cp)
   have y14 := Zv KS2.out 14 (.slice al nl cl)
   have y15 := Zv KS2.out 15 (.slice ah nh ch)
   go_wp2_with fail
   refine (hp).mono ?_
   rintro e w5 ⟨a4, n4, c4, ys, rfl, HDq, HFF, HXX, hb⟩
   replace HI0 := Zh (HI0.out.below hb)
   replace HD0 := Zh (HD0.out.below hb)
   replace KW1 := Zk KW1 hb
   replace KS2 := Zk KS2 hb
   have KR5 := Zk KR4 hb
   have HB5 := Zt HB4 hb
   clear hb KR4 HB4
   have HDD5 := HDq
   clear hp x0 x1 x2 x3 HDq p1 y0 y1 y2 y3 y4 y5 y6 y7 y8 y9 y10 y11 y12 y13 y14 y15
   have HNL : Hid (w2.heap.size < w4.heap.size /\ w.heap.size <= w4.heap.size) := Zh ⟨HQL.out, HBL.out⟩
   obtain ⟨w6, hw6, hb, hk⟩ := Zn w5 26 #[.int .i64 k2, .slice a4 n4 c4, .int .i64 wn2, .int .i64 wt2]
   replace HI0 := Zh (HI0.out.below hb)
   replace HD0 := Zh (HD0.out.below hb)
   replace KW1 := Zk KW1 hb
   replace KS2 := Zk KS2 hb
   have KR6 := Zk KR5 hb
   have HDD6 := Zh (HDD5.out.below hb)
   have HB6 := Zt HB5 hb
   have KT6 := Zh hk
   clear hb hk KR5 HDD5 HB5
   obtain ⟨wz6, hz6⟩ : ∃ W, w5.alloc (.cells #[.int .i64 0, .slice none 0 0, .int .i64 0, .int .i64 0] 26) = W := ⟨_, rfl⟩
   have HZK6 : Hid (Blok wz6 w5.heap.size 26 #[.int .i64 0, .slice none 0 0, .int .i64 0, .int .i64 0]) := Zh (by rw [<- hz6]; exact Blok.new w5 _ _)
   have HPZ6 : Hid (wz6.setRow w5.heap.size #[.int .i64 k2, .slice a4 n4 c4, .int .i64 wn2, .int .i64 wt2] = w6) := Zh (by rw [<- hz6, World.setRow_alloc_new, hw6])
   clear hw6
   by_cases he : er = 0
   rotate_left
   ·have e2 : (er != 0) = true := by simpa using he
    clear HFF HXX
    clear HDD6
    have HLE : Hid (w.heap.size <= w6.heap.size) := Zh HB6.out.size
    have HKL := Zh KR6.out.lt
    obtain ⟨x0, x1, x2, x3⟩ := G.pk KW1.out
    go_wp2_with (refine Zw HZK6.out HPZ6.out ?_)
    refine (G.own_any k (some ⟨b, off, none⟩) (m + 1) c wn wt xs w6 HD0.out HSM.out).mono ?_
    rintro e w7 ⟨a3, n3, c3, zs, rfl, HE0, HF3, HX3, hb⟩
    replace HI0 := Zh (HI0.out.below hb)
    replace HD0 := Zh (HD0.out.below hb)
    replace KW1 := Zk KW1 hb
    replace KS2 := Zk KS2 hb
    have KR7 := Zk KR6 hb
    replace KT6 := Zk KT6 hb
    have HB7 := Zt HB6 hb
    clear hb KR6 HB6
    have HDD7 := HE0
    clear x0 x1 x2 x3 HE0
    obtain ⟨w8, hp8⟩ : ∃ W, w7.setRow (w2.heap.size) #[.int .i64 k, .slice a3 n3 c3, .int .i64 wn, .int .i64 wt] = W := ⟨_, rfl⟩
    have hg8 : w7.grownBy w8 (some (w2.heap.size)) := by rw [<- hp8]; exact zbr _ _ _
    have HP8 := Zh hp8
    have KR8 : Hid (Blok w8 (w2.heap.size) 26 #[.int .i64 k, .slice a3 n3 c3, .int .i64 wn, .int .i64 wt]) := Zh (by rw [<- hp8]; exact KR7.out.put _)
    have HDD8 := Zh (G.disk_grown HDD7.out (HX3.out _ HKL.out) hg8)
    have HB8 := Zh (HB7.out.grown hg8 HB7.out.size (fun q hq => by cases hq; exact HS9.out))
    clear hp8 hg8 HI0 HD0 KW1 KS2 KT6 HDD7 HB7
    go_wp2_with (first | (refine Zw KR7.out HP8.out ?_))
    refine bodyPost_ret (G.ret_wal2 (v := .int .i64 er) rfl w2.heap.size (by kernel_rfl) (by kernel_rfl) KR8.out) rfl ?_
    rw [G.turn_err HM.out HLT.out HST.out he]
    exact ⟨a3, n3, c3, zs, rfl, HDD8, HF3, Zh (fun b hb => HX3.out b (Nat.lt_of_lt_of_le hb HLE.out)), HB8.out⟩
   subst he
   have e2 : ((0 : Int) != 0) = false := rfl
   have HKT := KT6
   obtain ⟨w7, hp7⟩ : ∃ W, w6.setRow (w2.heap.size) #[.int .i64 k2, .slice a4 n4 c4, .int .i64 wn2, .int .i64 wt2] = W := ⟨_, rfl⟩
   have hg7 : w6.grownBy w7 (some (w2.heap.size)) := by rw [<- hp7]; exact zbr _ _ _
   have HP7 := Zh hp7
   have KR7 : Hid (Blok w7 (w2.heap.size) 26 #[.int .i64 k2, .slice a4 n4 c4, .int .i64 wn2, .int .i64 wt2]) := Zh (by rw [<- hp7]; exact KR6.out.put _)
   have HDD7 := Zh (G.disk_grown HDD6.out (HXX.out _ HNL.out.1) hg7)
   have HB7 := Zh (HB6.out.grown hg7 HB6.out.size (fun q hq => by cases hq; exact HS9.out))
   clear hp7 hg7 HI0 HD0 KW1 KS2 HDD6 KT6 HB6
   go_wp2_with (first | (refine Zw HZK6.out HPZ6.out ?_) | (refine Zw KR6.out HP7.out ?_) | (refine zak HKT.out rfl rfl (by kernel_rfl) Tryz.underlying26 rfl (by kernel_rfl) ?_))
   refine bodyPost_ret (G.ret_wal2 (v := .int .i64 0) rfl w2.heap.size (by kernel_rfl) (by kernel_rfl) KR7.out) rfl ?_
   rw [G.turn_ok HM.out HLT.out HST.out]
   exact ⟨a4, n4, c4, ys, rfl, HDD7, HFF, Zh (fun b hb => HXX.out b (Nat.lt_of_lt_of_le hb HNL.out.2)), HB7.out⟩
end Go.Proofs.YtnbkkjcmblfhpaaGreat
namespace Go.Proofs.YtnbkkjcmblfhpaaGreat
open Go.RowKit
def zyf (w : World) (room : Int) : World := dbox (dbox w 0 none 0 0) room none 0 0
theorem zyg (w : World) (room : Int) : Below w.heap.size w (zyf w room) := (zf2 w 0 none 0 0).trans ((zf2 _ room none 0 0).mono (zf2 w 0 none 0 0).size)
theorem zy1 (w : World) (room : Int) : Blok (zyf w room) w.heap.size 24 #[.int .i64 0, .slice none 0 0] := (zt2 w 0 none 0 0).alloc _
theorem zy2 (w : World) (room : Int) : Blok (zyf w room) (w.heap.size + 1) 24 #[.int .i64 room, .slice none 0 0] := by
 have := zt2 (dbox w 0 none 0 0) room none 0 0
 rwa [zvb] at this
theorem zv3 : D.small (FP.files []) := ⟨by simp [FP.files], by simp [FP.files]⟩
theorem zws (room : Int) (b : Bool) (w : World) (hb : decide (D.may (room, [])) = b) :
  Calls Tryz.prog 29 #[.int .i64 room] w fun e w' => e = .returned (.tuple #[.agg #[.int .i64 (if b = true then room else 0), .slice none 0 0], .bool b]) /\ Below w.heap.size w w' := by
 have HB := Zh hb
 have HX := Zh (zyg w room)
 clear hb
 go_enter Tryz.func29, Tryz.ntmps29
 go_wp2_with fail
 refine (zt1 room none 0 0 [] b (zyf w room) (zf0.empty _) HB.out).mono ?_
 rintro e w1 ⟨rfl, hb1⟩
 have W1 := Zt HX hb1
 have KR := Zh ((zy1 w room).on hb1)
 have KA := Zh ((zy2 w room).on hb1)
 clear hb1
 have k0 := dk0 KA.out
 have k1 := dk1 KA.out
 have r0 := dk0 KR.out
 have r1 := dk1 KR.out
 have f0 := KR.out.frozen 0
 have f1 := KR.out.frozen 1
 cases b with
 | true =>
  go_wp2
  refine bodyPost_ret (zt0 (x := .bool true) (g := w.heap.size) rfl room none 0 0 (by kernel_rfl) (by kernel_rfl) KR.out.putD) (by kernel_rfl) ?_
  exact ⟨rfl, zf1 W1.out (Nat.le_refl _) _ _ _ _⟩
 | false =>
  go_wp2
  refine bodyPost_ret (zt0 (x := .bool false) (g := w.heap.size) rfl 0 none 0 0 (by kernel_rfl) (by kernel_rfl) KR.out.putD) (by kernel_rfl) ?_
  exact ⟨rfl, zf1 W1.out (Nat.le_refl _) _ _ _ _⟩
end Go.Proofs.YtnbkkjcmblfhpaaGreat
namespace Go.Proofs.YtnbkkjcmblfhpaaGreat
namespace Y
theorem d_ext {s t : E.D} (h : s.b = t.b /\ s.k = t.k /\ s.c = t.c /\ s.j = t.j /\ s.lo = t.lo /\ s.hi = t.hi /\ s.dy = t.dy /\ s.bl = t.bl) : s = t := by
 cases s; cases t; simp_all
instance : DecidableEq E.D := fun s t => decidable_of_iff (s.b = t.b /\ s.k = t.k /\ s.c = t.c /\ s.j = t.j /\ s.lo = t.lo /\ s.hi = t.hi /\ s.dy = t.dy /\ s.bl = t.bl) ⟨d_ext, fun h => by subst h; exact ⟨rfl, rfl, rfl, rfl, rfl, rfl, rfl, rfl⟩⟩
instance : DecidableEq St := fun s t => decidable_of_iff (s.d = t.d /\ s.p = t.p /\ s.now = t.now /\ s.ps = t.ps /\ s.l = t.l /\ s.h = t.h) ⟨fun h => st_ext h.1 h.2.1 h.2.2.1 h.2.2.2.1 h.2.2.2.2.1 h.2.2.2.2.2, fun h => by subst h; exact ⟨rfl, rfl, rfl, rfl, rfl, rfl⟩⟩
end Y
end Go.Proofs.YtnbkkjcmblfhpaaGreat
namespace Go.Proofs.YtnbkkjcmblfhpaaGreat
set_option maxHeartbeats 2000000
set_option maxRecDepth 100000
open Go.RowKit
theorem Y.po_ext {p q : Y.Po} (h : p.q = q.q /\ p.i = q.i /\ p.h = q.h /\ p.pair = q.pair) : p = q := by
 cases p; cases q; simp_all
theorem zk3 (s t : Y.St) (A A2 : Y.A9) (w : World) (h : Y.SIn w A s) (h2 : Y.SIn w A2 t) (hn : A.np <= 600 /\ A.nl <= 600 /\ A.nh <= 600) (hne : ¬ (s.d = t.d /\ s.p = t.p /\ s.now = t.now)) :
  Calls Tryz.prog 31 #[Y.val s A, Y.val t A2] w fun e w' => e = .returned (.bool false) /\ Below w.heap.size w w' := by
 obtain ⟨ap, np, cp, al, nl, cl, ah, nh, ch⟩ := A
 have HB0 := Zh (Below.refl w.heap.size w)
 have HQ0 := Zh ((h.p : QIn w ap np cp s.ps))
 have HL0 := Zh ((h.l : RIn w al nl cl s.l))
 have HH0 := Zh ((h.h : RIn w ah nh ch s.h))
 obtain ⟨ap2, np2, cp2, al2, nl2, cl2, ah2, nh2, ch2⟩ := A2
 have HQ20 := Zh ((h2.p : QIn w ap2 np2 cp2 t.ps))
 have HL20 := Zh ((h2.l : RIn w al2 nl2 cl2 t.l))
 have HH20 := Zh ((h2.h : RIn w ah2 nh2 ch2 t.h))
 have hnp : np <= 600 := hn.1
 have hnl : nl <= 600 := hn.2.1
 have hnh : nh <= 600 := hn.2.2
 clear h h2 hn
 unfold Y.val
 obtain ⟨w1, hw1, hb, hk⟩ := Zn w 37 #[.int .i64 s.d.b, .int .i64 s.d.k, .int .i64 s.d.c, .int .i64 s.d.j, .int .i64 s.d.lo, .int .i64 s.d.hi, .int .i64 s.d.dy, .int .i64 s.d.bl, .int .i64 s.p.q, .int .i64 s.p.i, .int .i64 s.p.h, .bool s.p.pair, .int .i64 s.now, .slice ap np cp, .slice al nl cl, .slice ah nh ch]
 have HQ1 := Zh (HQ0.out.below hb)
 have HL1 := Zh (HL0.out.below hb)
 have HH1 := Zh (HH0.out.below hb)
 have HQ21 := Zh (HQ20.out.below hb)
 have HL21 := Zh (HL20.out.below hb)
 have HH21 := Zh (HH20.out.below hb)
 replace HB0 := Zt HB0 hb
 have KS1 := Zh hk
 clear hb hk HQ0 HL0 HH0 HQ20 HL20 HH20
 obtain ⟨w2, hw2, hb, hk⟩ := Zn w1 37 #[.int .i64 t.d.b, .int .i64 t.d.k, .int .i64 t.d.c, .int .i64 t.d.j, .int .i64 t.d.lo, .int .i64 t.d.hi, .int .i64 t.d.dy, .int .i64 t.d.bl, .int .i64 t.p.q, .int .i64 t.p.i, .int .i64 t.p.h, .bool t.p.pair, .int .i64 t.now, .slice ap2 np2 cp2, .slice al2 nl2 cl2, .slice ah2 nh2 ch2]
 have HQ2 := Zh (HQ1.out.below hb)
 have HL2 := Zh (HL1.out.below hb)
 have HH2 := Zh (HH1.out.below hb)
 have HQ22 := Zh (HQ21.out.below hb)
 have HL22 := Zh (HL21.out.below hb)
 have HH22 := Zh (HH21.out.below hb)
 replace KS1 := Zk KS1 hb
 replace HB0 := Zt HB0 hb
 have KT2 := Zh hk
 clear hb hk HQ1 HL1 HH1 HQ21 HL21 HH21
 have c0 := Y.cs16 KS1.out
 have e0 := Y.cs16 KT2.out
 have HNE := Zh hne
 clear hne
 go_enter Tryz.func31, Tryz.ntmps31
 go_wp2_with fail
 all_goals first
  | (go_ret; exact ⟨rfl, HB0.out⟩)
  | (exfalso; refine HNE.out ⟨Y.d_ext ⟨?_, ?_, ?_, ?_, ?_, ?_, ?_, ?_⟩, Y.po_ext ⟨?_, ?_, ?_, ?_⟩, ?_⟩ <;> assumption)
theorem zjn (s t : Y.St) (A A2 : Y.A9) (w : World) (h : Y.SIn w A s) (h2 : Y.SIn w A2 t) (hn : A.np <= 600 /\ A.nl <= 600 /\ A.nh <= 600) (v : Bool) (hv : decide (s = t) = v) (heq : s.d = t.d /\ s.p = t.p /\ s.now = t.now) :
  Calls Tryz.prog 31 #[Y.val s A, Y.val t A2] w fun e w' => e = .returned (.bool v) /\ Below w.heap.size w w' := by
 obtain ⟨sd, sp, sn, sps, sl, sh⟩ := s
 simp only at heq
 obtain ⟨rfl, rfl, rfl⟩ := heq
 obtain ⟨ap, np, cp, al, nl, cl, ah, nh, ch⟩ := A
 have HB0 := Zh (Below.refl w.heap.size w)
 have HQ0 := Zh ((h.p : QIn w ap np cp sps))
 have HL0 := Zh ((h.l : RIn w al nl cl sl))
 have HH0 := Zh ((h.h : RIn w ah nh ch sh))
 obtain ⟨ap2, np2, cp2, al2, nl2, cl2, ah2, nh2, ch2⟩ := A2
 have HQ20 := Zh ((h2.p : QIn w ap2 np2 cp2 t.ps))
 have HL20 := Zh ((h2.l : RIn w al2 nl2 cl2 t.l))
 have HH20 := Zh ((h2.h : RIn w ah2 nh2 ch2 t.h))
 have hnp : np <= 600 := hn.1
 have hnl : nl <= 600 := hn.2.1
 have hnh : nh <= 600 := hn.2.2
 clear h h2 hn
 unfold Y.val
 obtain ⟨u1, hu1⟩ : ∃ u, decide (sps = t.ps) = u := ⟨_, rfl⟩
 obtain ⟨u2, hu2⟩ : ∃ u, decide (sl = t.l) = u := ⟨_, rfl⟩
 obtain ⟨u3, hu3⟩ : ∃ u, decide (sh = t.h) = u := ⟨_, rfl⟩
 have HV : Hid (v = (u1 && u2 && u3)) := Zh (by rw [<- hv, <- hu1, <- hu2, <- hu3, Bool.eq_iff_iff]; simp only [Bool.and_eq_true, decide_eq_true_eq]; exact ⟨fun e => by rw [<- e]; exact ⟨⟨rfl, rfl⟩, rfl⟩, fun e => Y.st_ext rfl rfl rfl e.1.1 e.1.2 e.2⟩)
 have HU1 := Zh hu1
 have HU2 := Zh hu2
 have HU3 := Zh hu3
 clear hv hu1 hu2 hu3
 obtain ⟨w1, hw1, hb, hk⟩ := Zn w 37 #[.int .i64 t.d.b, .int .i64 t.d.k, .int .i64 t.d.c, .int .i64 t.d.j, .int .i64 t.d.lo, .int .i64 t.d.hi, .int .i64 t.d.dy, .int .i64 t.d.bl, .int .i64 t.p.q, .int .i64 t.p.i, .int .i64 t.p.h, .bool t.p.pair, .int .i64 t.now, .slice ap np cp, .slice al nl cl, .slice ah nh ch]
 have HQ1 := Zh (HQ0.out.below hb)
 have HL1 := Zh (HL0.out.below hb)
 have HH1 := Zh (HH0.out.below hb)
 have HQ21 := Zh (HQ20.out.below hb)
 have HL21 := Zh (HL20.out.below hb)
 have HH21 := Zh (HH20.out.below hb)
 replace HB0 := Zt HB0 hb
 have KS1 := Zh hk
 clear hb hk HQ0 HL0 HH0 HQ20 HL20 HH20
 obtain ⟨w2, hw2, hb, hk⟩ := Zn w1 37 #[.int .i64 t.d.b, .int .i64 t.d.k, .int .i64 t.d.c, .int .i64 t.d.j, .int .i64 t.d.lo, .int .i64 t.d.hi, .int .i64 t.d.dy, .int .i64 t.d.bl, .int .i64 t.p.q, .int .i64 t.p.i, .int .i64 t.p.h, .bool t.p.pair, .int .i64 t.now, .slice ap2 np2 cp2, .slice al2 nl2 cl2, .slice ah2 nh2 ch2]
 have HQ2 := Zh (HQ1.out.below hb)
 have HL2 := Zh (HL1.out.below hb)
 have HH2 := Zh (HH1.out.below hb)
 have HQ22 := Zh (HQ21.out.below hb)
 have HL22 := Zh (HL21.out.below hb)
 have HH22 := Zh (HH21.out.below hb)
 replace KS1 := Zk KS1 hb
 replace HB0 := Zt HB0 hb
 have KT2 := Zh hk
 clear hb hk HQ1 HL1 HH1 HQ21 HL21 HH21
 have c0 := Y.cs16 (s := t) KS1.out
 have e0 := Y.cs16 KT2.out
 go_enter Tryz.func31, Tryz.ntmps31
 go_wp2_with fail
 try rw [hw1]
 try rw [hw2]
 refine (zfb ap ap2 np np2 cp cp2 sps t.ps w2 HQ2.out HQ22.out (by omega) u1 HU1.out).mono ?_
 clear c0
 clear e0
 rintro e w3 ⟨rfl, hb⟩
 have HQ3 := Zh (HQ2.out.below hb)
 have HL3 := Zh (HL2.out.below hb)
 have HH3 := Zh (HH2.out.below hb)
 have HQ23 := Zh (HQ22.out.below hb)
 have HL23 := Zh (HL22.out.below hb)
 have HH23 := Zh (HH22.out.below hb)
 replace KS1 := Zk KS1 hb
 replace KT2 := Zk KT2 hb
 replace HB0 := Zt HB0 hb
 clear hb HQ2 HL2 HH2 HQ22 HL22 HH22
 have c0 := Y.cs16 (s := t) KS1.out
 have e0 := Y.cs16 KT2.out
 clear hw1 hw2
 cases u1 with
 | false =>
  go_wp2
  go_ret
  exact ⟨by rw [HV.out]; rfl, HB0.out⟩
 | true =>
  go_wp2_with fail
  refine (zgv al al2 nl nl2 cl cl2 sl t.l w3 HL3.out HL23.out (by omega) u2 HU2.out).mono ?_
  clear c0
  clear e0
  rintro e w4 ⟨rfl, hb⟩
  have HQ4 := Zh (HQ3.out.below hb)
  have HL4 := Zh (HL3.out.below hb)
  have HH4 := Zh (HH3.out.below hb)
  have HQ24 := Zh (HQ23.out.below hb)
  have HL24 := Zh (HL23.out.below hb)
  have HH24 := Zh (HH23.out.below hb)
  replace KS1 := Zk KS1 hb
  replace KT2 := Zk KT2 hb
  replace HB0 := Zt HB0 hb
  clear hb HQ3 HL3 HH3 HQ23 HL23 HH23
  have c0 := Y.cs16 (s := t) KS1.out
  have e0 := Y.cs16 KT2.out
  cases u2 with
  | false =>
   go_wp2
   go_ret
   exact ⟨by rw [HV.out]; rfl, HB0.out⟩
  | true =>
   go_wp2_with fail
   refine (ze9 ah ah2 nh nh2 ch ch2 sh t.h w4 HH4.out HH24.out (by omega) u3 HU3.out).mono ?_
   clear c0
   clear e0
   rintro e w5 ⟨rfl, hb⟩
   have HQ5 := Zh (HQ4.out.below hb)
   have HL5 := Zh (HL4.out.below hb)
   have HH5 := Zh (HH4.out.below hb)
   have HQ25 := Zh (HQ24.out.below hb)
   have HL25 := Zh (HL24.out.below hb)
   have HH25 := Zh (HH24.out.below hb)
   replace KS1 := Zk KS1 hb
   replace KT2 := Zk KT2 hb
   replace HB0 := Zt HB0 hb
   clear hb HQ4 HL4 HH4 HQ24 HL24 HH24
   have c0 := Y.cs16 (s := t) KS1.out
   have e0 := Y.cs16 KT2.out
   cases u3 with
   | false =>
    go_wp2
    go_ret
    exact ⟨by rw [HV.out]; rfl, HB0.out⟩
   | true =>
    go_wp2
    go_ret
    exact ⟨by rw [HV.out]; rfl, HB0.out⟩
theorem zea (s t : Y.St) (A A2 : Y.A9) (w : World) (h : Y.SIn w A s) (h2 : Y.SIn w A2 t) (hn : A.np <= 600 /\ A.nl <= 600 /\ A.nh <= 600) (v : Bool) (hv : decide (s = t) = v) :
  Calls Tryz.prog 31 #[Y.val s A, Y.val t A2] w fun e w' => e = .returned (.bool v) /\ Below w.heap.size w w' := by
 by_cases he : s.d = t.d /\ s.p = t.p /\ s.now = t.now
 ·exact zjn s t A A2 w h h2 hn v hv he
 ·obtain rfl : v = false := by rw [<- hv]; exact decide_eq_false fun e => he (by subst e; exact ⟨rfl, rfl, rfl⟩)
  exact zk3 s t A A2 w h h2 hn he
end Go.Proofs.YtnbkkjcmblfhpaaGreat
