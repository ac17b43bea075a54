import Derived.Test.YtonejangijkdmaaGreatYE
namespace Go.Proofs.YtonejangijkdmaaGreat
set_option maxHeartbeats 1000000
set_option maxRecDepth 100000
open Go.RowKit
namespace Y
def lst (s : St) : Int × Int := if block s (least s) < 0 then (-1, -1) else (least s, block s (least s))
def pk (s : St) (own : Int) : Int × Int × Int :=
 if s.p.pair = true then (if O.of s.ps own < 0 then (7, 0, 0) else if O.gives s.ps own = false then (8, 0, 0) else (0, own, block s own)) else (0, (lst s).1, (lst s).2)
theorem lst_at {s : St} {j : Nat} (h : ∀ i : Nat, i < j -> block s i = -1) (h2 : block s j ≠ -1) (hj : j < 4) : lst s = ((j : Int), block s j) := by
 have hg := block_ge s j
 have h3 : 0 <= block s j := by omega
 unfold lst
 rw [least_is h h3 hj, if_neg (by omega)]
theorem lst_no {s : St} (hm : May s) {n : Nat} (hn : (n : Int) = E.no s.d) (h : ∀ i : Nat, i < n -> block s i = -1) : lst s = (-1, -1) := by
 have h4 : ∀ i : Nat, i < 4 -> block s i = -1 := fun i _ => by
  by_cases hi : i < n
  ·exact h i hi
  ·exact block_out hm (by omega)
 have hno := (E.fits_iff.1 hm.1).no
 have h5 : block s 4 = -1 := block_out hm (by omega)
 unfold lst
 rw [least_no h4, h5]; rfl
theorem grant_pk (s : St) (sub : Int) : grant s sub = if E.baseB s.d sub = false then err s 5 else if s.p.q <= cnt s.l sub then err s 6
  else if (pk s (E.baseA s.d sub)).1 ≠ 0 then err s (pk s (E.baseA s.d sub)).1 else if (pk s (E.baseA s.d sub)).2.2 = -1 then err s 7
  else ({ s with l := (L.put s.l ⟨sub, (pk s (E.baseA s.d sub)).2.1, (pk s (E.baseA s.d sub)).2.2, s.now, s.now⟩).1 }, [⟨0, s.now, sub, (pk s (E.baseA s.d sub)).2.1, (pk s (E.baseA s.d sub)).2.2, zp⟩], 0, (pk s (E.baseA s.d sub)).2.1, (pk s (E.baseA s.d sub)).2.2) := by
 unfold grant
 by_cases h1 : E.baseB s.d sub = false
 ·rw [if_pos h1, if_pos h1]
 rw [if_neg h1, if_neg h1]
 by_cases h2 : s.p.q <= cnt s.l sub
 ·rw [if_pos h2, if_pos h2]
 rw [if_neg h2, if_neg h2]
 unfold pk
 by_cases h3 : s.p.pair = true
 ·rw [if_pos h3, if_pos h3]
  by_cases h4 : O.of s.ps (E.baseA s.d sub) < 0
  ·rw [if_pos h4, if_pos h4]; rfl
  rw [if_neg h4, if_neg h4]
  by_cases h5 : O.gives s.ps (E.baseA s.d sub) = false
  ·rw [if_pos h5, if_pos h5]; rfl
  rw [if_neg h5, if_neg h5]
  have hg := block_ge s (E.baseA s.d sub)
  unfold give
  by_cases h6 : block s (E.baseA s.d sub) = -1
  ·rw [if_pos (by omega)]; simp [h6]
  ·rw [if_neg (by omega)]; simp [h6]
 ·rw [if_neg h3, if_neg h3]
  unfold give lst
  by_cases h6 : block s (least s) < 0
  ·simp [h6]
  ·have h7 : ¬ block s (least s) = -1 := by omega
   simp [h6, h7]
end Y
theorem zd8 (s : Y.St) (A : Y.A9) (x v : Int) (hv : Y.block s x = v) (w : World) (h : Y.SIn w A s) (hf : Y.Fits A s) :
  Calls Tryz.prog 164 #[Y.val s A, .int .i64 x] w fun e w' => e = .returned (.int .i64 v) /\ Below w.heap.size w w' := by
 obtain ⟨ap, np, cp, al, nl, cl, ah, nh, ch⟩ := A
 have hnp : np <= 600 := hf.p
 have hnl : nl <= 600 := hf.l
 have hnh : nh <= 600 := hf.h
 have HF := Zh hf
 have HB0 := Zh (Below.refl w.heap.size w)
 have HQ0 := Zh ((h.p : QIn w ap np cp s.ps))
 have HL0 := Zh ((h.l : RIn w al nl cl s.l))
 have HH0 := Zh ((h.h : RIn w ah nh ch s.h))
 clear h hf
 unfold Y.val
 obtain ⟨w1, hw1, hb, hk⟩ := Zn w 32 #[.int .i64 s.d.b, .int .i64 s.d.k, .int .i64 s.d.c, .int .i64 s.d.j, .int .i64 s.d.lo, .int .i64 s.d.hi, .int .i64 s.d.dy, .int .i64 s.d.bl, .int .i64 s.p.q, .int .i64 s.p.i, .int .i64 s.p.h, .bool s.p.pair, .int .i64 s.now, .slice ap np cp, .slice al nl cl, .slice ah nh ch]
 replace HQ0 := Zh (HQ0.out.below hb)
 replace HL0 := Zh (HL0.out.below hb)
 replace HH0 := Zh (HH0.out.below hb)
 replace HB0 := Zt HB0 hb
 have KS1 := Zh hk
 clear hb hk
 obtain ⟨bg, hbg⟩ : ∃ u, O.gives s.ps x = u := ⟨_, rfl⟩
 have HG := Zh hbg
 have cg := zcr ap np cp s.ps x bg hbg w1 HQ0.out (by omega)
 clear hbg
 have HV := Zh hv
 clear hv
 have c0 := Y.cs16 KS1.out
 go_enter Tryz.func164, Tryz.ntmps164
 go_wp2_with fail
 try rw [hw1]
 refine (cg).mono ?_
 clear c0
 rintro e w2 ⟨rfl, hb⟩
 replace HQ0 := Zh (HQ0.out.below hb)
 replace HL0 := Zh (HL0.out.below hb)
 replace HH0 := Zh (HH0.out.below hb)
 replace KS1 := Zk KS1 hb
 replace HB0 := Zt HB0 hb
 clear hb
 have c0 := Y.cs16 KS1.out
 clear cg
 try clear hw1
 cases bg with
 | false =>
  have HE : Hid (v = -1) := Zh (by rw [<- HV.out]; unfold Y.block; rw [HG.out]; rfl)
  go_wp2
  go_ret
  exact ⟨by rw [HE.out]; rfl, HB0.out⟩
 | true =>
  have HE : Hid (v = U.first (Y.blks s) (Y.map s x)) := Zh (by rw [<- HV.out]; unfold Y.block; rw [HG.out]; rfl)
  obtain ⟨N, hN⟩ : ∃ u, Y.blks s = u := ⟨_, rfl⟩
  obtain ⟨m, hm⟩ : ∃ u, Y.map s x = u := ⟨_, rfl⟩
  have HN := Zh hN
  have HM := Zh hm
  have cm := zll s.d al ah nl nh cl ch s.l s.h x N _ m hN rfl (by rw [<- hm, <- hN]; rfl) w2 HL0.out HH0.out (by omega) (by omega) HF.out.b HF.out.c
  clear hN hm
  go_wp2_with fail
  refine (cm).mono ?_
  clear c0
  rintro e w3 ⟨rfl, hb⟩
  replace HQ0 := Zh (HQ0.out.below hb)
  replace HL0 := Zh (HL0.out.below hb)
  replace HH0 := Zh (HH0.out.below hb)
  replace KS1 := Zk KS1 hb
  replace HB0 := Zt HB0 hb
  clear hb
  have c0 := Y.cs16 KS1.out
  clear cm
  go_wp2_with fail
  refine (zhy N m v _ (by rw [HE.out, HN.out, HM.out])).mono ?_
  clear c0
  rintro e w4 ⟨rfl, hb⟩
  replace HQ0 := Zh (HQ0.out.below hb)
  replace HL0 := Zh (HL0.out.below hb)
  replace HH0 := Zh (HH0.out.below hb)
  replace KS1 := Zk KS1 hb
  replace HB0 := Zt HB0 hb
  clear hb
  have c0 := Y.cs16 KS1.out
  go_wp2
  go_ret
  exact ⟨rfl, HB0.out⟩
theorem Y.set2b {V : World} {g : Nat} {t : TypeId} {u v : Value} (h : Blok V g t #[u, v]) (x y : Int) : Blok ((V.setCell ⟨g, 0, none⟩ (.int .i64 x)).setCell ⟨g, 1, none⟩ (.int .i64 y)) g t #[.int .i64 x, .int .i64 y] /\ V.grownBy ((V.setCell ⟨g, 0, none⟩ (.int .i64 x)).setCell ⟨g, 1, none⟩ (.int .i64 y)) (some g) := by
 refine ⟨?_, (grown_set _ _ _ _).trans (grown_set _ _ _ _)⟩
 have := (h.set 0 (.int .i64 x)).set 1 (.int .i64 y)
 simpa using this
theorem zhm (H b : Nat) (s : Y.St) (A : Y.A9) (evs : List Y.Ev) (ve : Value) (x y : Int) (w : World) (h : Y.WIn w H b s A evs ve x y) (hm : Y.May s) (hf : Y.Fits A s) :
  Calls Tryz.prog 163 #[.pointer (some ⟨b, 0, none⟩)] w fun e w' => e = .returned (.agg #[.int .i64 (Y.lst s).1, .int .i64 (Y.lst s).2]) /\ Below w.heap.size w w' := by
 obtain ⟨ap, np, cp, al, nl, cl, ah, nh, ch⟩ := A
 have HB0 := Zh (Below.refl w.heap.size w)
 have HS0 := Zh (h)
 have HM := Zh hm
 have HFF := Zh hf
 have HSS := Zh h
 clear h hm hf
 obtain ⟨w1, hw1, hb, hk⟩ := Zn w 140 #[.int .i64 0, .int .i64 0]
 have HS1 := Zh (HS0.out.below hb)
 have HB1 := Zt HB0 hb
 have KR1 := Zh hk
 clear hb hk HS0 HB0
 obtain ⟨no, hno⟩ : ∃ n : Nat, (n : Int) = E.no s.d := ⟨(E.no s.d).toNat, by have := (E.fits_iff.1 HM.out.1).no; omega⟩
 have HNO := Zh hno
 have hno4 : no <= 4 := by have := (E.fits_iff.1 HM.out.1).no; omega
 have cp := za3 s.d (no : Int) hno.symm w1
 clear hno
 obtain ⟨c0, c1, c2, c3, c4, c5, c6, c7, c8, c9, c10, c11, c12, c13, c14, c15, c16, c17, c18, c19⟩ := Y.cw20 HS1.out
 go_enter Tryz.func163, Tryz.ntmps163
 go_wp2_with fail
 try rw [hw1]
 refine (cp).mono ?_
 clear c0 c1 c2 c3 c4 c5 c6 c7 c8 c9 c10 c11 c12 c13 c14 c15 c16 c17 c18 c19
 rintro e w2 ⟨rfl, hb⟩
 have HS2 := Zh (HS1.out.below hb)
 have KR2 := Zk KR1 hb
 have HB2 := Zt HB1 hb
 clear hb HS1 KR1 HB1
 obtain ⟨c0, c1, c2, c3, c4, c5, c6, c7, c8, c9, c10, c11, c12, c13, c14, c15, c16, c17, c18, c19⟩ := Y.cw20 HS2.out
 clear cp
 try clear hw1
 go_wp2_with fail
 clear c0 c1 c2 c3 c4 c5 c6 c7 c8 c9 c10 c11 c12 c13 c14 c15 c16 c17 c18 c19
 go_loopw [11] (fun i wr => ∃ j : Nat, i = .int .i64 j /\ j <= no /\ Hid (∀ i : Nat, i < j -> Y.block s i = -1) /\ Hid (Below w2.heap.size w2 wr)) (fun i _ => no - (intOf i).toNat)
 case atStart => exact ⟨0, rfl, by omega, Zh (fun i hi => by omega), Zh (Below.refl _ _)⟩
 case round =>
  obtain ⟨j, rfl, hj, HA, HLr⟩ := hrel
  have hb := HLr.out
  have HSr := Zh (HS2.out.below hb)
  have KRr := Zk KR2 hb
  have HBr := Zt HB2 hb
  clear hb HB2 HS2 KR2
  by_cases hlt : j < no
  rotate_left
  ·have dj : decide ((j : Int) < (no : Int)) = false := by simp; omega
   have z0 := (Y.cb2 KRr.out).1
   have z1 := (Y.cb2 KRr.out).2
   have zf0 := KRr.out.frozen 0
   have zf1 := KRr.out.frozen 1
   obtain ⟨wz, hwz⟩ : ∃ W, (wr.setCell ⟨w.heap.size, 0, none⟩ (.int .i64 (-1))).setCell ⟨w.heap.size, 1, none⟩ (.int .i64 (-1)) = W := ⟨_, rfl⟩
   obtain ⟨kz, gz⟩ := Y.set2b KRr.out ((-1)) ((-1))
   rw [hwz] at kz gz
   have HKZ := Zh kz
   have HBZ := Zh (HBr.out.grown gz HBr.out.size (fun q hq => by cases hq; exact Nat.le_refl _))
   clear kz gz
   have HE : Hid (Y.lst s = ((-1), (-1))) := Zh (Y.lst_no HM.out HNO.out (fun i hi => HA.out i (by omega)))
   go_wp2
   refine bodyPost_ret (zd2 rfl w.heap.size ((-1)) ((-1)) (by kernel_rfl) HKZ.out) rfl ?_
   exact ⟨by rw [HE.out], HBZ.out⟩
  have dj : decide ((j : Int) < (no : Int)) = true := by simp; omega
  obtain ⟨v, hv⟩ : ∃ v, Y.block s (j : Int) = v := ⟨_, rfl⟩
  have HV := Zh hv
  obtain ⟨c0, c1, c2, c3, c4, c5, c6, c7, c8, c9, c10, c11, c12, c13, c14, c15, c16, c17, c18, c19⟩ := Y.cw20 HSr.out
  have cb := zd8 s ⟨ap, np, cp, al, nl, cl, ah, nh, ch⟩ (j : Int) v hv wr HSr.out.i HFF.out
  unfold Y.val at cb
  clear hv
  go_wp2_with fail
  refine cb.mono ?_
  clear c0 c1 c2 c3 c4 c5 c6 c7 c8 c9 c10 c11 c12 c13 c14 c15 c16 c17 c18 c19
  rintro e w5 ⟨rfl, hb⟩
  have HS5 := Zh (HSr.out.below hb)
  have KR5 := Zk KRr hb
  have HB5 := Zt HBr hb
  have HL5 := Zt HLr hb
  clear hb HSr KRr HBr HLr cb
  have HB5 := HB5
  obtain ⟨w6, hw6, hb, hk⟩ := Zn w5 140 #[.int .i64 (j : Int), .int .i64 v]
  have HS6 := Zh (HS5.out.below hb)
  have KR6 := Zk KR5 hb
  have HB6 := Zt HB5 hb
  replace HL5 := Zt HL5 hb
  have KQ6 := Zh hk
  clear hb hk HS5 KR5 HB5
  have q0 := (Y.cb2 KQ6.out).1
  have q1 := (Y.cb2 KQ6.out).2
  by_cases hv1 : v = -1
  rotate_left
  ·have e1 : (v != -1) = true := by simpa using hv1
   have z0 := (Y.cb2 KR6.out).1
   have z1 := (Y.cb2 KR6.out).2
   have zf0 := KR6.out.frozen 0
   have zf1 := KR6.out.frozen 1
   obtain ⟨wz, hwz⟩ : ∃ W, (w6.setCell ⟨w.heap.size, 0, none⟩ (.int .i64 (j : Int))).setCell ⟨w.heap.size, 1, none⟩ (.int .i64 v) = W := ⟨_, rfl⟩
   obtain ⟨kz, gz⟩ := Y.set2b KR6.out ((j : Int)) (v)
   rw [hwz] at kz gz
   have HKZ := Zh kz
   have HBZ := Zh (HB6.out.grown gz HB6.out.size (fun q hq => by cases hq; exact Nat.le_refl _))
   clear kz gz
   have HE : Hid (Y.lst s = ((j : Int), v)) := Zh (by rw [Y.lst_at HA.out (by rw [HV.out]; exact hv1) (by omega), HV.out])
   go_wp2
   refine bodyPost_ret (zd2 rfl w.heap.size ((j : Int)) (v) (by kernel_rfl) HKZ.out) rfl ?_
   exact ⟨by rw [HE.out], HBZ.out⟩
  subst hv1
  have e1 : ((-1 : Int) != -1) = false := rfl
  go_wp2
  go_roundw
  case rel => exact ⟨j + 1, by go_num, by omega, Zh (fun i hi => by
   by_cases hij : i = j
   ·subst hij; exact HV.out
   ·exact HA.out i (by omega)), HL5⟩
  case measure => simp [intOf] <;> omega
theorem zhn (H b : Nat) (s : Y.St) (A : Y.A9) (evs : List Y.Ev) (ve : Value) (x y : Int) (own : Int) (w : World) (h : Y.WIn w H b s A evs ve x y) (hm : Y.May s) (hf : Y.Fits A s) (hpr : s.p.pair = true) (ho : O.of s.ps own < 0) :
  Calls Tryz.prog 134 #[.pointer (some ⟨b, 0, none⟩), .int .i64 own] w fun e w' => e = .panicked (Y.pan 7) /\ Below w.heap.size w w' := by
 obtain ⟨ap, np, cp, al, nl, cl, ah, nh, ch⟩ := A
 have HB0 := Zh (Below.refl w.heap.size w)
 have HS0 := Zh (h)
 have HM := Zh hm
 have HFF := Zh hf
 have hnp : np <= 600 := hf.p
 clear h hm hf
 obtain ⟨w1, hw1, hb, hk⟩ := Zn w 140 #[.int .i64 0, .int .i64 0]
 replace HS0 := Zh (HS0.out.below hb)
 replace HB0 := Zt HB0 hb
 have KR1 := Zh hk
 clear hb hk
 obtain ⟨c0, c1, c2, c3, c4, c5, c6, c7, c8, c9, c10, c11, c12, c13, c14, c15, c16, c17, c18, c19⟩ := Y.cw20 HS0.out
 rw [hpr] at c11
 clear hpr
 go_enter Tryz.func134, Tryz.ntmps134
 obtain ⟨rr, hr⟩ : ∃ v, O.of s.ps own = v := ⟨_, rfl⟩
 have hr1 := O.of_range s.ps own
 rw [hr] at hr1
 have cr := zdo ap np cp s.ps own rr hr w1 HS0.out.i.p (by omega)
 obtain rfl : rr = -1 := by rw [hr] at ho; omega
 have e1 : ((-1 : Int) != -1) = false := rfl
 clear hr ho
 go_wp2_with fail
 try rw [hw1]
 refine (cr).mono ?_
 clear c0 c1 c2 c3 c4 c5 c6 c7 c8 c9 c10 c11 c12 c13 c14 c15 c16 c17 c18 c19
 rintro e w2 ⟨rfl, hb⟩
 replace HS0 := Zh (HS0.out.below hb)
 replace KR1 := Zk KR1 hb
 replace HB0 := Zt HB0 hb
 clear hb
 obtain ⟨c0, c1, c2, c3, c4, c5, c6, c7, c8, c9, c10, c11, c12, c13, c14, c15, c16, c17, c18, c19⟩ := Y.cw20 HS0.out
 clear cr
 try clear hw1
 go_wp2_with fail
 refine (za0 7 _).mono ?_
 clear c0 c1 c2 c3 c4 c5 c6 c7 c8 c9 c10 c11 c12 c13 c14 c15 c16 c17 c18 c19
 rintro e w3 ⟨rfl, hb⟩
 replace HS0 := Zh (HS0.out.below hb)
 replace KR1 := Zk KR1 hb
 replace HB0 := Zt HB0 hb
 clear hb
 obtain ⟨c0, c1, c2, c3, c4, c5, c6, c7, c8, c9, c10, c11, c12, c13, c14, c15, c16, c17, c18, c19⟩ := Y.cw20 HS0.out
 go_wp2
 exact ⟨rfl, rfl, HB0.out⟩
theorem zgj (H b : Nat) (s : Y.St) (A : Y.A9) (evs : List Y.Ev) (ve : Value) (x y : Int) (own : Int) (w : World) (h : Y.WIn w H b s A evs ve x y) (hm : Y.May s) (hf : Y.Fits A s) (hpr : s.p.pair = true) (ho : 0 <= O.of s.ps own) (hg : O.gives s.ps own = false) :
  Calls Tryz.prog 134 #[.pointer (some ⟨b, 0, none⟩), .int .i64 own] w fun e w' => e = .panicked (Y.pan 8) /\ Below w.heap.size w w' := by
 obtain ⟨ap, np, cp, al, nl, cl, ah, nh, ch⟩ := A
 have HB0 := Zh (Below.refl w.heap.size w)
 have HS0 := Zh (h)
 have HM := Zh hm
 have HFF := Zh hf
 have hnp : np <= 600 := hf.p
 clear h hm hf
 obtain ⟨w1, hw1, hb, hk⟩ := Zn w 140 #[.int .i64 0, .int .i64 0]
 replace HS0 := Zh (HS0.out.below hb)
 replace HB0 := Zt HB0 hb
 have KR1 := Zh hk
 clear hb hk
 obtain ⟨c0, c1, c2, c3, c4, c5, c6, c7, c8, c9, c10, c11, c12, c13, c14, c15, c16, c17, c18, c19⟩ := Y.cw20 HS0.out
 rw [hpr] at c11
 clear hpr
 go_enter Tryz.func134, Tryz.ntmps134
 obtain ⟨rr, hr⟩ : ∃ v, O.of s.ps own = v := ⟨_, rfl⟩
 have hr1 := O.of_range s.ps own
 rw [hr] at hr1
 have cr := zdo ap np cp s.ps own rr hr w1 HS0.out.i.p (by omega)
 have e1 : (rr != -1) = true := by rw [hr] at ho; simp; omega
 clear hr ho
 go_wp2_with fail
 try rw [hw1]
 refine (cr).mono ?_
 clear c0 c1 c2 c3 c4 c5 c6 c7 c8 c9 c10 c11 c12 c13 c14 c15 c16 c17 c18 c19
 rintro e w2 ⟨rfl, hb⟩
 replace HS0 := Zh (HS0.out.below hb)
 replace KR1 := Zk KR1 hb
 replace HB0 := Zt HB0 hb
 clear hb
 obtain ⟨c0, c1, c2, c3, c4, c5, c6, c7, c8, c9, c10, c11, c12, c13, c14, c15, c16, c17, c18, c19⟩ := Y.cw20 HS0.out
 clear cr
 try clear hw1
 go_wp2_with fail
 refine (zag 7 _).mono ?_
 clear c0 c1 c2 c3 c4 c5 c6 c7 c8 c9 c10 c11 c12 c13 c14 c15 c16 c17 c18 c19
 rintro e w3 ⟨rfl, hb⟩
 replace HS0 := Zh (HS0.out.below hb)
 replace KR1 := Zk KR1 hb
 replace HB0 := Zt HB0 hb
 clear hb
 obtain ⟨c0, c1, c2, c3, c4, c5, c6, c7, c8, c9, c10, c11, c12, c13, c14, c15, c16, c17, c18, c19⟩ := Y.cw20 HS0.out
 have cg := zcr ap np cp s.ps own false hg w3 HS0.out.i.p (by omega)
 clear hg
 go_wp2_with fail
 refine (cg).mono ?_
 clear c0 c1 c2 c3 c4 c5 c6 c7 c8 c9 c10 c11 c12 c13 c14 c15 c16 c17 c18 c19
 rintro e w4 ⟨rfl, hb⟩
 replace HS0 := Zh (HS0.out.below hb)
 replace KR1 := Zk KR1 hb
 replace HB0 := Zt HB0 hb
 clear hb
 obtain ⟨c0, c1, c2, c3, c4, c5, c6, c7, c8, c9, c10, c11, c12, c13, c14, c15, c16, c17, c18, c19⟩ := Y.cw20 HS0.out
 clear cg
 go_wp2_with fail
 refine (za0 8 _).mono ?_
 clear c0 c1 c2 c3 c4 c5 c6 c7 c8 c9 c10 c11 c12 c13 c14 c15 c16 c17 c18 c19
 rintro e w5 ⟨rfl, hb⟩
 replace HS0 := Zh (HS0.out.below hb)
 replace KR1 := Zk KR1 hb
 replace HB0 := Zt HB0 hb
 clear hb
 obtain ⟨c0, c1, c2, c3, c4, c5, c6, c7, c8, c9, c10, c11, c12, c13, c14, c15, c16, c17, c18, c19⟩ := Y.cw20 HS0.out
 go_wp2
 exact ⟨rfl, rfl, HB0.out⟩
theorem zje (H b : Nat) (s : Y.St) (A : Y.A9) (evs : List Y.Ev) (ve : Value) (x y : Int) (own : Int) (w : World) (h : Y.WIn w H b s A evs ve x y) (hm : Y.May s) (hf : Y.Fits A s) (hpr : s.p.pair = true) (ho : 0 <= O.of s.ps own) (hg : O.gives s.ps own = true) :
  Calls Tryz.prog 134 #[.pointer (some ⟨b, 0, none⟩), .int .i64 own] w fun e w' => e = .returned (.agg #[.int .i64 own, .int .i64 (Y.block s own)]) /\ Below w.heap.size w w' := by
 obtain ⟨ap, np, cp, al, nl, cl, ah, nh, ch⟩ := A
 have HB0 := Zh (Below.refl w.heap.size w)
 have HS0 := Zh (h)
 have HM := Zh hm
 have HFF := Zh hf
 have hnp : np <= 600 := hf.p
 clear h hm hf
 obtain ⟨w1, hw1, hb, hk⟩ := Zn w 140 #[.int .i64 0, .int .i64 0]
 replace HS0 := Zh (HS0.out.below hb)
 replace HB0 := Zt HB0 hb
 have KR1 := Zh hk
 clear hb hk
 obtain ⟨c0, c1, c2, c3, c4, c5, c6, c7, c8, c9, c10, c11, c12, c13, c14, c15, c16, c17, c18, c19⟩ := Y.cw20 HS0.out
 rw [hpr] at c11
 clear hpr
 obtain ⟨v, hv⟩ : ∃ v, Y.block s own = v := ⟨_, rfl⟩
 have HV := Zh hv
 rw [hv]
 clear hv
 go_enter Tryz.func134, Tryz.ntmps134
 obtain ⟨rr, hr⟩ : ∃ v, O.of s.ps own = v := ⟨_, rfl⟩
 have hr1 := O.of_range s.ps own
 rw [hr] at hr1
 have cr := zdo ap np cp s.ps own rr hr w1 HS0.out.i.p (by omega)
 have e1 : (rr != -1) = true := by rw [hr] at ho; simp; omega
 clear hr ho
 go_wp2_with fail
 try rw [hw1]
 refine (cr).mono ?_
 clear c0 c1 c2 c3 c4 c5 c6 c7 c8 c9 c10 c11 c12 c13 c14 c15 c16 c17 c18 c19
 rintro e w2 ⟨rfl, hb⟩
 replace HS0 := Zh (HS0.out.below hb)
 replace KR1 := Zk KR1 hb
 replace HB0 := Zt HB0 hb
 clear hb
 obtain ⟨c0, c1, c2, c3, c4, c5, c6, c7, c8, c9, c10, c11, c12, c13, c14, c15, c16, c17, c18, c19⟩ := Y.cw20 HS0.out
 clear cr
 try clear hw1
 go_wp2_with fail
 refine (zag 7 _).mono ?_
 clear c0 c1 c2 c3 c4 c5 c6 c7 c8 c9 c10 c11 c12 c13 c14 c15 c16 c17 c18 c19
 rintro e w3 ⟨rfl, hb⟩
 replace HS0 := Zh (HS0.out.below hb)
 replace KR1 := Zk KR1 hb
 replace HB0 := Zt HB0 hb
 clear hb
 obtain ⟨c0, c1, c2, c3, c4, c5, c6, c7, c8, c9, c10, c11, c12, c13, c14, c15, c16, c17, c18, c19⟩ := Y.cw20 HS0.out
 have cg := zcr ap np cp s.ps own true hg w3 HS0.out.i.p (by omega)
 clear hg
 go_wp2_with fail
 refine (cg).mono ?_
 clear c0 c1 c2 c3 c4 c5 c6 c7 c8 c9 c10 c11 c12 c13 c14 c15 c16 c17 c18 c19
 rintro e w4 ⟨rfl, hb⟩
 replace HS0 := Zh (HS0.out.below hb)
 replace KR1 := Zk KR1 hb
 replace HB0 := Zt HB0 hb
 clear hb
 obtain ⟨c0, c1, c2, c3, c4, c5, c6, c7, c8, c9, c10, c11, c12, c13, c14, c15, c16, c17, c18, c19⟩ := Y.cw20 HS0.out
 clear cg
 go_wp2_with fail
 refine (zag 8 _).mono ?_
 clear c0 c1 c2 c3 c4 c5 c6 c7 c8 c9 c10 c11 c12 c13 c14 c15 c16 c17 c18 c19
 rintro e w5 ⟨rfl, hb⟩
 replace HS0 := Zh (HS0.out.below hb)
 replace KR1 := Zk KR1 hb
 replace HB0 := Zt HB0 hb
 clear hb
 obtain ⟨c0, c1, c2, c3, c4, c5, c6, c7, c8, c9, c10, c11, c12, c13, c14, c15, c16, c17, c18, c19⟩ := Y.cw20 HS0.out
 have cb := zd8 s ⟨ap, np, cp, al, nl, cl, ah, nh, ch⟩ own v HV.out w5 HS0.out.i HFF.out
 unfold Y.val at cb
 go_wp2_with fail
 refine (cb).mono ?_
 clear c0 c1 c2 c3 c4 c5 c6 c7 c8 c9 c10 c11 c12 c13 c14 c15 c16 c17 c18 c19
 rintro e w6 ⟨rfl, hb⟩
 replace HS0 := Zh (HS0.out.below hb)
 replace KR1 := Zk KR1 hb
 replace HB0 := Zt HB0 hb
 clear hb
 obtain ⟨c0, c1, c2, c3, c4, c5, c6, c7, c8, c9, c10, c11, c12, c13, c14, c15, c16, c17, c18, c19⟩ := Y.cw20 HS0.out
 clear cb
 clear c0 c1 c2 c3 c4 c5 c6 c7 c8 c9 c10 c11 c12 c13 c14 c15 c16 c17 c18 c19
 have z0 := (Y.cb2 KR1.out).1
 have z1 := (Y.cb2 KR1.out).2
 have zf0 := KR1.out.frozen 0
 have zf1 := KR1.out.frozen 1
 obtain ⟨wz, hwz⟩ : ∃ W, (w6.setCell ⟨w.heap.size, 0, none⟩ (.int .i64 own)).setCell ⟨w.heap.size, 1, none⟩ (.int .i64 v) = W := ⟨_, rfl⟩
 obtain ⟨kz, gz⟩ := Y.set2b KR1.out (own) (v)
 rw [hwz] at kz gz
 have HKZ := Zh kz
 have HBZ := Zh (HB0.out.grown gz HB0.out.size (fun q hq => by cases hq; exact Nat.le_refl _))
 clear kz gz
 go_wp2
 refine bodyPost_ret (zd2 rfl w.heap.size (own) (v) (by kernel_rfl) HKZ.out) rfl ?_
 exact ⟨rfl, HBZ.out⟩
theorem zgk (H b : Nat) (s : Y.St) (A : Y.A9) (evs : List Y.Ev) (ve : Value) (x y : Int) (own : Int) (w : World) (h : Y.WIn w H b s A evs ve x y) (hm : Y.May s) (hf : Y.Fits A s) (hpr : s.p.pair = false) :
  Calls Tryz.prog 134 #[.pointer (some ⟨b, 0, none⟩), .int .i64 own] w fun e w' => e = .returned (.agg #[.int .i64 (Y.lst s).1, .int .i64 (Y.lst s).2]) /\ Below w.heap.size w w' := by
 obtain ⟨ap, np, cp, al, nl, cl, ah, nh, ch⟩ := A
 have HB0 := Zh (Below.refl w.heap.size w)
 have HS0 := Zh (h)
 have HM := Zh hm
 have HFF := Zh hf
 have hnp : np <= 600 := hf.p
 clear h hm hf
 obtain ⟨w1, hw1, hb, hk⟩ := Zn w 140 #[.int .i64 0, .int .i64 0]
 replace HS0 := Zh (HS0.out.below hb)
 replace HB0 := Zt HB0 hb
 have KR1 := Zh hk
 clear hb hk
 obtain ⟨c0, c1, c2, c3, c4, c5, c6, c7, c8, c9, c10, c11, c12, c13, c14, c15, c16, c17, c18, c19⟩ := Y.cw20 HS0.out
 rw [hpr] at c11
 clear hpr
 go_enter Tryz.func134, Tryz.ntmps134
 obtain ⟨la, hla⟩ : ∃ v, (Y.lst s).1 = v := ⟨_, rfl⟩
 obtain ⟨lb, hlb⟩ : ∃ v, (Y.lst s).2 = v := ⟨_, rfl⟩
 have cl := zhm H b s ⟨ap, np, cp, al, nl, cl, ah, nh, ch⟩ evs ve x y w1 HS0.out HM.out HFF.out
 rw [hla, hlb] at cl
 rw [hla, hlb]
 clear hla hlb
 go_wp2_with fail
 try rw [hw1]
 refine (cl).mono ?_
 clear c0 c1 c2 c3 c4 c5 c6 c7 c8 c9 c10 c11 c12 c13 c14 c15 c16 c17 c18 c19
 rintro e w2 ⟨rfl, hb⟩
 replace HS0 := Zh (HS0.out.below hb)
 replace KR1 := Zk KR1 hb
 replace HB0 := Zt HB0 hb
 clear hb
 obtain ⟨c0, c1, c2, c3, c4, c5, c6, c7, c8, c9, c10, c11, c12, c13, c14, c15, c16, c17, c18, c19⟩ := Y.cw20 HS0.out
 clear cl
 try clear hw1
 clear c0 c1 c2 c3 c4 c5 c6 c7 c8 c9 c10 c11 c12 c13 c14 c15 c16 c17 c18 c19
 have z0 := (Y.cb2 KR1.out).1
 have z1 := (Y.cb2 KR1.out).2
 have zf0 := KR1.out.frozen 0
 have zf1 := KR1.out.frozen 1
 obtain ⟨wz, hwz⟩ : ∃ W, (w2.setCell ⟨w.heap.size, 0, none⟩ (.int .i64 la)).setCell ⟨w.heap.size, 1, none⟩ (.int .i64 lb) = W := ⟨_, rfl⟩
 obtain ⟨kz, gz⟩ := Y.set2b KR1.out (la) (lb)
 rw [hwz] at kz gz
 have HKZ := Zh kz
 have HBZ := Zh (HB0.out.grown gz HB0.out.size (fun q hq => by cases hq; exact Nat.le_refl _))
 clear kz gz
 go_wp2
 refine bodyPost_ret (zd2 rfl w.heap.size (la) (lb) (by kernel_rfl) HKZ.out) rfl ?_
 exact ⟨rfl, HBZ.out⟩
end Go.Proofs.YtonejangijkdmaaGreat
