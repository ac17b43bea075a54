import Derived.Test.YtonejangijkdmaaGreatQI
import Derived.Test.YtonejangijkdmaaGreatQYZ
namespace Go.Proofs.YtonejangijkdmaaGreat
set_option maxHeartbeats 2000000
set_option maxRecDepth 100000
open Go.RowKit
theorem Y.po_ext {p q : Y.Po} (h : p.q = q.q /\ p.i = q.i /\ p.h = q.h /\ p.pair = q.pair) : p = q := by
 cases p; cases q; simp_all
theorem zk3 (s t : Y.St) (A A2 : Y.A9) (w : World) (h : Y.SIn w A s) (h2 : Y.SIn w A2 t) (hn : A.np <= 600 /\ A.nl <= 600 /\ A.nh <= 600) (hne : ¬ (s.d = t.d /\ s.p = t.p /\ s.now = t.now)) :
  Calls Tryz.prog 23 #[Y.val s A, Y.val t A2] w fun e w' => e = .returned (.bool false) /\ Below w.heap.size w w' := by
 obtain ⟨ap, np, cp, al, nl, cl, ah, nh, ch⟩ := A
 have HB0 := Zh (Below.refl w.heap.size w)
 have HQ0 := Zh ((h.p : QIn w ap np cp s.ps))
 have HL0 := Zh ((h.l : RIn w al nl cl s.l))
 have HH0 := Zh ((h.h : RIn w ah nh ch s.h))
 obtain ⟨ap2, np2, cp2, al2, nl2, cl2, ah2, nh2, ch2⟩ := A2
 have HQ20 := Zh ((h2.p : QIn w ap2 np2 cp2 t.ps))
 have HL20 := Zh ((h2.l : RIn w al2 nl2 cl2 t.l))
 have HH20 := Zh ((h2.h : RIn w ah2 nh2 ch2 t.h))
 have hnp : np <= 600 := hn.1
 have hnl : nl <= 600 := hn.2.1
 have hnh : nh <= 600 := hn.2.2
 clear h h2 hn
 unfold Y.val
 obtain ⟨w1, hw1, hb, hk⟩ := Zn w 32 #[s.d.b, s.d.k, s.d.c, s.d.j, s.d.lo, s.d.hi, s.d.dy, s.d.bl, s.p.q, s.p.i, s.p.h, s.p.pair, s.now, .slice ap np cp, .slice al nl cl, .slice ah nh ch]
 have HQ1 := Zh (HQ0.out.below hb)
 have HL1 := Zh (HL0.out.below hb)
 have HH1 := Zh (HH0.out.below hb)
 have HQ21 := Zh (HQ20.out.below hb)
 have HL21 := Zh (HL20.out.below hb)
 have HH21 := Zh (HH20.out.below hb)
 replace HB0 := Zt HB0 hb
 have KS1 := Zh hk
 clear hb hk HQ0 HL0 HH0 HQ20 HL20 HH20
 obtain ⟨w2, hw2, hb, hk⟩ := Zn w1 32 #[t.d.b, t.d.k, t.d.c, t.d.j, t.d.lo, t.d.hi, t.d.dy, t.d.bl, t.p.q, t.p.i, t.p.h, t.p.pair, t.now, .slice ap2 np2 cp2, .slice al2 nl2 cl2, .slice ah2 nh2 ch2]
 have HQ2 := Zh (HQ1.out.below hb)
 have HL2 := Zh (HL1.out.below hb)
 have HH2 := Zh (HH1.out.below hb)
 have HQ22 := Zh (HQ21.out.below hb)
 have HL22 := Zh (HL21.out.below hb)
 have HH22 := Zh (HH21.out.below hb)
 replace KS1 := Zk KS1 hb
 replace HB0 := Zt HB0 hb
 have KT2 := Zh hk
 clear hb hk HQ1 HL1 HH1 HQ21 HL21 HH21
 have c0 := Y.cs16 KS1.out
 have e0 := Y.cs16 KT2.out
 have HNE := Zh hne
 clear hne
 go_enter Tryz.func23, Tryz.ntmps23
 go_wp2_with fail
 all_goals first
  | (go_ret; exact ⟨rfl, HB0.out⟩)
  | (exfalso; refine HNE.out ⟨Y.d_ext ⟨?_, ?_, ?_, ?_, ?_, ?_, ?_, ?_⟩, Y.po_ext ⟨?_, ?_, ?_, ?_⟩, ?_⟩ <;> assumption)
theorem zjn (s t : Y.St) (A A2 : Y.A9) (w : World) (h : Y.SIn w A s) (h2 : Y.SIn w A2 t) (hn : A.np <= 600 /\ A.nl <= 600 /\ A.nh <= 600) (v : Bool) (hv : decide (s = t) = v) (heq : s.d = t.d /\ s.p = t.p /\ s.now = t.now) :
  Calls Tryz.prog 23 #[Y.val s A, Y.val t A2] w fun e w' => e = .returned (.bool v) /\ Below w.heap.size w w' := by
 obtain ⟨sd, sp, sn, sps, sl, sh⟩ := s
 simp only at heq
 obtain ⟨rfl, rfl, rfl⟩ := heq
 obtain ⟨ap, np, cp, al, nl, cl, ah, nh, ch⟩ := A
 have HB0 := Zh (Below.refl w.heap.size w)
 have HQ0 := Zh ((h.p : QIn w ap np cp sps))
 have HL0 := Zh ((h.l : RIn w al nl cl sl))
 have HH0 := Zh ((h.h : RIn w ah nh ch sh))
 obtain ⟨ap2, np2, cp2, al2, nl2, cl2, ah2, nh2, ch2⟩ := A2
 have HQ20 := Zh ((h2.p : QIn w ap2 np2 cp2 t.ps))
 have HL20 := Zh ((h2.l : RIn w al2 nl2 cl2 t.l))
 have HH20 := Zh ((h2.h : RIn w ah2 nh2 ch2 t.h))
 have hnp : np <= 600 := hn.1
 have hnl : nl <= 600 := hn.2.1
 have hnh : nh <= 600 := hn.2.2
 clear h h2 hn
 unfold Y.val
 obtain ⟨u1, hu1⟩ : ∃ u, decide (sps = t.ps) = u := ⟨_, rfl⟩
 obtain ⟨u2, hu2⟩ : ∃ u, decide (sl = t.l) = u := ⟨_, rfl⟩
 obtain ⟨u3, hu3⟩ : ∃ u, decide (sh = t.h) = u := ⟨_, rfl⟩
 have HV : Hid (v = (u1 && u2 && u3)) := Zh (by rw [<- hv, <- hu1, <- hu2, <- hu3, Bool.eq_iff_iff]; simp only [Bool.and_eq_true, decide_eq_true_eq]; exact ⟨fun e => by rw [<- e]; exact ⟨⟨rfl, rfl⟩, rfl⟩, fun e => Y.st_ext rfl rfl rfl e.1.1 e.1.2 e.2⟩)
 have HU1 := Zh hu1
 have HU2 := Zh hu2
 have HU3 := Zh hu3
 clear hv hu1 hu2 hu3
 obtain ⟨w1, hw1, hb, hk⟩ := Zn w 32 #[t.d.b, t.d.k, t.d.c, t.d.j, t.d.lo, t.d.hi, t.d.dy, t.d.bl, t.p.q, t.p.i, t.p.h, t.p.pair, t.now, .slice ap np cp, .slice al nl cl, .slice ah nh ch]
 have HQ1 := Zh (HQ0.out.below hb)
 have HL1 := Zh (HL0.out.below hb)
 have HH1 := Zh (HH0.out.below hb)
 have HQ21 := Zh (HQ20.out.below hb)
 have HL21 := Zh (HL20.out.below hb)
 have HH21 := Zh (HH20.out.below hb)
 replace HB0 := Zt HB0 hb
 have KS1 := Zh hk
 clear hb hk HQ0 HL0 HH0 HQ20 HL20 HH20
 obtain ⟨w2, hw2, hb, hk⟩ := Zn w1 32 #[t.d.b, t.d.k, t.d.c, t.d.j, t.d.lo, t.d.hi, t.d.dy, t.d.bl, t.p.q, t.p.i, t.p.h, t.p.pair, t.now, .slice ap2 np2 cp2, .slice al2 nl2 cl2, .slice ah2 nh2 ch2]
 have HQ2 := Zh (HQ1.out.below hb)
 have HL2 := Zh (HL1.out.below hb)
 have HH2 := Zh (HH1.out.below hb)
 have HQ22 := Zh (HQ21.out.below hb)
 have HL22 := Zh (HL21.out.below hb)
 have HH22 := Zh (HH21.out.below hb)
 replace KS1 := Zk KS1 hb
 replace HB0 := Zt HB0 hb
 have KT2 := Zh hk
 clear hb hk HQ1 HL1 HH1 HQ21 HL21 HH21
 have c0 := Y.cs16 (s := t) KS1.out
 have e0 := Y.cs16 KT2.out
 go_enter Tryz.func23, Tryz.ntmps23
 go_wp2_with fail
 try rw [hw1]
 try rw [hw2]
 refine (zfb ap ap2 np np2 cp cp2 sps t.ps w2 HQ2.out HQ22.out (by omega) u1 HU1.out).mono ?_
 clear c0
 clear e0
 rintro e w3 ⟨rfl, hb⟩
 have HQ3 := Zh (HQ2.out.below hb)
 have HL3 := Zh (HL2.out.below hb)
 have HH3 := Zh (HH2.out.below hb)
 have HQ23 := Zh (HQ22.out.below hb)
 have HL23 := Zh (HL22.out.below hb)
 have HH23 := Zh (HH22.out.below hb)
 replace KS1 := Zk KS1 hb
 replace KT2 := Zk KT2 hb
 replace HB0 := Zt HB0 hb
 clear hb HQ2 HL2 HH2 HQ22 HL22 HH22
 have c0 := Y.cs16 (s := t) KS1.out
 have e0 := Y.cs16 KT2.out
 clear hw1 hw2
 cases u1 with
 | false =>
  go_wp2
  go_ret
  exact ⟨by rw [HV.out]; rfl, HB0.out⟩
 | true =>
  go_wp2_with fail
  refine (zgv al al2 nl nl2 cl cl2 sl t.l w3 HL3.out HL23.out (by omega) u2 HU2.out).mono ?_
  clear c0
  clear e0
  rintro e w4 ⟨rfl, hb⟩
  have HQ4 := Zh (HQ3.out.below hb)
  have HL4 := Zh (HL3.out.below hb)
  have HH4 := Zh (HH3.out.below hb)
  have HQ24 := Zh (HQ23.out.below hb)
  have HL24 := Zh (HL23.out.below hb)
  have HH24 := Zh (HH23.out.below hb)
  replace KS1 := Zk KS1 hb
  replace KT2 := Zk KT2 hb
  replace HB0 := Zt HB0 hb
  clear hb HQ3 HL3 HH3 HQ23 HL23 HH23
  have c0 := Y.cs16 (s := t) KS1.out
  have e0 := Y.cs16 KT2.out
  cases u2 with
  | false =>
   go_wp2
   go_ret
   exact ⟨by rw [HV.out]; rfl, HB0.out⟩
  | true =>
   go_wp2_with fail
   refine (ze9 ah ah2 nh nh2 ch ch2 sh t.h w4 HH4.out HH24.out (by omega) u3 HU3.out).mono ?_
   clear c0
   clear e0
   rintro e w5 ⟨rfl, hb⟩
   have HQ5 := Zh (HQ4.out.below hb)
   have HL5 := Zh (HL4.out.below hb)
   have HH5 := Zh (HH4.out.below hb)
   have HQ25 := Zh (HQ24.out.below hb)
   have HL25 := Zh (HL24.out.below hb)
   have HH25 := Zh (HH24.out.below hb)
   replace KS1 := Zk KS1 hb
   replace KT2 := Zk KT2 hb
   replace HB0 := Zt HB0 hb
   clear hb HQ4 HL4 HH4 HQ24 HL24 HH24
   have c0 := Y.cs16 (s := t) KS1.out
   have e0 := Y.cs16 KT2.out
   cases u3 with
   | false =>
    go_wp2
    go_ret
    exact ⟨by rw [HV.out]; rfl, HB0.out⟩
   | true =>
    go_wp2
    go_ret
    exact ⟨by rw [HV.out]; rfl, HB0.out⟩
theorem zea (s t : Y.St) (A A2 : Y.A9) (w : World) (h : Y.SIn w A s) (h2 : Y.SIn w A2 t) (hn : A.np <= 600 /\ A.nl <= 600 /\ A.nh <= 600) (v : Bool) (hv : decide (s = t) = v) :
  Calls Tryz.prog 23 #[Y.val s A, Y.val t A2] w fun e w' => e = .returned (.bool v) /\ Below w.heap.size w w' := by
 by_cases he : s.d = t.d /\ s.p = t.p /\ s.now = t.now
 ·exact zjn s t A A2 w h h2 hn v hv he
 ·obtain rfl : v = false := by rw [<- hv]; exact decide_eq_false fun e => he (by subst e; exact ⟨rfl, rfl, rfl⟩)
  exact zk3 s t A A2 w h h2 hn he
end Go.Proofs.YtonejangijkdmaaGreat
