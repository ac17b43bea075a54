import Derived.Test.YtijkbflimbffmaaGreatP34
import Derived.Test.YtijkbflimbffmaaGreatP38
import Derived.Test.YtijkbflimbffmaaGreatP39
import Derived.Test.YtijkbflimbffmaaGreatP40
import Derived.Test.YtijkbflimbffmaaGreatP6
import Derived.Test.YtijkbflimbffmaaGreatP11
import Derived.Test.YtijkbflimbffmaaGreatP10
import Derived.Test.YtijkbflimbffmaaGreatP17
namespace Go.Proofs.YtijkbflimbffmaaGreat
open Go.RowKit
theorem zr7 (s : Y.St) (A : Y.A9) (e : Y.Ev) (t : Y.St) (f : Int) (hs : J.apply s e = (t, f)) (w : World) (h : Y.SIn w A s) (hf : Y.Fits A s) :
  Calls Tryz.prog 14 #[Y.val s A, Y.eval e] w fun r w' => ∃ A', r = .returned (.tuple #[Y.val t A', .int .i64 f]) /\ Hid (J.Got w' w.heap.size t A') /\ Below w.heap.size w w' := by
 by_cases hok : Y.May s /\ N.May e /\ ¬ e.t < s.now
 ·cases hmo : J.made (J.settled s e.t) e with
  | none => exact zrd s A e t f hs w h hf hok hmo
  | some u =>
   by_cases hu : Y.May u
   ·exact zre s A e t f hs w h hf hok u hmo (decide_eq_true hu)
   ·exact zr6 s A e t f hs w h hf hok u hmo (decide_eq_false hu)
 ·exact zsm s A e t f hs w h hf (fun h1 h2 => by
   by_cases h3 : e.t < s.now
   ·exact h3
   ·exact absurd ⟨h1, h2, h3⟩ hok)
end Go.Proofs.YtijkbflimbffmaaGreat
namespace Go.Proofs.YtijkbflimbffmaaGreat
open Go.RowKit
theorem znm (s : Y.St) (A : Y.A9) (e : Y.Ev) (t : Y.St) (f : Int) (hs : J.apply s e = (t, f)) (w : World) (h : Y.SIn w A s) (hf : Y.Fits A s) :
  Calls Tryz.prog 14 #[Y.val s A, Y.eval e] w fun r w' => ∃ (xap : Option Addr) (xnp xcp : Nat) (xal : Option Addr) (xnl xcl : Nat) (xah : Option Addr) (xnh xch : Nat), r = .returned (.tuple #[.agg #[.int .i64 t.d.b, .int .i64 t.d.k, .int .i64 t.d.c, .int .i64 t.d.j, .int .i64 t.d.lo, .int .i64 t.d.hi, .int .i64 t.d.dy, .int .i64 t.d.bl, .int .i64 t.p.q, .int .i64 t.p.i, .int .i64 t.p.h, .bool t.p.pair, .int .i64 t.now, .slice xap xnp xcp, .slice xal xnl xcl, .slice xah xnh xch], .int .i64 f]) /\ Hid (J.Got w' w.heap.size t ⟨xap, xnp, xcp, xal, xnl, xcl, xah, xnh, xch⟩) /\ Below w.heap.size w w' := by
 refine (zr7 s A e t f hs w h hf).mono ?_
 rintro r w' ⟨⟨xap, xnp, xcp, xal, xnl, xcl, xah, xnh, xch⟩, rfl, hG, hb⟩
 exact ⟨xap, xnp, xcp, xal, xnl, xcl, xah, xnh, xch, rfl, hG, hb⟩
end Go.Proofs.YtijkbflimbffmaaGreat
namespace Go.Proofs.YtijkbflimbffmaaGreat
namespace Y
theorem d_ext {s t : E.D} (h : s.b = t.b /\ s.k = t.k /\ s.c = t.c /\ s.j = t.j /\ s.lo = t.lo /\ s.hi = t.hi /\ s.dy = t.dy /\ s.bl = t.bl) : s = t := by
 cases s; cases t; simp_all
instance : DecidableEq E.D := fun s t => decidable_of_iff (s.b = t.b /\ s.k = t.k /\ s.c = t.c /\ s.j = t.j /\ s.lo = t.lo /\ s.hi = t.hi /\ s.dy = t.dy /\ s.bl = t.bl) ⟨d_ext, fun h => by subst h; exact ⟨rfl, rfl, rfl, rfl, rfl, rfl, rfl, rfl⟩⟩
instance : DecidableEq St := fun s t => decidable_of_iff (s.d = t.d /\ s.p = t.p /\ s.now = t.now /\ s.ps = t.ps /\ s.l = t.l /\ s.h = t.h) ⟨fun h => st_ext h.1 h.2.1 h.2.2.1 h.2.2.2.1 h.2.2.2.2.1 h.2.2.2.2.2, fun h => by subst h; exact ⟨rfl, rfl, rfl, rfl, rfl, rfl⟩⟩
theorem fits_may {w : World} {A : A9} {s : St} (hi : SIn w A s) (hm : May s) (hb : s.d.b <= 9223372036854775807) (hc : s.d.c <= 9223372036854775807) : Fits A s := by
 have h1 := hi.p.1
 have h2 := hi.l.1
 have h3 := hi.h.1
 have h4 := hm.2.2.1.2.2.1
 have h5 := hm.2.2.2.2.1
 have h6 := held_len hm
 exact ⟨by omega, by omega, by omega, sm_of hm.2.2.1, hb, hc⟩
end Y
end Go.Proofs.YtijkbflimbffmaaGreat
namespace Go.Proofs.YtijkbflimbffmaaGreat
set_option maxHeartbeats 2000000
set_option maxRecDepth 100000
open Go.RowKit
theorem Y.po_ext {p q : Y.Po} (h : p.q = q.q /\ p.i = q.i /\ p.h = q.h /\ p.pair = q.pair) : p = q := by
 cases p; cases q; simp_all
theorem zk3 (s t : Y.St) (A A2 : Y.A9) (w : World) (h : Y.SIn w A s) (h2 : Y.SIn w A2 t) (hn : A.np <= 600 /\ A.nl <= 600 /\ A.nh <= 600) (hne : ¬ (s.d = t.d /\ s.p = t.p /\ s.now = t.now)) :
  Calls Tryz.prog 23 #[Y.val s A, Y.val t A2] w fun e w' => e = .returned (.bool false) /\ Below w.heap.size w w' := by
 obtain ⟨ap, np, cp, al, nl, cl, ah, nh, ch⟩ := A
 have HB0 := Zh (Below.refl w.heap.size w)
 have HQ0 := Zh ((h.p : QIn w ap np cp s.ps))
 have HL0 := Zh ((h.l : RIn w al nl cl s.l))
 have HH0 := Zh ((h.h : RIn w ah nh ch s.h))
 obtain ⟨ap2, np2, cp2, al2, nl2, cl2, ah2, nh2, ch2⟩ := A2
 have HQ20 := Zh ((h2.p : QIn w ap2 np2 cp2 t.ps))
 have HL20 := Zh ((h2.l : RIn w al2 nl2 cl2 t.l))
 have HH20 := Zh ((h2.h : RIn w ah2 nh2 ch2 t.h))
 have hnp : np <= 600 := hn.1
 have hnl : nl <= 600 := hn.2.1
 have hnh : nh <= 600 := hn.2.2
 clear h h2 hn
 unfold Y.val
 obtain ⟨w1, hw1, hb, hk⟩ := Zn w 32 #[.int .i64 s.d.b, .int .i64 s.d.k, .int .i64 s.d.c, .int .i64 s.d.j, .int .i64 s.d.lo, .int .i64 s.d.hi, .int .i64 s.d.dy, .int .i64 s.d.bl, .int .i64 s.p.q, .int .i64 s.p.i, .int .i64 s.p.h, .bool s.p.pair, .int .i64 s.now, .slice ap np cp, .slice al nl cl, .slice ah nh ch]
 have HQ1 := Zh (HQ0.out.below hb)
 have HL1 := Zh (HL0.out.below hb)
 have HH1 := Zh (HH0.out.below hb)
 have HQ21 := Zh (HQ20.out.below hb)
 have HL21 := Zh (HL20.out.below hb)
 have HH21 := Zh (HH20.out.below hb)
 replace HB0 := Zt HB0 hb
 have KS1 := Zh hk
 clear hb hk HQ0 HL0 HH0 HQ20 HL20 HH20
 obtain ⟨w2, hw2, hb, hk⟩ := Zn w1 32 #[.int .i64 t.d.b, .int .i64 t.d.k, .int .i64 t.d.c, .int .i64 t.d.j, .int .i64 t.d.lo, .int .i64 t.d.hi, .int .i64 t.d.dy, .int .i64 t.d.bl, .int .i64 t.p.q, .int .i64 t.p.i, .int .i64 t.p.h, .bool t.p.pair, .int .i64 t.now, .slice ap2 np2 cp2, .slice al2 nl2 cl2, .slice ah2 nh2 ch2]
 have HQ2 := Zh (HQ1.out.below hb)
 have HL2 := Zh (HL1.out.below hb)
 have HH2 := Zh (HH1.out.below hb)
 have HQ22 := Zh (HQ21.out.below hb)
 have HL22 := Zh (HL21.out.below hb)
 have HH22 := Zh (HH21.out.below hb)
 replace KS1 := Zk KS1 hb
 replace HB0 := Zt HB0 hb
 have KT2 := Zh hk
 clear hb hk HQ1 HL1 HH1 HQ21 HL21 HH21
 have c0 := Y.cs16 KS1.out
 have e0 := Y.cs16 KT2.out
 have HNE := Zh hne
 clear hne
 go_enter Tryz.func23, Tryz.ntmps23
 go_wp2_with fail
 all_goals first
  | (go_ret; exact ⟨rfl, HB0.out⟩)
  | (exfalso; refine HNE.out ⟨Y.d_ext ⟨?_, ?_, ?_, ?_, ?_, ?_, ?_, ?_⟩, Y.po_ext ⟨?_, ?_, ?_, ?_⟩, ?_⟩ <;> assumption)
theorem zjn (s t : Y.St) (A A2 : Y.A9) (w : World) (h : Y.SIn w A s) (h2 : Y.SIn w A2 t) (hn : A.np <= 600 /\ A.nl <= 600 /\ A.nh <= 600) (v : Bool) (hv : decide (s = t) = v) (heq : s.d = t.d /\ s.p = t.p /\ s.now = t.now) :
  Calls Tryz.prog 23 #[Y.val s A, Y.val t A2] w fun e w' => e = .returned (.bool v) /\ Below w.heap.size w w' := by
 obtain ⟨sd, sp, sn, sps, sl, sh⟩ := s
 simp only at heq
 obtain ⟨rfl, rfl, rfl⟩ := heq
 obtain ⟨ap, np, cp, al, nl, cl, ah, nh, ch⟩ := A
 have HB0 := Zh (Below.refl w.heap.size w)
 have HQ0 := Zh ((h.p : QIn w ap np cp sps))
 have HL0 := Zh ((h.l : RIn w al nl cl sl))
 have HH0 := Zh ((h.h : RIn w ah nh ch sh))
 obtain ⟨ap2, np2, cp2, al2, nl2, cl2, ah2, nh2, ch2⟩ := A2
 have HQ20 := Zh ((h2.p : QIn w ap2 np2 cp2 t.ps))
 have HL20 := Zh ((h2.l : RIn w al2 nl2 cl2 t.l))
 have HH20 := Zh ((h2.h : RIn w ah2 nh2 ch2 t.h))
 have hnp : np <= 600 := hn.1
 have hnl : nl <= 600 := hn.2.1
 have hnh : nh <= 600 := hn.2.2
 clear h h2 hn
 unfold Y.val
 obtain ⟨u1, hu1⟩ : ∃ u, decide (sps = t.ps) = u := ⟨_, rfl⟩
 obtain ⟨u2, hu2⟩ : ∃ u, decide (sl = t.l) = u := ⟨_, rfl⟩
 obtain ⟨u3, hu3⟩ : ∃ u, decide (sh = t.h) = u := ⟨_, rfl⟩
 have HV : Hid (v = (u1 && u2 && u3)) := Zh (by rw [<- hv, <- hu1, <- hu2, <- hu3, Bool.eq_iff_iff]; simp only [Bool.and_eq_true, decide_eq_true_eq]; exact ⟨fun e => by rw [<- e]; exact ⟨⟨rfl, rfl⟩, rfl⟩, fun e => Y.st_ext rfl rfl rfl e.1.1 e.1.2 e.2⟩)
 have HU1 := Zh hu1
 have HU2 := Zh hu2
 have HU3 := Zh hu3
 clear hv hu1 hu2 hu3
 obtain ⟨w1, hw1, hb, hk⟩ := Zn w 32 #[.int .i64 t.d.b, .int .i64 t.d.k, .int .i64 t.d.c, .int .i64 t.d.j, .int .i64 t.d.lo, .int .i64 t.d.hi, .int .i64 t.d.dy, .int .i64 t.d.bl, .int .i64 t.p.q, .int .i64 t.p.i, .int .i64 t.p.h, .bool t.p.pair, .int .i64 t.now, .slice ap np cp, .slice al nl cl, .slice ah nh ch]
 have HQ1 := Zh (HQ0.out.below hb)
 have HL1 := Zh (HL0.out.below hb)
 have HH1 := Zh (HH0.out.below hb)
 have HQ21 := Zh (HQ20.out.below hb)
 have HL21 := Zh (HL20.out.below hb)
 have HH21 := Zh (HH20.out.below hb)
 replace HB0 := Zt HB0 hb
 have KS1 := Zh hk
 clear hb hk HQ0 HL0 HH0 HQ20 HL20 HH20
 obtain ⟨w2, hw2, hb, hk⟩ := Zn w1 32 #[.int .i64 t.d.b, .int .i64 t.d.k, .int .i64 t.d.c, .int .i64 t.d.j, .int .i64 t.d.lo, .int .i64 t.d.hi, .int .i64 t.d.dy, .int .i64 t.d.bl, .int .i64 t.p.q, .int .i64 t.p.i, .int .i64 t.p.h, .bool t.p.pair, .int .i64 t.now, .slice ap2 np2 cp2, .slice al2 nl2 cl2, .slice ah2 nh2 ch2]
 have HQ2 := Zh (HQ1.out.below hb)
 have HL2 := Zh (HL1.out.below hb)
 have HH2 := Zh (HH1.out.below hb)
 have HQ22 := Zh (HQ21.out.below hb)
 have HL22 := Zh (HL21.out.below hb)
 have HH22 := Zh (HH21.out.below hb)
 replace KS1 := Zk KS1 hb
 replace HB0 := Zt HB0 hb
 have KT2 := Zh hk
 clear hb hk HQ1 HL1 HH1 HQ21 HL21 HH21
 have c0 := Y.cs16 (s := t) KS1.out
 have e0 := Y.cs16 KT2.out
 go_enter Tryz.func23, Tryz.ntmps23
 go_wp2_with fail
 try rw [hw1]
 try rw [hw2]
 refine (zfb ap ap2 np np2 cp cp2 sps t.ps w2 HQ2.out HQ22.out (by omega) u1 HU1.out).mono ?_
 clear c0
 clear e0
 rintro e w3 ⟨rfl, hb⟩
 have HQ3 := Zh (HQ2.out.below hb)
 have HL3 := Zh (HL2.out.below hb)
 have HH3 := Zh (HH2.out.below hb)
 have HQ23 := Zh (HQ22.out.below hb)
 have HL23 := Zh (HL22.out.below hb)
 have HH23 := Zh (HH22.out.below hb)
 replace KS1 := Zk KS1 hb
 replace KT2 := Zk KT2 hb
 replace HB0 := Zt HB0 hb
 clear hb HQ2 HL2 HH2 HQ22 HL22 HH22
 have c0 := Y.cs16 (s := t) KS1.out
 have e0 := Y.cs16 KT2.out
 clear hw1 hw2
 cases u1 with
 | false =>
  go_wp2
  go_ret
  exact ⟨by rw [HV.out]; rfl, HB0.out⟩
 | true =>
  go_wp2_with fail
  refine (zgv al al2 nl nl2 cl cl2 sl t.l w3 HL3.out HL23.out (by omega) u2 HU2.out).mono ?_
  clear c0
  clear e0
  rintro e w4 ⟨rfl, hb⟩
  have HQ4 := Zh (HQ3.out.below hb)
  have HL4 := Zh (HL3.out.below hb)
  have HH4 := Zh (HH3.out.below hb)
  have HQ24 := Zh (HQ23.out.below hb)
  have HL24 := Zh (HL23.out.below hb)
  have HH24 := Zh (HH23.out.below hb)
  replace KS1 := Zk KS1 hb
  replace KT2 := Zk KT2 hb
  replace HB0 := Zt HB0 hb
  clear hb HQ3 HL3 HH3 HQ23 HL23 HH23
  have c0 := Y.cs16 (s := t) KS1.out
  have e0 := Y.cs16 KT2.out
  cases u2 with
  | false =>
   go_wp2
   go_ret
   exact ⟨by rw [HV.out]; rfl, HB0.out⟩
  | true =>
   go_wp2_with fail
   refine (ze9 ah ah2 nh nh2 ch ch2 sh t.h w4 HH4.out HH24.out (by omega) u3 HU3.out).mono ?_
   clear c0
   clear e0
   rintro e w5 ⟨rfl, hb⟩
   have HQ5 := Zh (HQ4.out.below hb)
   have HL5 := Zh (HL4.out.below hb)
   have HH5 := Zh (HH4.out.below hb)
   have HQ25 := Zh (HQ24.out.below hb)
   have HL25 := Zh (HL24.out.below hb)
   have HH25 := Zh (HH24.out.below hb)
   replace KS1 := Zk KS1 hb
   replace KT2 := Zk KT2 hb
   replace HB0 := Zt HB0 hb
   clear hb HQ4 HL4 HH4 HQ24 HL24 HH24
   have c0 := Y.cs16 (s := t) KS1.out
   have e0 := Y.cs16 KT2.out
   cases u3 with
   | false =>
    go_wp2
    go_ret
    exact ⟨by rw [HV.out]; rfl, HB0.out⟩
   | true =>
    go_wp2
    go_ret
    exact ⟨by rw [HV.out]; rfl, HB0.out⟩
theorem zea (s t : Y.St) (A A2 : Y.A9) (w : World) (h : Y.SIn w A s) (h2 : Y.SIn w A2 t) (hn : A.np <= 600 /\ A.nl <= 600 /\ A.nh <= 600) (v : Bool) (hv : decide (s = t) = v) :
  Calls Tryz.prog 23 #[Y.val s A, Y.val t A2] w fun e w' => e = .returned (.bool v) /\ Below w.heap.size w w' := by
 by_cases he : s.d = t.d /\ s.p = t.p /\ s.now = t.now
 ·exact zjn s t A A2 w h h2 hn v hv he
 ·obtain rfl : v = false := by rw [<- hv]; exact decide_eq_false fun e => he (by subst e; exact ⟨rfl, rfl, rfl⟩)
  exact zk3 s t A A2 w h h2 hn he
end Go.Proofs.YtijkbflimbffmaaGreat
namespace Go.Proofs.YtijkbflimbffmaaGreat
set_option maxHeartbeats 3000000
set_option maxRecDepth 100000
open Go.RowKit
theorem box0 {w w1 w2 : World} {t1 : TypeId} {z1 c1 : Array Value} (h1 : w.alloc (.cells z1 t1) = w1) (h3 : w1.setRow w.heap.size c1 = w2) :
  Blok w1 w.heap.size t1 z1 /\ Blok w2 w.heap.size t1 c1 /\ Below w.heap.size w w2 /\ w1.heap.size = w.heap.size + 1 := by
 have e1 : w1.heap.size = w.heap.size + 1 := by rw [<- h1]; simp
 have k1 : Blok w1 w.heap.size t1 z1 := by rw [<- h1]; exact Blok.new w t1 z1
 have g1 : w1.grownBy w2 (some w.heap.size) := by rw [<- h3]; exact zbr _ _ _
 have hb1 : Below w.heap.size w w1 := by rw [<- h1]; exact (Below.refl _ w).alloc (Nat.le_refl _) _
 exact ⟨k1, by rw [<- h3]; exact k1.put _, hb1.grown g1 hb1.size (fun q hq => by cases hq; exact Nat.le_refl _), e1⟩
theorem zl0 (a a' : Option Addr) (n n' c c' : Nat) (b : Bool) (hb : (decide (n <= 40) && decide (n' <= 40)) = b) (w : World) :
  Calls Tryz.prog 28 #[.slice a n c, .slice a' n' c'] w fun e w' => e = .returned (.bool b) /\ Below w.heap.size w w' := by
 by_cases h1 : n <= 40
 ·have d1 : decide ((n : Int) <= 40) = true := by simp; omega
  have d2 : decide (n <= 40) = true := by simpa using h1
  obtain ⟨u, hu⟩ : ∃ u, decide (n' <= 40) = u := ⟨_, rfl⟩
  have d3 : decide ((n' : Int) <= 40) = u := by rw [<- hu]; congr 1; simp; omega
  have HE : Hid (b = u) := Zh (by rw [<- hb, d2, hu]; rfl)
  clear hb
  go_enter Tryz.func28, Tryz.ntmps28
  go_wp2
  go_ret
  exact ⟨by rw [HE.out]; rfl, Below.refl _ _⟩
 ·have d1 : decide ((n : Int) <= 40) = false := by simp; omega
  have d2 : decide (n <= 40) = false := by simpa using h1
  have HE : Hid (b = false) := Zh (by rw [<- hb, d2]; rfl)
  clear hb
  go_enter Tryz.func28, Tryz.ntmps28
  go_wp2
  go_ret
  exact ⟨by rw [HE.out]; rfl, Below.refl _ _⟩
theorem zjo {fn : Func} {p : Tmp} (h : fn.results = #[.cell p 25]) {tmps : Array Value} {V : World} (g : Nat) {cs : Array Value} (hz : cs.size = 8)
  (hp : tmps.getD p undef = .pointer (some ⟨g, 0, none⟩)) (hg : Blok V g 25 cs) :
  (results fn tmps).run Tryz.prog V = .ok (.agg cs) V := by
 have hp' : tmps[p]?.getD undef = .pointer (some ⟨g, 0, none⟩) := by simpa using hp
 have hl := run_loadVar_row (P := Tryz.prog) V g 25 25 cs (0, 0) _ hg Tryz.underlying25 rfl (by rw [hz]; kernel_rfl)
 simp [results, h, hp', asAddr, hl]
theorem zjp (w : World) : Calls Tryz.prog 27 #[] w fun e w' => e = .returned (.agg #[.int .i64 167772160, .int .i64 31, .int .i64 184549376, .int .i64 32, .int .i64 1000, .int .i64 1099, .int .i64 20, .int .i64 10]) /\ Below w.heap.size w w' := by
 have HB0 := Zh (Below.refl w.heap.size w)
 obtain ⟨w1, he1⟩ : ∃ W, w.alloc (.cells #[.int .i64 0, .int .i64 0, .int .i64 0, .int .i64 0, .int .i64 0, .int .i64 0, .int .i64 0, .int .i64 0] 25) = W := ⟨_, rfl⟩
 obtain ⟨w2, hp2⟩ : ∃ W, w1.setRow w.heap.size #[.int .i64 167772160, .int .i64 31, .int .i64 184549376, .int .i64 32, .int .i64 1000, .int .i64 1099, .int .i64 20, .int .i64 10] = W := ⟨_, rfl⟩
 obtain ⟨kz1, ka, hb, hsz⟩ := box0 he1 hp2
 have HZ2 := Zh kz1
 have HP2 := Zh hp2
 have KA := Zh ka
 have HB2 := Zh hb
 clear hsz kz1 ka hb hp2 HB0
 go_enter Tryz.func27, Tryz.ntmps27
 go_wp2_with (refine Zw HZ2.out HP2.out ?_)
 refine bodyPost_ret (zjo rfl w.heap.size rfl (by kernel_rfl) KA.out) rfl ?_
 exact ⟨rfl, HB2.out⟩
theorem zcx (s : Y.St) (ap : Option Addr) (np cp : Nat) (al : Option Addr) (nl cl : Nat) (ah : Option Addr) (nh ch : Nat) (v : Bool) (hv : (decide (nl <= 40) && decide (nh <= 40) && decide (np <= 6)) = v) (w : World) :
  Calls Tryz.prog 11 #[.agg #[.int .i64 s.d.b, .int .i64 s.d.k, .int .i64 s.d.c, .int .i64 s.d.j, .int .i64 s.d.lo, .int .i64 s.d.hi, .int .i64 s.d.dy, .int .i64 s.d.bl, .int .i64 s.p.q, .int .i64 s.p.i, .int .i64 s.p.h, .bool s.p.pair, .int .i64 s.now, .slice ap np cp, .slice al nl cl, .slice ah nh ch]] w fun e w' => e = .returned (.bool v) /\ Below w.heap.size w w' := by
 have HB0 := Zh (Below.refl w.heap.size w)
 obtain ⟨w1, hw1, hb, hk⟩ := Zn w 32 #[.int .i64 s.d.b, .int .i64 s.d.k, .int .i64 s.d.c, .int .i64 s.d.j, .int .i64 s.d.lo, .int .i64 s.d.hi, .int .i64 s.d.dy, .int .i64 s.d.bl, .int .i64 s.p.q, .int .i64 s.p.i, .int .i64 s.p.h, .bool s.p.pair, .int .i64 s.now, .slice ap np cp, .slice al nl cl, .slice ah nh ch]
 replace HB0 := Zt HB0 hb
 have KS1 := Zh hk
 clear hb hk
 have c0 := Y.cs16 KS1.out
 obtain ⟨u, hu⟩ : ∃ u, (decide (nl <= 40) && decide (nh <= 40)) = u := ⟨_, rfl⟩
 obtain ⟨u2, hu2⟩ : ∃ u, decide (np <= 6) = u := ⟨_, rfl⟩
 have HV : Hid (v = (u && u2)) := Zh (by rw [<- hv, hu, hu2])
 have HU := Zh hu
 have d1 : decide ((np : Int) <= 6) = u2 := by rw [<- hu2]; congr 1; simp; omega
 clear hv hu
 go_enter Tryz.func11, Tryz.ntmps11
 go_wp2_with fail
 try rw [hw1]
 refine (zl0 al ah nl nh cl ch u HU.out w1).mono ?_
 clear c0
 rintro e w2 ⟨rfl, hb⟩
 replace KS1 := Zk KS1 hb
 replace HB0 := Zt HB0 hb
 clear hb
 have c0 := Y.cs16 KS1.out
 clear hw1
 cases u with
 | false =>
  go_wp2
  go_ret
  exact ⟨by rw [HV.out]; rfl, HB0.out⟩
 | true =>
  go_wp2
  go_ret
  exact ⟨by rw [HV.out]; rfl, HB0.out⟩
end Go.Proofs.YtijkbflimbffmaaGreat
