import Derived.Test.YtonejangijkdmaaGreatQI
import Derived.Test.YtonejangijkdmaaGreatYE
import Derived.Test.YtonejangijkdmaaGreatBP
import Derived.Test.YtonejangijkdmaaGreatWC
import Derived.Deep.CutRange
import Derived.Deep.RegionWith
namespace Go.Proofs.YtonejangijkdmaaGreat
set_option maxHeartbeats 4000000
set_option maxRecDepth 100000
open Go.RowKit
theorem zht (a : Option Addr) (n c : Nat) (l : List L.T3) (w : World) (hn : n <= 1000) (hd : RIn w a n c l) :
  Calls Tryz.prog 80 #[.slice a n c] w fun e w' => ∃ v, e = .returned v /\ Hid (w'.ownsRow w.heap.size 71 3 v n (L.flat l)) /\ Below w.heap.size w w' := by
 have HD := Zh hd
 cases a with
 | none =>
  obtain ⟨rfl, rfl⟩ := hd.2.2.1 rfl
  obtain rfl : l = [] := List.eq_nil_of_length_eq_zero hd.1
  clear hd
  have he : ∀ w : World, (binOp .eql 30 (.slice none 0 0) (.slice none 0 0)).run Tryz.prog w = .ok (.bool true) w := fun _ => by kernel_rfl
  go_enter Tryz.func80, Tryz.ntmps80
  go_wp2
  go_ret
  exact ⟨_, rfl, Zh (World.ownsRow_nil _ _ _ _), Below.refl _ _⟩
 | some x =>
  clear hd
  have he : ∀ w : World, (binOp .eql 30 (.slice (some x) n c) (.slice none 0 0)).run Tryz.prog w = .ok (.bool false) w := fun _ => by kernel_rfl
  go_enter Tryz.func80, Tryz.ntmps80
  go_wp2_with (at_builtin; refine zb6 (α := L.T3) rfl _ _ 30 71 rfl _ 24 Tryz.underlying30 zbh rfl (by decide) w.heap.size _ 0 [] rfl (L.own_nil (Blok.new w 71 #[]) (Nat.le_refl _)) (some x) n c l rfl (HD.out.below ((Below.refl _ w).alloc (Nat.le_refl _) _)) (by omega) (by simp) ?_; intro v' w2 hown' hgrow)
  go_ret
  rw [Nat.zero_add] at hown'
  have h2 : w2.ownsRow w.heap.size 71 (L.Rec.k L.T3) v' n (L.flat l) := by simpa using hown'
  exact ⟨v', rfl, Zh h2, ((Below.refl _ w).alloc (Nat.le_refl _) _).grown hgrow (by simp) (fun k ek => by cases ek; exact Nat.le_refl _)⟩
structure Y.OwnR (w : World) (H : Nat) (s : Y.St) (A : Y.A9) : Prop where
 rp : w.ownsRow H 100 3 (.slice A.ap A.np A.cp) A.np (O.flat s.ps)
 rl : w.ownsRow H 58 5 (.slice A.al A.nl A.cl) A.nl (L.flat s.l)
 rh : w.ownsRow H 71 3 (.slice A.ah A.nh A.ch) A.nh (L.flat s.h)
 np : s.ps.length = A.np
 nl : s.l.length = A.nl
 nh : s.h.length = A.nh
theorem Y.OwnR.below {w w' : World} {H : Nat} {s : Y.St} {A : Y.A9} (h : Y.OwnR w H s A) (hb : Below w.heap.size w w') : Y.OwnR w' H s A :=
 ⟨zab h.rp hb, zab h.rl hb, zab h.rh hb, h.np, h.nl, h.nh⟩
theorem Y.OwnR.far {w w' : World} {H g : Nat} {s : Y.St} {A : Y.A9} (h : Y.OwnR w H s A) (hg : w.grownBy w' (some g)) (hH : g < H) : Y.OwnR w' H s A := by
 have hn : ∀ {e : TypeId} {k n : Nat} {v : Value} {xs : List Value}, w.ownsRow H e k v n xs -> v.ownBlock ≠ some g := fun hr e => by have := (hr.lt g e).1; omega
 exact ⟨h.rp.kept hg (.inr (hn h.rp)), h.rl.kept hg (.inr (hn h.rl)), h.rh.kept hg (.inr (hn h.rh)), h.np, h.nl, h.nh⟩
theorem Y.OwnR.i {w : World} {H : Nat} {s : Y.St} {A : Y.A9} (h : Y.OwnR w H s A) : Y.SIn w A s := by
 obtain ⟨a1, c1, e1, q1⟩ := zbq h.rp h.np
 obtain ⟨a2, c2, e2, q2⟩ := zcn h.rl h.nl
 obtain ⟨a3, c3, e3, q3⟩ := zdl h.rh h.nh
 simp only [Value.slice.injEq, true_and] at e1 e2 e3
 obtain ⟨e1, f1⟩ := e1
 obtain ⟨e2, f2⟩ := e2
 obtain ⟨e3, f3⟩ := e3
 exact ⟨by rw [e1, f1]; exact q1, by rw [e2, f2]; exact q2, by rw [e3, f3]; exact q3⟩
theorem Y.OwnR.up {w : World} {H : Nat} {s : Y.St} {A : Y.A9} (h : Y.OwnR w H s A) : Y.Up H A := ⟨fun q hq => (h.rp.lt q.block (by rw [hq]; rfl)).1, fun q hq => (h.rl.lt q.block (by rw [hq]; rfl)).1, fun q hq => (h.rh.lt q.block (by rw [hq]; rfl)).1⟩
theorem zd9 {w : World} {B k n : Nat} {t : TypeId} {v : Value} {xs : List Value} (h : w.ownsRow B t k v n xs) : ∃ a c, v = .slice a n c := by
 rcases h.2 with ⟨h0, h1⟩ | ⟨q, cap, cur, h1, _⟩
 ·subst h1; exact ⟨none, 0, h0⟩
 ·exact ⟨_, cap, h1⟩
theorem Y.OwnR.far' {w w' : World} {H g : Nat} {s : Y.St} {A : Y.A9} {t : TypeId} {cs : Array Value} (h : Y.OwnR w H s A) (hg : w.grownBy w' (some g)) (hk : Blok w g t cs) (h2 : t ≠ 100) (h3 : t ≠ 58) (h4 : t ≠ 71) : Y.OwnR w' H s A :=
 ⟨h.rp.kept hg (.inr fun e => za4 h.rp hk h2 e rfl), h.rl.kept hg (.inr fun e => za4 h.rl hk h3 e rfl), h.rh.kept hg (.inr fun e => za4 h.rh hk h4 e rfl), h.np, h.nl, h.nh⟩
theorem Y.set16 {w : World} {g : Nat} {u0 u1 u2 u3 u4 u5 u6 u7 u8 u9 u10 u11 u12 u13 u14 u15 : Value} (h : Blok w g 32 #[u0, u1, u2, u3, u4, u5, u6, u7, u8, u9, u10, u11, u12, u13, u14, u15]) (s : Y.St) (b1 : Option Addr) (np d1 : Nat) (b2 : Option Addr) (nl d2 : Nat) (b3 : Option Addr) (nh d3 : Nat) :
  Blok ((((((((((((((((w.setCell ⟨g, 0, none⟩ (.int .i64 s.d.b)).setCell ⟨g, 1, none⟩ (.int .i64 s.d.k)).setCell ⟨g, 2, none⟩ (.int .i64 s.d.c)).setCell ⟨g, 3, none⟩ (.int .i64 s.d.j)).setCell ⟨g, 4, none⟩ (.int .i64 s.d.lo)).setCell ⟨g, 5, none⟩ (.int .i64 s.d.hi)).setCell ⟨g, 6, none⟩ (.int .i64 s.d.dy)).setCell ⟨g, 7, none⟩ (.int .i64 s.d.bl)).setCell ⟨g, 8, none⟩ (.int .i64 s.p.q)).setCell ⟨g, 9, none⟩ (.int .i64 s.p.i)).setCell ⟨g, 10, none⟩ (.int .i64 s.p.h)).setCell ⟨g, 11, none⟩ (.bool s.p.pair)).setCell ⟨g, 12, none⟩ (.int .i64 s.now)).setCell ⟨g, 13, none⟩ (.slice b1 np d1)).setCell ⟨g, 14, none⟩ (.slice b2 nl d2)).setCell ⟨g, 15, none⟩ (.slice b3 nh d3)) g 32 #[s.d.b, s.d.k, s.d.c, s.d.j, s.d.lo, s.d.hi, s.d.dy, s.d.bl, s.p.q, s.p.i, s.p.h, s.p.pair, s.now, .slice b1 np d1, .slice b2 nl d2, .slice b3 nh d3] /\ w.grownBy ((((((((((((((((w.setCell ⟨g, 0, none⟩ (.int .i64 s.d.b)).setCell ⟨g, 1, none⟩ (.int .i64 s.d.k)).setCell ⟨g, 2, none⟩ (.int .i64 s.d.c)).setCell ⟨g, 3, none⟩ (.int .i64 s.d.j)).setCell ⟨g, 4, none⟩ (.int .i64 s.d.lo)).setCell ⟨g, 5, none⟩ (.int .i64 s.d.hi)).setCell ⟨g, 6, none⟩ (.int .i64 s.d.dy)).setCell ⟨g, 7, none⟩ (.int .i64 s.d.bl)).setCell ⟨g, 8, none⟩ (.int .i64 s.p.q)).setCell ⟨g, 9, none⟩ (.int .i64 s.p.i)).setCell ⟨g, 10, none⟩ (.int .i64 s.p.h)).setCell ⟨g, 11, none⟩ (.bool s.p.pair)).setCell ⟨g, 12, none⟩ (.int .i64 s.now)).setCell ⟨g, 13, none⟩ (.slice b1 np d1)).setCell ⟨g, 14, none⟩ (.slice b2 nl d2)).setCell ⟨g, 15, none⟩ (.slice b3 nh d3)) (some g) := by
 constructor
 ·have := (((((((((((((((h.set 0 (.int .i64 s.d.b)).set 1 (.int .i64 s.d.k)).set 2 (.int .i64 s.d.c)).set 3 (.int .i64 s.d.j)).set 4 (.int .i64 s.d.lo)).set 5 (.int .i64 s.d.hi)).set 6 (.int .i64 s.d.dy)).set 7 (.int .i64 s.d.bl)).set 8 (.int .i64 s.p.q)).set 9 (.int .i64 s.p.i)).set 10 (.int .i64 s.p.h)).set 11 (.bool s.p.pair)).set 12 (.int .i64 s.now)).set 13 (.slice b1 np d1)).set 14 (.slice b2 nl d2)).set 15 (.slice b3 nh d3)
  simpa using this
 ·exact (((((((((((((((grown_set w g 0 _).trans (grown_set _ g 1 _)).trans (grown_set _ g 2 _)).trans (grown_set _ g 3 _)).trans (grown_set _ g 4 _)).trans (grown_set _ g 5 _)).trans (grown_set _ g 6 _)).trans (grown_set _ g 7 _)).trans (grown_set _ g 8 _)).trans (grown_set _ g 9 _)).trans (grown_set _ g 10 _)).trans (grown_set _ g 11 _)).trans (grown_set _ g 12 _)).trans (grown_set _ g 13 _)).trans (grown_set _ g 14 _)).trans (grown_set _ g 15 _)
theorem zmn {fn : Func} {p : Tmp} (h : fn.results = #[.cell p 32]) {tmps : Array Value} {V : World} (g : Nat) (s : Y.St) (b1 : Option Addr) (np d1 : Nat) (b2 : Option Addr) (nl d2 : Nat) (b3 : Option Addr) (nh d3 : Nat)
  (hp : tmps.getD p undef = .pointer (some ⟨g, 0, none⟩)) (hg : Blok V g 32 #[s.d.b, s.d.k, s.d.c, s.d.j, s.d.lo, s.d.hi, s.d.dy, s.d.bl, s.p.q, s.p.i, s.p.h, s.p.pair, s.now, .slice b1 np d1, .slice b2 nl d2, .slice b3 nh d3]) :
  (results fn tmps).run Tryz.prog V = .ok (.agg #[s.d.b, s.d.k, s.d.c, s.d.j, s.d.lo, s.d.hi, s.d.dy, s.d.bl, s.p.q, s.p.i, s.p.h, s.p.pair, s.now, .slice b1 np d1, .slice b2 nl d2, .slice b3 nh d3]) V := by
 have hp' : tmps[p]?.getD undef = .pointer (some ⟨g, 0, none⟩) := by simpa using hp
 have hl := run_loadVar_row (P := Tryz.prog) V g 32 32 #[s.d.b, s.d.k, s.d.c, s.d.j, s.d.lo, s.d.hi, s.d.dy, s.d.bl, s.p.q, s.p.i, s.p.h, s.p.pair, s.now, .slice b1 np d1, .slice b2 nl d2, .slice b3 nh d3] (0, 0) _ hg Tryz.underlying32 rfl (by kernel_rfl)
 simp [results, h, hp', asAddr, hl]
theorem zkz (s : Y.St) (np nl nh : Nat) (w w6 : World) (zb : Nat) (b1 : Option Addr) (d1 : Nat) (b2 : Option Addr) (d2 : Nat) (b3 : Option Addr) (d3 : Nat) (ap al ah : Option Addr) (cp cl ch : Nat) (hsz : w.heap.size < zb) (hp : s.ps.length = np) (hl : s.l.length = nl) (hh : s.h.length = nh)
  (R1 : w6.ownsRow w.heap.size 100 3 (.slice b1 np d1) np (O.flat s.ps)) (R2 : w6.ownsRow w.heap.size 58 5 (.slice b2 nl d2) nl (L.flat s.l)) (R3 : w6.ownsRow w.heap.size 71 3 (.slice b3 nh d3) nh (L.flat s.h))
  (KS : Blok w6 w.heap.size 32 #[s.d.b, s.d.k, s.d.c, s.d.j, s.d.lo, s.d.hi, s.d.dy, s.d.bl, s.p.q, s.p.i, s.p.h, s.p.pair, s.now, .slice ap np cp, .slice al nl cl, .slice ah nh ch]) (KZ : Blok w6 zb 32 #[(), (), (), (), (), (), (), (), (), (), (), .bool false, (), .slice none 0 0, .slice none 0 0, .slice none 0 0]) (HB : Below w.heap.size w w6) :
  ∃ (b1' : Option Addr) (d1' : Nat) (b2' : Option Addr) (d2' : Nat) (b3' : Option Addr) (d3' : Nat), Hid (Blok (((w6.setCell ⟨w.heap.size, 13, none⟩ (.slice b1 np d1)).setCell ⟨w.heap.size, 14, none⟩ (.slice b2 nl d2)).setCell ⟨w.heap.size, 15, none⟩ (.slice b3 nh d3)) w.heap.size 32 #[s.d.b, s.d.k, s.d.c, s.d.j, s.d.lo, s.d.hi, s.d.dy, s.d.bl, s.p.q, s.p.i, s.p.h, s.p.pair, s.now, .slice b1' np d1', .slice b2' nl d2', .slice b3' nh d3']) /\ Hid (Blok (((w6.setCell ⟨w.heap.size, 13, none⟩ (.slice b1 np d1)).setCell ⟨w.heap.size, 14, none⟩ (.slice b2 nl d2)).setCell ⟨w.heap.size, 15, none⟩ (.slice b3 nh d3)) zb 32 #[(), (), (), (), (), (), (), (), (), (), (), .bool false, (), .slice none 0 0, .slice none 0 0, .slice none 0 0]) /\ Hid (Y.OwnR (((w6.setCell ⟨w.heap.size, 13, none⟩ (.slice b1 np d1)).setCell ⟨w.heap.size, 14, none⟩ (.slice b2 nl d2)).setCell ⟨w.heap.size, 15, none⟩ (.slice b3 nh d3)) w.heap.size s ⟨b1', np, d1', b2', nl, d2', b3', nh, d3'⟩) /\ Hid (Below w.heap.size w (((w6.setCell ⟨w.heap.size, 13, none⟩ (.slice b1 np d1)).setCell ⟨w.heap.size, 14, none⟩ (.slice b2 nl d2)).setCell ⟨w.heap.size, 15, none⟩ (.slice b3 nh d3))) := by
 have gst : w6.grownBy (((w6.setCell ⟨w.heap.size, 13, none⟩ (.slice b1 np d1)).setCell ⟨w.heap.size, 14, none⟩ (.slice b2 nl d2)).setCell ⟨w.heap.size, 15, none⟩ (.slice b3 nh d3)) (some w.heap.size) := ((grown_set _ _ _ _).trans (grown_set _ _ _ _)).trans (grown_set _ _ _ _)
 exact ⟨b1, d1, b2, d2, b3, d3, Zh (by have := ((KS.set 13 (.slice b1 np d1)).set 14 (.slice b2 nl d2)).set 15 (.slice b3 nh d3); simpa using this), Zh (KZ.grown gst (by simp; omega)),
  Zh ⟨R1.kept gst (.inr fun e => za4 R1 KS (by decide) e rfl), R2.kept gst (.inr fun e => za4 R2 KS (by decide) e rfl), R3.kept gst (.inr fun e => za4 R3 KS (by decide) e rfl), hp, hl, hh⟩, Zh (HB.grown gst HB.size (fun q hq => by cases hq; exact Nat.le_refl _))⟩
theorem zfr (s : Y.St) (A : Y.A9) (w : World) (h : Y.SIn w A s) (hn : A.np <= 1000 /\ A.nl <= 1000 /\ A.nh <= 1000) :
  Calls Tryz.prog 38 #[Y.val s A] w fun e w' => ∃ A', e = .returned (Y.val s A') /\ Hid (Y.OwnR w' w.heap.size s A') /\ Below w.heap.size w w' := by
 obtain ⟨ap, np, cp, al, nl, cl, ah, nh, ch⟩ := A
 have hnp : np <= 1000 := hn.1
 have hnl : nl <= 1000 := hn.2.1
 have hnh : nh <= 1000 := hn.2.2
 have hlp : Hid (s.ps.length = np) := Zh h.p.1
 have hll : Hid (s.l.length = nl) := Zh h.l.1
 have hlh : Hid (s.h.length = nh) := Zh h.h.1
 have HB0 := Zh (Below.refl w.heap.size w)
 have HI0 := Zh (h)
 clear h hn
 unfold Y.val
 obtain ⟨w1, hw1, hb, hk⟩ := Zn w 32 #[s.d.b, s.d.k, s.d.c, s.d.j, s.d.lo, s.d.hi, s.d.dy, s.d.bl, s.p.q, s.p.i, s.p.h, s.p.pair, s.now, .slice ap np cp, .slice al nl cl, .slice ah nh ch]
 replace HI0 := Zh (HI0.out.below hb)
 replace HB0 := Zt HB0 hb
 have KS1 := Zh hk
 clear hb hk
 obtain ⟨w2, hw2, hb, hk⟩ := Zn w1 32 #[(), (), (), (), (), (), (), (), (), (), (), .bool false, (), .slice none 0 0, .slice none 0 0, .slice none 0 0]
 replace HI0 := Zh (HI0.out.below hb)
 replace KS1 := Zk KS1 hb
 replace HB0 := Zt HB0 hb
 have KZ2 := Zh hk
 clear hb hk
 have hsz : w.heap.size < w1.heap.size := by rw [<- hw1]; simp
 go_enter Tryz.func38, Tryz.ntmps38
 go_upto_region 1 with fail
 try rw [hw1]
 try rw [hw2]
 clear hw1 hw2
 go_cut [] from 3 to 14 (fun wx => ∃ (b1 : Option Addr) (d1 : Nat) (b2 : Option Addr) (d2 : Nat) (b3 : Option Addr) (d3 : Nat), Hid (Blok wx w.heap.size 32 #[s.d.b, s.d.k, s.d.c, s.d.j, s.d.lo, s.d.hi, s.d.dy, s.d.bl, s.p.q, s.p.i, s.p.h, s.p.pair, s.now, .slice b1 np d1, .slice b2 nl d2, .slice b3 nh d3]) /\ Hid (Blok wx w1.heap.size 32 #[(), (), (), (), (), (), (), (), (), (), (), .bool false, (), .slice none 0 0, .slice none 0 0, .slice none 0 0]) /\ Hid (Y.OwnR wx w.heap.size s ⟨b1, np, d1, b2, nl, d2, b3, nh, d3⟩) /\ Hid (Below w.heap.size w wx))
 case first =>
  have KD : Blok (World.drew w2) w.heap.size 32 #[s.d.b, s.d.k, s.d.c, s.d.j, s.d.lo, s.d.hi, s.d.dy, s.d.bl, s.p.q, s.p.i, s.p.h, s.p.pair, s.now, .slice ap np cp, .slice al nl cl, .slice ah nh ch] := KS1.out.drew
  have x13 : (World.drew w2).cell? ⟨w.heap.size, 13, none⟩ = some (.slice ap np cp) := KD.cell 13
  have x14 : (World.drew w2).cell? ⟨w.heap.size, 14, none⟩ = some (.slice al nl cl) := KD.cell 14
  have x15 : (World.drew w2).cell? ⟨w.heap.size, 15, none⟩ = some (.slice ah nh ch) := KD.cell 15
  clear KD
  go_region_with (first
   | (go_at_call 79; refine (zes ap np cp s.ps _ (by omega) (HI0.out.below (zaa w2)).p).mono ?_; rintro e w4 ⟨v1, rfl, R14, hb⟩; obtain ⟨b1, d1, rfl⟩ := zd9 R14.out; have hb2 : Below w2.heap.size w2 w4 := (zaa w2).trans hb; have HI4 := Zh (HI0.out.below hb2); have KS4 := Zh (KS1.out.below hb2 KS1.out.lt); have KZ4 := Zh (KZ2.out.below hb2 KZ2.out.lt); have HB4 := Zh (HB0.out.trans (hb2.mono HB0.out.size)); have R14 := Zh (zde R14.out HB0.out.size); clear hb hb2; have y4_13 : w4.cell? ⟨w.heap.size, 13, none⟩ = some (.slice ap np cp) := KS4.out.cell 13; have y4_14 : w4.cell? ⟨w.heap.size, 14, none⟩ = some (.slice al nl cl) := KS4.out.cell 14; have y4_15 : w4.cell? ⟨w.heap.size, 15, none⟩ = some (.slice ah nh ch) := KS4.out.cell 15)
   | (go_at_call 75; refine (zbm al nl cl s.l _ (by omega) (HI4.out).l).mono ?_; rintro e w5 ⟨v2, rfl, R25, hb⟩; obtain ⟨b2, d2, rfl⟩ := zd9 R25.out; have HI5 := Zh (HI4.out.below hb); have KS5 := Zh (KS4.out.below hb KS4.out.lt); have KZ5 := Zh (KZ4.out.below hb KZ4.out.lt); have HB5 := Zh (HB4.out.trans (hb.mono HB4.out.size)); have R25 := Zh (zde R25.out HB4.out.size); have R15 := Zh (zab R14.out hb); clear hb; have y5_13 : w5.cell? ⟨w.heap.size, 13, none⟩ = some (.slice ap np cp) := KS5.out.cell 13; have y5_14 : w5.cell? ⟨w.heap.size, 14, none⟩ = some (.slice al nl cl) := KS5.out.cell 14; have y5_15 : w5.cell? ⟨w.heap.size, 15, none⟩ = some (.slice ah nh ch) := KS5.out.cell 15)
   | (go_at_call 80; refine (zht ah nh ch s.h _ (by omega) (HI5.out).h).mono ?_; rintro e w6 ⟨v3, rfl, R36, hb⟩; obtain ⟨b3, d3, rfl⟩ := zd9 R36.out; have HI6 := Zh (HI5.out.below hb); have KS6 := Zh (KS5.out.below hb KS5.out.lt); have KZ6 := Zh (KZ5.out.below hb KZ5.out.lt); have HB6 := Zh (HB5.out.trans (hb.mono HB5.out.size)); have R36 := Zh (zde R36.out HB5.out.size); have R16 := Zh (zab R15.out hb); have R26 := Zh (zab R25.out hb); clear hb; have y6_13 : w6.cell? ⟨w.heap.size, 13, none⟩ = some (.slice ap np cp) := KS6.out.cell 13; have y6_14 : w6.cell? ⟨w.heap.size, 14, none⟩ = some (.slice al nl cl) := KS6.out.cell 14; have y6_15 : w6.cell? ⟨w.heap.size, 15, none⟩ = some (.slice ah nh ch) := KS6.out.cell 15; have f13 : w6.frozen? ⟨w.heap.size, 13, none⟩ = false := KS6.out.frozen 13; have f14 : w6.frozen? ⟨w.heap.size, 14, none⟩ = false := KS6.out.frozen 14; have f15 : w6.frozen? ⟨w.heap.size, 15, none⟩ = false := KS6.out.frozen 15))
  all_goals (
   go_wp2_with fail
   go_meet
   exact zkz s np nl nh w w6 w1.heap.size b1 d1 b2 d2 b3 d3 ap al ah cp cl ch hsz hlp.out hll.out hlh.out R16.out R26.out R36.out KS6.out KZ6.out HB6.out)
 case rest =>
  obtain ⟨b1, d1, b2, d2, b3, d3, KS9, KZ9, OR9, HB9⟩ := hcut
  have s0 := Y.cs16 KS9.out
  obtain ⟨KY, GY⟩ := Y.set16 KZ9.out s b1 np d1 b2 nl d2 b3 nh d3
  have z0 := Zv KZ9.out 0 (.int .i64 0)
  have zf0 := KZ9.out.frozen 0
  have z1 := Zv KZ9.out 1 (.int .i64 0)
  have zf1 := KZ9.out.frozen 1
  have z2 := Zv KZ9.out 2 (.int .i64 0)
  have zf2 := KZ9.out.frozen 2
  have z3 := Zv KZ9.out 3 (.int .i64 0)
  have zf3 := KZ9.out.frozen 3
  have z4 := Zv KZ9.out 4 (.int .i64 0)
  have zf4 := KZ9.out.frozen 4
  have z5 := Zv KZ9.out 5 (.int .i64 0)
  have zf5 := KZ9.out.frozen 5
  have z6 := Zv KZ9.out 6 (.int .i64 0)
  have zf6 := KZ9.out.frozen 6
  have z7 := Zv KZ9.out 7 (.int .i64 0)
  have zf7 := KZ9.out.frozen 7
  have z8 := Zv KZ9.out 8 (.int .i64 0)
  have zf8 := KZ9.out.frozen 8
  have z9 := Zv KZ9.out 9 (.int .i64 0)
  have zf9 := KZ9.out.frozen 9
  have z10 := Zv KZ9.out 10 (.int .i64 0)
  have zf10 := KZ9.out.frozen 10
  have z11 := Zv KZ9.out 11 (.bool false)
  have zf11 := KZ9.out.frozen 11
  have z12 := Zv KZ9.out 12 (.int .i64 0)
  have zf12 := KZ9.out.frozen 12
  have z13 := Zv KZ9.out 13 (.slice none 0 0)
  have zf13 := KZ9.out.frozen 13
  have z14 := Zv KZ9.out 14 (.slice none 0 0)
  have zf14 := KZ9.out.frozen 14
  have z15 := Zv KZ9.out 15 (.slice none 0 0)
  have zf15 := KZ9.out.frozen 15
  have HKY := Zh KY
  have HOY := Zh (OR9.out.far' GY KZ9.out (by decide) (by decide) (by decide))
  have HBY := Zh (HB9.out.grown GY HB9.out.size (fun q hq => by cases hq; omega))
  obtain ⟨w11, hw11⟩ : ∃ W, (((((((((((((((wc.setCell ⟨w1.heap.size, 0, none⟩ (.int .i64 s.d.b)).setCell ⟨w1.heap.size, 1, none⟩ (.int .i64 s.d.k)).setCell ⟨w1.heap.size, 2, none⟩ (.int .i64 s.d.c)).setCell ⟨w1.heap.size, 3, none⟩ (.int .i64 s.d.j)).setCell ⟨w1.heap.size, 4, none⟩ (.int .i64 s.d.lo)).setCell ⟨w1.heap.size, 5, none⟩ (.int .i64 s.d.hi)).setCell ⟨w1.heap.size, 6, none⟩ (.int .i64 s.d.dy)).setCell ⟨w1.heap.size, 7, none⟩ (.int .i64 s.d.bl)).setCell ⟨w1.heap.size, 8, none⟩ (.int .i64 s.p.q)).setCell ⟨w1.heap.size, 9, none⟩ (.int .i64 s.p.i)).setCell ⟨w1.heap.size, 10, none⟩ (.int .i64 s.p.h)).setCell ⟨w1.heap.size, 11, none⟩ (.bool s.p.pair)).setCell ⟨w1.heap.size, 12, none⟩ (.int .i64 s.now)).setCell ⟨w1.heap.size, 13, none⟩ (.slice b1 np d1)).setCell ⟨w1.heap.size, 14, none⟩ (.slice b2 nl d2)).setCell ⟨w1.heap.size, 15, none⟩ (.slice b3 nh d3) = W := ⟨_, rfl⟩
  rw [hw11] at HKY HOY HBY
  have HW11 := Zh hw11
  clear KY GY hw11
  go_wp2
  rw [HW11.out]
  refine bodyPost_ret (zmn rfl w1.heap.size s b1 np d1 b2 nl d2 b3 nh d3 (by kernel_rfl) HKY.out) rfl ?_
  exact ⟨⟨b1, np, d1, b2, nl, d2, b3, nh, d3⟩, rfl, HOY, HBY.out⟩
end Go.Proofs.YtonejangijkdmaaGreat
