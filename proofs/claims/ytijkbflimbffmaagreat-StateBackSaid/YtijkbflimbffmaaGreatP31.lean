import Derived.Deep.CutRange
import Derived.Deep.RegionWith
import Derived.Test.YtijkbflimbffmaaGreatP12
namespace Go.Proofs.YtijkbflimbffmaaGreat
set_option maxHeartbeats 4000000
set_option maxRecDepth 100000
open Go.RowKit
theorem zq7 (s : Y.St) (A : Y.A9) (w : World) (h : Y.SIn w A s) (hn : A.np <= 1000 /\ A.nl <= 1000 /\ A.nh <= 1000) :
  Calls Tryz.prog 29 #[Y.val s A] w fun e w' => ∃ A', e = .returned (Y.val s A') /\ Hid (Y.OwnR w' w.heap.size s A') /\ Below w.heap.size w w' := by
 obtain ⟨ap, np, cp, al, nl, cl, ah, nh, ch⟩ := A
 have hnp : np <= 1000 := hn.1
 have hnl : nl <= 1000 := hn.2.1
 have hnh : nh <= 1000 := hn.2.2
 have hlp : Hid (s.ps.length = np) := Zh h.p.1
 have hll : Hid (s.l.length = nl) := Zh h.l.1
 have hlh : Hid (s.h.length = nh) := Zh h.h.1
 have HB0 := Zh (Below.refl w.heap.size w)
 have HI0 := Zh (h)
 clear h hn
 unfold Y.val
 obtain ⟨w1, hw1, hb, hk⟩ := Zn w 32 #[.int .i64 s.d.b, .int .i64 s.d.k, .int .i64 s.d.c, .int .i64 s.d.j, .int .i64 s.d.lo, .int .i64 s.d.hi, .int .i64 s.d.dy, .int .i64 s.d.bl, .int .i64 s.p.q, .int .i64 s.p.i, .int .i64 s.p.h, .bool s.p.pair, .int .i64 s.now, .slice ap np cp, .slice al nl cl, .slice ah nh ch]
 replace HI0 := Zh (HI0.out.below hb)
 replace HB0 := Zt HB0 hb
 have KS1 := Zh hk
 clear hb hk
 obtain ⟨w2, hw2, hb, hk⟩ := Zn w1 32 #[.int .i64 0, .int .i64 0, .int .i64 0, .int .i64 0, .int .i64 0, .int .i64 0, .int .i64 0, .int .i64 0, .int .i64 0, .int .i64 0, .int .i64 0, .bool false, .int .i64 0, .slice none 0 0, .slice none 0 0, .slice none 0 0]
 replace HI0 := Zh (HI0.out.below hb)
 replace KS1 := Zk KS1 hb
 replace HB0 := Zt HB0 hb
 have KZ2 := Zh hk
 clear hb hk
 have hsz : w.heap.size < w1.heap.size := by rw [<- hw1]; simp
 go_enter Tryz.func29, Tryz.ntmps29
 go_upto_region 1 with fail
 try rw [hw1]
 try rw [hw2]
 clear hw1 hw2
 go_cut [] from 3 to 14 (fun wx => ∃ (b1 : Option Addr) (d1 : Nat) (b2 : Option Addr) (d2 : Nat) (b3 : Option Addr) (d3 : Nat), Hid (Blok wx w.heap.size 32 #[.int .i64 s.d.b, .int .i64 s.d.k, .int .i64 s.d.c, .int .i64 s.d.j, .int .i64 s.d.lo, .int .i64 s.d.hi, .int .i64 s.d.dy, .int .i64 s.d.bl, .int .i64 s.p.q, .int .i64 s.p.i, .int .i64 s.p.h, .bool s.p.pair, .int .i64 s.now, .slice b1 np d1, .slice b2 nl d2, .slice b3 nh d3]) /\ Hid (Blok wx w1.heap.size 32 #[.int .i64 0, .int .i64 0, .int .i64 0, .int .i64 0, .int .i64 0, .int .i64 0, .int .i64 0, .int .i64 0, .int .i64 0, .int .i64 0, .int .i64 0, .bool false, .int .i64 0, .slice none 0 0, .slice none 0 0, .slice none 0 0]) /\ Hid (Y.OwnR wx w.heap.size s ⟨b1, np, d1, b2, nl, d2, b3, nh, d3⟩) /\ Hid (Below w.heap.size w wx))
 case first =>
  have KD : Blok (World.drew w2) w.heap.size 32 #[.int .i64 s.d.b, .int .i64 s.d.k, .int .i64 s.d.c, .int .i64 s.d.j, .int .i64 s.d.lo, .int .i64 s.d.hi, .int .i64 s.d.dy, .int .i64 s.d.bl, .int .i64 s.p.q, .int .i64 s.p.i, .int .i64 s.p.h, .bool s.p.pair, .int .i64 s.now, .slice ap np cp, .slice al nl cl, .slice ah nh ch] := KS1.out.drew
  have x13 : (World.drew w2).cell? ⟨w.heap.size, 13, none⟩ = some (.slice ap np cp) := KD.cell 13
  have x14 : (World.drew w2).cell? ⟨w.heap.size, 14, none⟩ = some (.slice al nl cl) := KD.cell 14
  have x15 : (World.drew w2).cell? ⟨w.heap.size, 15, none⟩ = some (.slice ah nh ch) := KD.cell 15
  clear KD
  go_region_with (first
   | (go_at_call 71; refine (zes ap np cp s.ps _ (by omega) (HI0.out.below (zaa w2)).p).mono ?_; rintro e w4 ⟨v1, rfl, R14, hb⟩; obtain ⟨b1, d1, rfl⟩ := zd9 R14.out; have hb2 : Below w2.heap.size w2 w4 := (zaa w2).trans hb; have HI4 := Zh (HI0.out.below hb2); have KS4 := Zh (KS1.out.below hb2 KS1.out.lt); have KZ4 := Zh (KZ2.out.below hb2 KZ2.out.lt); have HB4 := Zh (HB0.out.trans (hb2.mono HB0.out.size)); have R14 := Zh (zde R14.out HB0.out.size); clear hb hb2; have y4_13 : w4.cell? ⟨w.heap.size, 13, none⟩ = some (.slice ap np cp) := KS4.out.cell 13; have y4_14 : w4.cell? ⟨w.heap.size, 14, none⟩ = some (.slice al nl cl) := KS4.out.cell 14; have y4_15 : w4.cell? ⟨w.heap.size, 15, none⟩ = some (.slice ah nh ch) := KS4.out.cell 15)
   | (go_at_call 72; refine (zbm al nl cl s.l _ (by omega) (HI4.out).l).mono ?_; rintro e w5 ⟨v2, rfl, R25, hb⟩; obtain ⟨b2, d2, rfl⟩ := zd9 R25.out; have HI5 := Zh (HI4.out.below hb); have KS5 := Zh (KS4.out.below hb KS4.out.lt); have KZ5 := Zh (KZ4.out.below hb KZ4.out.lt); have HB5 := Zh (HB4.out.trans (hb.mono HB4.out.size)); have R25 := Zh (zde R25.out HB4.out.size); have R15 := Zh (zab R14.out hb); clear hb; have y5_13 : w5.cell? ⟨w.heap.size, 13, none⟩ = some (.slice ap np cp) := KS5.out.cell 13; have y5_14 : w5.cell? ⟨w.heap.size, 14, none⟩ = some (.slice al nl cl) := KS5.out.cell 14; have y5_15 : w5.cell? ⟨w.heap.size, 15, none⟩ = some (.slice ah nh ch) := KS5.out.cell 15)
   | (go_at_call 73; refine (zht ah nh ch s.h _ (by omega) (HI5.out).h).mono ?_; rintro e w6 ⟨v3, rfl, R36, hb⟩; obtain ⟨b3, d3, rfl⟩ := zd9 R36.out; have HI6 := Zh (HI5.out.below hb); have KS6 := Zh (KS5.out.below hb KS5.out.lt); have KZ6 := Zh (KZ5.out.below hb KZ5.out.lt); have HB6 := Zh (HB5.out.trans (hb.mono HB5.out.size)); have R36 := Zh (zde R36.out HB5.out.size); have R16 := Zh (zab R15.out hb); have R26 := Zh (zab R25.out hb); clear hb; have y6_13 : w6.cell? ⟨w.heap.size, 13, none⟩ = some (.slice ap np cp) := KS6.out.cell 13; have y6_14 : w6.cell? ⟨w.heap.size, 14, none⟩ = some (.slice al nl cl) := KS6.out.cell 14; have y6_15 : w6.cell? ⟨w.heap.size, 15, none⟩ = some (.slice ah nh ch) := KS6.out.cell 15; have f13 : w6.frozen? ⟨w.heap.size, 13, none⟩ = false := KS6.out.frozen 13; have f14 : w6.frozen? ⟨w.heap.size, 14, none⟩ = false := KS6.out.frozen 14; have f15 : w6.frozen? ⟨w.heap.size, 15, none⟩ = false := KS6.out.frozen 15))
  all_goals (
   go_wp2_with fail
   go_meet
   exact zkz s np nl nh w w6 w1.heap.size b1 d1 b2 d2 b3 d3 ap al ah cp cl ch hsz hlp.out hll.out hlh.out R16.out R26.out R36.out KS6.out KZ6.out HB6.out)
 case rest =>
  obtain ⟨b1, d1, b2, d2, b3, d3, KS9, KZ9, OR9, HB9⟩ := hcut
  have s0 := Y.cs16 KS9.out
  obtain ⟨KY, GY⟩ := Y.set16 KZ9.out s b1 np d1 b2 nl d2 b3 nh d3
  have z0 := Zv KZ9.out 0 (.int .i64 0)
  have zf0 := KZ9.out.frozen 0
  have z1 := Zv KZ9.out 1 (.int .i64 0)
  have zf1 := KZ9.out.frozen 1
  have z2 := Zv KZ9.out 2 (.int .i64 0)
  have zf2 := KZ9.out.frozen 2
  have z3 := Zv KZ9.out 3 (.int .i64 0)
  have zf3 := KZ9.out.frozen 3
  have z4 := Zv KZ9.out 4 (.int .i64 0)
  have zf4 := KZ9.out.frozen 4
  have z5 := Zv KZ9.out 5 (.int .i64 0)
  have zf5 := KZ9.out.frozen 5
  have z6 := Zv KZ9.out 6 (.int .i64 0)
  have zf6 := KZ9.out.frozen 6
  have z7 := Zv KZ9.out 7 (.int .i64 0)
  have zf7 := KZ9.out.frozen 7
  have z8 := Zv KZ9.out 8 (.int .i64 0)
  have zf8 := KZ9.out.frozen 8
  have z9 := Zv KZ9.out 9 (.int .i64 0)
  have zf9 := KZ9.out.frozen 9
  have z10 := Zv KZ9.out 10 (.int .i64 0)
  have zf10 := KZ9.out.frozen 10
  have z11 := Zv KZ9.out 11 (.bool false)
  have zf11 := KZ9.out.frozen 11
  have z12 := Zv KZ9.out 12 (.int .i64 0)
  have zf12 := KZ9.out.frozen 12
  have z13 := Zv KZ9.out 13 (.slice none 0 0)
  have zf13 := KZ9.out.frozen 13
  have z14 := Zv KZ9.out 14 (.slice none 0 0)
  have zf14 := KZ9.out.frozen 14
  have z15 := Zv KZ9.out 15 (.slice none 0 0)
  have zf15 := KZ9.out.frozen 15
  have HKY := Zh KY
  have HOY := Zh (OR9.out.far' GY KZ9.out (by decide) (by decide) (by decide))
  have HBY := Zh (HB9.out.grown GY HB9.out.size (fun q hq => by cases hq; omega))
  obtain ⟨w11, hw11⟩ : ∃ W, (((((((((((((((wc.setCell ⟨w1.heap.size, 0, none⟩ (.int .i64 s.d.b)).setCell ⟨w1.heap.size, 1, none⟩ (.int .i64 s.d.k)).setCell ⟨w1.heap.size, 2, none⟩ (.int .i64 s.d.c)).setCell ⟨w1.heap.size, 3, none⟩ (.int .i64 s.d.j)).setCell ⟨w1.heap.size, 4, none⟩ (.int .i64 s.d.lo)).setCell ⟨w1.heap.size, 5, none⟩ (.int .i64 s.d.hi)).setCell ⟨w1.heap.size, 6, none⟩ (.int .i64 s.d.dy)).setCell ⟨w1.heap.size, 7, none⟩ (.int .i64 s.d.bl)).setCell ⟨w1.heap.size, 8, none⟩ (.int .i64 s.p.q)).setCell ⟨w1.heap.size, 9, none⟩ (.int .i64 s.p.i)).setCell ⟨w1.heap.size, 10, none⟩ (.int .i64 s.p.h)).setCell ⟨w1.heap.size, 11, none⟩ (.bool s.p.pair)).setCell ⟨w1.heap.size, 12, none⟩ (.int .i64 s.now)).setCell ⟨w1.heap.size, 13, none⟩ (.slice b1 np d1)).setCell ⟨w1.heap.size, 14, none⟩ (.slice b2 nl d2)).setCell ⟨w1.heap.size, 15, none⟩ (.slice b3 nh d3) = W := ⟨_, rfl⟩
  rw [hw11] at HKY HOY HBY
  have HW11 := Zh hw11
  clear KY GY hw11
  go_wp2
  rw [HW11.out]
  refine bodyPost_ret (zmn rfl w1.heap.size s b1 np d1 b2 nl d2 b3 nh d3 (by kernel_rfl) HKY.out) rfl ?_
  exact ⟨⟨b1, np, d1, b2, nl, d2, b3, nh, d3⟩, rfl, HOY, HBY.out⟩
end Go.Proofs.YtijkbflimbffmaaGreat
