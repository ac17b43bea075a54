import Derived.Test.YtijkbflimbffmaaGreatP35
import Derived.Test.YtijkbflimbffmaaGreatJFree
import Derived.Test.YtijkbflimbffmaaGreatP35b
import Derived.Test.YtijkbflimbffmaaGreatP36
namespace Go.Proofs.YtijkbflimbffmaaGreat
set_option maxHeartbeats 1000000
set_option maxRecDepth 100000
open Go.RowKit
theorem zot (H0 b : Nat) (s : Y.St) (A : Y.A9) (e : Y.Ev) (w : World) (h : J.WIn w b s A) (hH : H0 <= w.heap.size) (hu : Y.Up H0 A) (hn : A.np <= 600 /\ A.nl <= 600 /\ A.nh <= 600) (hm : Y.May s) (he : N.May e) :
  Calls Tryz.prog 34 #[.pointer (some ⟨b, 0, none⟩), Y.eval e] w fun r w' => r = .returned (.bool (J.made s e).isSome) /\ (∀ u, J.made s e = some u -> ∃ A', Hid (J.WIn w' b u A') /\ Y.Up H0 A') /\ w.grownBy w' (some b) := by
 have hsm : O.Sm s.ps := fun x hx => by have := O.fits_iff.1 (hm.2.2.1.2.2.2.1 x hx); have := hm.2.2.1.2.1; omega
 have hwf := Y.busy_wf hm
 have hmp := hm.2.1
 have hek := he.kind
 have het := he.1
 have hea : e.a <= 31 := by rcases he.2 with h | h | h | h | h <;> omega
 have hsrt := hm.2.2.2.2.2.1
 obtain ⟨ap, np, cp, al, nl, cl, ah, nh, ch⟩ := A
 have hnp : np <= 600 := hn.1
 have hnl : nl <= 600 := hn.2.1
 have hnh : nh <= 600 := hn.2.2
 clear hn
 have HU := Zh hu
 have hbw : b < w.heap.size := h.k.lt
 have _hH := hH
 clear hu
 have HB0 := Zh (Below.refl w.heap.size w)
 have HS0 := Zh (h)
 have HS00 := HS0
 clear h
 unfold Y.eval
 obtain ⟨w1, hw1, hb, hk⟩ := Zn w 34 #[.int .i64 e.k, .int .i64 e.t, .int .i64 e.a, .int .i64 e.b, .int .i64 e.c, .int .i64 e.p.q, .int .i64 e.p.i, .int .i64 e.p.h, .bool e.p.pair]
 replace HS0 := Zh (HS0.out.below hb)
 replace HB0 := Zt HB0 hb
 have KE1 := Zh hk
 clear hb hk
 have HM := Zh hm
 clear hm
 obtain ⟨no, hno⟩ : ∃ v, E.no s.d = v := ⟨_, rfl⟩
 have HNO := Zh hno
 obtain ⟨bs, hbs⟩ : ∃ v, L.busy s.l = v := ⟨_, rfl⟩
 have HBS := Zh hbs
 rw [hbs] at hwf
 go_enter Tryz.func34, Tryz.ntmps34
 go_wp2_with fail
 try rw [hw1]
 clear hw1
 refine Zd (fun w' => Below w1.heap.size w1 w') (zaa w1) fun RS0 => ?_
 refine Zq 0 b 0 RS0 ?_
 refine Zq 1 b 0 RS0 ?_
 refine Zq 2 b 0 RS0 ?_
 refine Zq 3 b 0 RS0 ?_
 refine Zq 4 b 2 RS0 ?_
 refine Zl 5 (.agg #[.int .i64 s.d.c, .int .i64 s.d.j]) rfl (fun w9 hS => by
    have q := HS0.out.k.below hS HS0.out.k.lt
    have y2 := Zv q 2 (.int .i64 s.d.c)
    have y3 := Zv q 3 (.int .i64 s.d.j)
    go_simp) RS0 ?_
 refine Zq 7 b 0 RS0 ?_
 refine Zq 8 b 0 RS0 ?_
 refine Zq 9 b 0 RS0 ?_
 refine Zq 10 b 14 RS0 ?_
 refine Zl 11 (.slice al nl cl) rfl (fun w9 hS => by
    have y14 := Zv (HS0.out.k.below hS HS0.out.k.lt) 14 (.slice al nl cl)
    go_simp) RS0 ?_
 refine Zc 6 88 #[.agg #[.int .i64 s.d.c, .int .i64 s.d.j]] (zc8 s.d.c s.d.j no _ hno) ?_
 rintro e w2 ⟨rfl, hb⟩
 refine Zu (Zr RS0 hb) fun RS1 => ?_
 refine Zc 12 89 #[.slice al nl cl] (zdc al nl cl s.l bs hbs _ ((HS0.out.i.l : RIn w1 al nl cl s.l).below RS1) (by omega)) ?_
 rintro e w3 ⟨ab, cb, rfl, hbr, hb⟩
 have hbr2 := hbr
 refine Zu (Zr RS1 hb) fun RS2 => ?_
 refine tk 13 (.int .i64 no) RS2 ?_
 refine tk 14 (.slice ab bs.length cb) RS2 ?_
 refine wpAnyH_done (by kernel_rfl) ?_ _
 simp only [List.getElem_toArray, List.getElem_cons_succ, List.getElem_cons_zero, zc7, List.setIfInBounds_toArray, List.set_cons_succ, List.set_cons_zero]
 have hB3 : Below w1.heap.size w1 w3 := RS2
 replace HS0 := Zh (HS0.out.below hB3)
 have KE3 := Zh (KE1.out.below hB3 KE1.out.lt)
 replace HB0 := Zt HB0 hB3
 have HBR := Zh (zg2 hbr2.out hwf)
 clear hb hB3 hbr hbr2 KE1 hwf
 obtain ⟨r0, r1, r2, r3, r4, r5, r6, r7, r8⟩ := J.ce9 KE3.out
 have hbe : b ≠ w.heap.size := by omega
 have hwb : w.heap.size <= w3.heap.size := HB0.out.size
 by_cases q0 : e.k = 0
 ·have k0 : (e.k == 0) = true := by simp; omega
  obtain ⟨l2, v, hl⟩ : ∃ l v, L.put s.l (J.lsOf e) = (l, v) := ⟨_, _, rfl⟩
  have HE : Hid (J.made s e = if v = true then some { s with l := l2 } else none) := Zh (by unfold J.made; rw [if_pos q0, hl])
  clear q0
  go_wp2_with fail
  refine (zrb H0 b s ⟨ap, np, cp, al, nl, cl, ah, nh, ch⟩ e w3 HS0.out (by omega) HU.out ⟨by show np <= 600; omega, by show nl <= 600; omega, by show nh <= 600; omega⟩ l2 v hl).mono ?_
  clear hl r0 r1 r2 r3 r4 r5 r6 r7 r8
  rintro _ w4 ⟨A', rfl, hw, hg, hu4⟩
  have HW := Zh hw.out
  have HG := Zh ((zbx (L.below_none HB0.out)).trans hg)
  clear hw hg
  go_wp2
  go_ret
  rw [HE.out]
  exact ⟨by cases v <;> rfl, fun u hu => by
   cases v with
   | false => cases hu
   | true => cases hu; exact ⟨A', HW, hu4⟩, HG.out⟩
 by_cases q1 : e.k = 1
 ·have k0 : (e.k == 0) = false := by simp; omega
  have k1 : (e.k == 1) = true := by simp; omega
  rcases L.find_cases s.l e.b e.c with ⟨hf, hnone⟩ | ⟨i, z, hf, hz, hza, hzb, _⟩
  ·have HE : Hid (J.made s e = none) := Zh (by unfold J.made; rw [if_neg q0, if_pos q1, (Y.get_none (s := s)).2 hnone])
   clear hnone
   clear q1
   go_wp2_with fail
   refine (zrc H0 b s ⟨ap, np, cp, al, nl, cl, ah, nh, ch⟩ e w3 HS0.out (by omega) HU.out ⟨by show np <= 600; omega, by show nl <= 600; omega, by show nh <= 600; omega⟩ hf).mono ?_
   clear r0 r1 r2 r3 r4 r5 r6 r7 r8
   rintro _ w4 ⟨A', rfl, hw, hg, hu4⟩
   have HW := Zh hw.out
   have HG := Zh ((zbx (L.below_none HB0.out)).trans hg)
   clear hw hg
   go_wp2
   go_ret
   rw [HE.out]
   exact ⟨rfl, fun u hu => by (cases hu), HG.out⟩
  have hget : Y.get s e.b e.c = some z := Y.get_of hsrt (List.mem_of_getElem? hz) hza hzb
  by_cases hs : z.s = e.a
  ·have HE : Hid (J.made s e = some (Y.free1 s z e.t)) := Zh (by unfold J.made; rw [if_neg q0, if_pos q1, hget]; simp only; rw [if_pos hs])
   clear hget
   clear q1
   go_wp2_with fail
   refine (zr5 H0 b s ⟨ap, np, cp, al, nl, cl, ah, nh, ch⟩ e w3 HS0.out (by omega) HU.out ⟨by show np <= 600; omega, by show nl <= 600; omega, by show nh <= 600; omega⟩ i z hf hz hza hzb hs het ⟨hmp.2.2.2.2.1, hmp.2.2.2.2.2⟩).mono ?_
   clear r0 r1 r2 r3 r4 r5 r6 r7 r8
   rintro _ w4 ⟨A', rfl, hw, hg, hu4⟩
   have HW := Zh hw.out
   have HG := Zh ((zbx (L.below_none HB0.out)).trans hg)
   clear hw hg
   go_wp2
   go_ret
   rw [HE.out]
   exact ⟨rfl, fun u hu => by cases hu; exact ⟨A', HW, hu4⟩, HG.out⟩
  ·have HE : Hid (J.made s e = none) := Zh (by unfold J.made; rw [if_neg q0, if_pos q1, hget]; simp only; rw [if_neg hs])
   clear hget
   clear q1
   go_wp2_with fail
   refine (zqg H0 b s ⟨ap, np, cp, al, nl, cl, ah, nh, ch⟩ e w3 HS0.out (by omega) HU.out ⟨by show np <= 600; omega, by show nl <= 600; omega, by show nh <= 600; omega⟩ i z hf hz hs).mono ?_
   clear r0 r1 r2 r3 r4 r5 r6 r7 r8
   rintro _ w4 ⟨A', rfl, hw, hg, hu4⟩
   have HW := Zh hw.out
   have HG := Zh ((zbx (L.below_none HB0.out)).trans hg)
   clear hw hg
   go_wp2
   go_ret
   rw [HE.out]
   exact ⟨rfl, fun u hu => by (cases hu), HG.out⟩
 have HNB : Hid (bs.length <= 1000) := Zh (by rw [<- HBS.out]; have := L.busy_len s.l; have h5 : s.l.length = nl := HS00.out.i.l.1; omega)
 by_cases q2 : e.k = 2
 ·have k0 : (e.k == 0) = false := by simp; omega
  have k1 : (e.k == 1) = false := by simp; omega
  have k2 : (e.k == 2) = true := by simp; omega
  obtain ⟨l2, er, hl⟩ : ∃ l er, O.add s.ps no e.a e.b = (l, er) := ⟨_, _, rfl⟩
  obtain ⟨n2, hn2⟩ : ∃ n, l2.length = n := ⟨_, rfl⟩
  have HE : Hid (J.made s e = if er = 0 then some { s with ps := l2 } else none) := Zh (J.made_pools (by omega) (by omega) (by omega) (by rw [J.pools2 q2, HNO.out]; exact hl))
  clear q2
  go_wp2_with fail
  clear r0 r1 r2 r3 r4 r5 r6 r7 r8
  refine Zd (fun w' => Blok w' w.heap.size 34 #[.int .i64 e.k, .int .i64 e.t, .int .i64 e.a, .int .i64 e.b, .int .i64 e.c, .int .i64 e.p.q, .int .i64 e.p.i, .int .i64 e.p.h, .bool e.p.pair]) (KE3.out.drew) fun RS0 => ?_
  refine Zq 0 b 0 RS0 ?_
  refine Zq 1 b 0 RS0 ?_
  refine Zq 2 b 0 RS0 ?_
  refine Zq 3 b 0 RS0 ?_
  refine Zq 4 b 13 RS0 ?_
  refine tk 6 (.int .i64 no) RS0 ?_
  refine Zq 7 w.heap.size 2 RS0 ?_
  refine Zl 8 (.int .i64 e.a) rfl (fun w9 hS => by
     have y2 := Zv hS 2 (.int .i64 e.a)
     go_simp) RS0 ?_
  refine Zq 9 w.heap.size 3 RS0 ?_
  refine Zl 10 (.int .i64 e.b) rfl (fun w9 hS => by
     have y3 := Zv hS 3 (.int .i64 e.b)
     go_simp) RS0 ?_
  have cx : (World.drew w3).cell? ⟨b, 13, none⟩ = some (.slice ap np cp) := HS0.out.k.cell 13
  refine zat (i := 5) (v := .slice ap np cp) (by kernel_rfl) rfl (by kernel_rfl) (by go_simp) RS0 ?_
  clear cx
  refine Zc 11 93 #[.slice ap np cp, .int .i64 no, .int .i64 e.a, .int .i64 e.b] (zk7 ap np cp s.ps no e.a e.b l2 n2 er _ ((HS0.out.i.p : QIn w3 ap np cp s.ps).below (zaa w3)) (by omega) hsm (by omega) hl hn2) ?_
  rintro e w4 ⟨a2, c2, rfl, hq, hb⟩
  have hb2 : Below w3.heap.size w3 w4 := (zaa w3).trans hb
  have HS4 := Zh (HS0.out.below hb2)
  have hup : ∀ q, a2 = some q -> w3.heap.size <= q.block := fun q hx => Nat.le_trans (zaa w3).size (hq.out.2 q hx)
  refine Zu (Blok.below RS0 hb (Blok.lt RS0)) fun RS1 => ?_
  refine tk 12 (.slice a2 n2 c2) RS1 ?_
  refine tk 13 (.int .i64 er) RS1 ?_
  refine Zc 14 92 #[.pointer (some ⟨b, 0, none⟩), .slice a2 n2 c2, .int .i64 er] (znx b s ⟨ap, np, cp, al, nl, cl, ah, nh, ch⟩ a2 n2 c2 l2 er _ HS4.out hq.out.1 (J.off_up hup (by omega))) ?_
  rintro e w5 ⟨rfl, hw, hg⟩
  have HW5 := Zh hw.out
  have HG5 := Zh ((((zbx (L.below_none HB0.out))).trans (zbx (L.below_none hb2))).trans hg)
  refine Zu (Blok.grown RS1 hg (by simpa using hbe.symm)) fun RS2 => ?_
  refine tk 15 (.bool (decide (er = 0))) RS2 ?_
  refine wpAnyH_done (by kernel_rfl) ?_ _
  simp only [List.getElem_toArray, List.getElem_cons_succ, List.getElem_cons_zero, zc7, List.setIfInBounds_toArray, List.set_cons_succ, List.set_cons_zero]
  have HUP : Hid (∀ q, a2 = some q -> H0 <= q.block) := Zh (fun q hx => by have := hup q hx; omega)
  clear hw hg hb2 hup hq hb
  go_wp2
  go_ret
  rw [HE.out]
  exact ⟨by by_cases h0 : er = 0 <;> simp [h0], (fun u hu => by
   by_cases h0 : er = 0
   ·rw [if_pos h0] at hu; cases hu; exact ⟨_, HW5, HUP.out, HU.out.2.1, HU.out.2.2⟩
   ·rw [if_neg h0] at hu; cases hu), HG5.out⟩
 by_cases q3 : e.k = 3
 ·have k0 : (e.k == 0) = false := by simp; omega
  have k1 : (e.k == 1) = false := by simp; omega
  have k2 : (e.k == 2) = false := by simp; omega
  have k3 : (e.k == 3) = true := by simp; omega
  obtain ⟨l2, er, hl⟩ : ∃ l er, O.drain s.ps no e.a = (l, er) := ⟨_, _, rfl⟩
  obtain ⟨n2, hn2⟩ : ∃ n, l2.length = n := ⟨_, rfl⟩
  have HE : Hid (J.made s e = if er = 0 then some { s with ps := l2 } else none) := Zh (J.made_pools (by omega) (by omega) (by omega) (by rw [J.pools3 q3, HNO.out]; exact hl))
  clear q3
  go_wp2_with fail
  clear r0 r1 r2 r3 r4 r5 r6 r7 r8
  refine Zd (fun w' => Blok w' w.heap.size 34 #[.int .i64 e.k, .int .i64 e.t, .int .i64 e.a, .int .i64 e.b, .int .i64 e.c, .int .i64 e.p.q, .int .i64 e.p.i, .int .i64 e.p.h, .bool e.p.pair]) (KE3.out.drew) fun RS0 => ?_
  refine Zq 0 b 0 RS0 ?_
  refine Zq 1 b 0 RS0 ?_
  refine Zq 2 b 0 RS0 ?_
  refine Zq 3 b 0 RS0 ?_
  refine Zq 4 b 13 RS0 ?_
  refine tk 6 (.int .i64 no) RS0 ?_
  refine Zq 7 w.heap.size 2 RS0 ?_
  refine Zl 8 (.int .i64 e.a) rfl (fun w9 hS => by
     have y2 := Zv hS 2 (.int .i64 e.a)
     go_simp) RS0 ?_
  have cx : (World.drew w3).cell? ⟨b, 13, none⟩ = some (.slice ap np cp) := HS0.out.k.cell 13
  refine zat (i := 5) (v := .slice ap np cp) (by kernel_rfl) rfl (by kernel_rfl) (by go_simp) RS0 ?_
  clear cx
  refine Zc 9 94 #[.slice ap np cp, .int .i64 no, .int .i64 e.a] (zgy ap np cp s.ps no e.a l2 n2 er _ ((HS0.out.i.p : QIn w3 ap np cp s.ps).below (zaa w3)) (by omega) hsm hl hn2) ?_
  rintro e w4 ⟨a2, c2, rfl, hq, hb⟩
  have hb2 : Below w3.heap.size w3 w4 := (zaa w3).trans hb
  have HS4 := Zh (HS0.out.below hb2)
  have hup : ∀ q, a2 = some q -> w3.heap.size <= q.block := fun q hx => Nat.le_trans (zaa w3).size (hq.out.2 q hx)
  refine Zu (Blok.below RS0 hb (Blok.lt RS0)) fun RS1 => ?_
  refine tk 10 (.slice a2 n2 c2) RS1 ?_
  refine tk 11 (.int .i64 er) RS1 ?_
  refine Zc 12 92 #[.pointer (some ⟨b, 0, none⟩), .slice a2 n2 c2, .int .i64 er] (znx b s ⟨ap, np, cp, al, nl, cl, ah, nh, ch⟩ a2 n2 c2 l2 er _ HS4.out hq.out.1 (J.off_up hup (by omega))) ?_
  rintro e w5 ⟨rfl, hw, hg⟩
  have HW5 := Zh hw.out
  have HG5 := Zh ((((zbx (L.below_none HB0.out))).trans (zbx (L.below_none hb2))).trans hg)
  refine Zu (Blok.grown RS1 hg (by simpa using hbe.symm)) fun RS2 => ?_
  refine tk 13 (.bool (decide (er = 0))) RS2 ?_
  refine wpAnyH_done (by kernel_rfl) ?_ _
  simp only [List.getElem_toArray, List.getElem_cons_succ, List.getElem_cons_zero, zc7, List.setIfInBounds_toArray, List.set_cons_succ, List.set_cons_zero]
  have HUP : Hid (∀ q, a2 = some q -> H0 <= q.block) := Zh (fun q hx => by have := hup q hx; omega)
  clear hw hg hb2 hup hq hb
  go_wp2
  go_ret
  rw [HE.out]
  exact ⟨by by_cases h0 : er = 0 <;> simp [h0], (fun u hu => by
   by_cases h0 : er = 0
   ·rw [if_pos h0] at hu; cases hu; exact ⟨_, HW5, HUP.out, HU.out.2.1, HU.out.2.2⟩
   ·rw [if_neg h0] at hu; cases hu), HG5.out⟩
 by_cases q4 : e.k = 4
 ·have k0 : (e.k == 0) = false := by simp; omega
  have k1 : (e.k == 1) = false := by simp; omega
  have k2 : (e.k == 2) = false := by simp; omega
  have k3 : (e.k == 3) = false := by simp; omega
  have k4 : (e.k == 4) = true := by simp; omega
  obtain ⟨l2, er, hl⟩ : ∃ l er, O.size s.ps no e.a e.b bs = (l, er) := ⟨_, _, rfl⟩
  obtain ⟨n2, hn2⟩ : ∃ n, l2.length = n := ⟨_, rfl⟩
  have HE : Hid (J.made s e = if er = 0 then some { s with ps := l2 } else none) := Zh (J.made_pools (by omega) (by omega) (by omega) (by rw [J.pools4 q4, HNO.out, HBS.out]; exact hl))
  clear q4
  go_wp2_with fail
  clear r0 r1 r2 r3 r4 r5 r6 r7 r8
  refine Zd (fun w' => Blok w' w.heap.size 34 #[.int .i64 e.k, .int .i64 e.t, .int .i64 e.a, .int .i64 e.b, .int .i64 e.c, .int .i64 e.p.q, .int .i64 e.p.i, .int .i64 e.p.h, .bool e.p.pair]) (KE3.out.drew) fun RS0 => ?_
  refine Zq 0 b 0 RS0 ?_
  refine Zq 1 b 0 RS0 ?_
  refine Zq 2 b 0 RS0 ?_
  refine Zq 3 b 0 RS0 ?_
  refine Zq 4 b 13 RS0 ?_
  refine tk 6 (.int .i64 no) RS0 ?_
  refine Zq 7 w.heap.size 2 RS0 ?_
  refine Zl 8 (.int .i64 e.a) rfl (fun w9 hS => by
     have y2 := Zv hS 2 (.int .i64 e.a)
     go_simp) RS0 ?_
  refine Zq 9 w.heap.size 3 RS0 ?_
  refine Zl 10 (.int .i64 e.b) rfl (fun w9 hS => by
     have y3 := Zv hS 3 (.int .i64 e.b)
     go_simp) RS0 ?_
  refine tk 11 (.slice ab bs.length cb) RS0 ?_
  have cx : (World.drew w3).cell? ⟨b, 13, none⟩ = some (.slice ap np cp) := HS0.out.k.cell 13
  refine zat (i := 5) (v := .slice ap np cp) (by kernel_rfl) rfl (by kernel_rfl) (by go_simp) RS0 ?_
  clear cx
  refine Zc 12 95 #[.slice ap np cp, .int .i64 no, .int .i64 e.a, .int .i64 e.b, .slice ab bs.length cb] (zix ap np cp s.ps no e.a e.b ab bs.length cb bs l2 n2 er _ ((HS0.out.i.p : QIn w3 ap np cp s.ps).below (zaa w3)) (by omega) hsm (HBR.out.below (zaa w3)) (by have := HNB.out; omega) hl hn2) ?_
  rintro e w4 ⟨a2, c2, rfl, hq, hb⟩
  have hb2 : Below w3.heap.size w3 w4 := (zaa w3).trans hb
  have HS4 := Zh (HS0.out.below hb2)
  have hup : ∀ q, a2 = some q -> w3.heap.size <= q.block := fun q hx => Nat.le_trans (zaa w3).size (hq.out.2 q hx)
  refine Zu (Blok.below RS0 hb (Blok.lt RS0)) fun RS1 => ?_
  refine tk 13 (.slice a2 n2 c2) RS1 ?_
  refine tk 14 (.int .i64 er) RS1 ?_
  refine Zc 15 92 #[.pointer (some ⟨b, 0, none⟩), .slice a2 n2 c2, .int .i64 er] (znx b s ⟨ap, np, cp, al, nl, cl, ah, nh, ch⟩ a2 n2 c2 l2 er _ HS4.out hq.out.1 (J.off_up hup (by omega))) ?_
  rintro e w5 ⟨rfl, hw, hg⟩
  have HW5 := Zh hw.out
  have HG5 := Zh ((((zbx (L.below_none HB0.out))).trans (zbx (L.below_none hb2))).trans hg)
  refine Zu (Blok.grown RS1 hg (by simpa using hbe.symm)) fun RS2 => ?_
  refine tk 16 (.bool (decide (er = 0))) RS2 ?_
  refine wpAnyH_done (by kernel_rfl) ?_ _
  simp only [List.getElem_toArray, List.getElem_cons_succ, List.getElem_cons_zero, zc7, List.setIfInBounds_toArray, List.set_cons_succ, List.set_cons_zero]
  have HUP : Hid (∀ q, a2 = some q -> H0 <= q.block) := Zh (fun q hx => by have := hup q hx; omega)
  clear hw hg hb2 hup hq hb
  go_wp2
  go_ret
  rw [HE.out]
  exact ⟨by by_cases h0 : er = 0 <;> simp [h0], (fun u hu => by
   by_cases h0 : er = 0
   ·rw [if_pos h0] at hu; cases hu; exact ⟨_, HW5, HUP.out, HU.out.2.1, HU.out.2.2⟩
   ·rw [if_neg h0] at hu; cases hu), HG5.out⟩
 by_cases q5 : e.k = 5
 ·have k0 : (e.k == 0) = false := by simp; omega
  have k1 : (e.k == 1) = false := by simp; omega
  have k2 : (e.k == 2) = false := by simp; omega
  have k3 : (e.k == 3) = false := by simp; omega
  have k4 : (e.k == 4) = false := by simp; omega
  have k5 : (e.k == 5) = true := by simp; omega
  obtain ⟨l2, er, hl⟩ : ∃ l er, O.gone s.ps no e.a bs = (l, er) := ⟨_, _, rfl⟩
  obtain ⟨n2, hn2⟩ : ∃ n, l2.length = n := ⟨_, rfl⟩
  have HE : Hid (J.made s e = if er = 0 then some { s with ps := l2 } else none) := Zh (J.made_pools (by omega) (by omega) (by omega) (by rw [J.pools5 q5, HNO.out, HBS.out]; exact hl))
  clear q5
  go_wp2_with fail
  clear r0 r1 r2 r3 r4 r5 r6 r7 r8
  refine Zd (fun w' => Blok w' w.heap.size 34 #[.int .i64 e.k, .int .i64 e.t, .int .i64 e.a, .int .i64 e.b, .int .i64 e.c, .int .i64 e.p.q, .int .i64 e.p.i, .int .i64 e.p.h, .bool e.p.pair]) (KE3.out.drew) fun RS0 => ?_
  refine Zq 0 b 0 RS0 ?_
  refine Zq 1 b 0 RS0 ?_
  refine Zq 2 b 0 RS0 ?_
  refine Zq 3 b 0 RS0 ?_
  refine Zq 4 b 13 RS0 ?_
  refine tk 6 (.int .i64 no) RS0 ?_
  refine Zq 7 w.heap.size 2 RS0 ?_
  refine Zl 8 (.int .i64 e.a) rfl (fun w9 hS => by
     have y2 := Zv hS 2 (.int .i64 e.a)
     go_simp) RS0 ?_
  refine tk 9 (.slice ab bs.length cb) RS0 ?_
  have cx : (World.drew w3).cell? ⟨b, 13, none⟩ = some (.slice ap np cp) := HS0.out.k.cell 13
  refine zat (i := 5) (v := .slice ap np cp) (by kernel_rfl) rfl (by kernel_rfl) (by go_simp) RS0 ?_
  clear cx
  refine Zc 10 96 #[.slice ap np cp, .int .i64 no, .int .i64 e.a, .slice ab bs.length cb] (ziy ap np cp s.ps no e.a ab bs.length cb bs l2 n2 er _ ((HS0.out.i.p : QIn w3 ap np cp s.ps).below (zaa w3)) (by omega) hsm (HBR.out.below (zaa w3)) (by have := HNB.out; omega) hl hn2) ?_
  rintro e w4 ⟨a2, c2, rfl, hq, hb⟩
  have hb2 : Below w3.heap.size w3 w4 := (zaa w3).trans hb
  have HS4 := Zh (HS0.out.below hb2)
  have hup : ∀ q, a2 = some q -> w3.heap.size <= q.block := fun q hx => Nat.le_trans (zaa w3).size (hq.out.2 q hx)
  refine Zu (Blok.below RS0 hb (Blok.lt RS0)) fun RS1 => ?_
  refine tk 11 (.slice a2 n2 c2) RS1 ?_
  refine tk 12 (.int .i64 er) RS1 ?_
  refine Zc 13 92 #[.pointer (some ⟨b, 0, none⟩), .slice a2 n2 c2, .int .i64 er] (znx b s ⟨ap, np, cp, al, nl, cl, ah, nh, ch⟩ a2 n2 c2 l2 er _ HS4.out hq.out.1 (J.off_up hup (by omega))) ?_
  rintro e w5 ⟨rfl, hw, hg⟩
  have HW5 := Zh hw.out
  have HG5 := Zh ((((zbx (L.below_none HB0.out))).trans (zbx (L.below_none hb2))).trans hg)
  refine Zu (Blok.grown RS1 hg (by simpa using hbe.symm)) fun RS2 => ?_
  refine tk 14 (.bool (decide (er = 0))) RS2 ?_
  refine wpAnyH_done (by kernel_rfl) ?_ _
  simp only [List.getElem_toArray, List.getElem_cons_succ, List.getElem_cons_zero, zc7, List.setIfInBounds_toArray, List.set_cons_succ, List.set_cons_zero]
  have HUP : Hid (∀ q, a2 = some q -> H0 <= q.block) := Zh (fun q hx => by have := hup q hx; omega)
  clear hw hg hb2 hup hq hb
  go_wp2
  go_ret
  rw [HE.out]
  exact ⟨by by_cases h0 : er = 0 <;> simp [h0], (fun u hu => by
   by_cases h0 : er = 0
   ·rw [if_pos h0] at hu; cases hu; exact ⟨_, HW5, HUP.out, HU.out.2.1, HU.out.2.2⟩
   ·rw [if_neg h0] at hu; cases hu), HG5.out⟩
 have k0 : (e.k == 0) = false := by simp; omega
 have k1 : (e.k == 1) = false := by simp; omega
 have k2 : (e.k == 2) = false := by simp; omega
 have k3 : (e.k == 3) = false := by simp; omega
 have k4 : (e.k == 4) = false := by simp; omega
 have k5 : (e.k == 5) = false := by simp; omega
 have HE : Hid (J.made s e = some { s with p := e.p }) := Zh (J.made6 (by omega))
 clear q0 q1 q2 q3 q4 q5
 go_wp2_with fail
 refine (zqh b s ⟨ap, np, cp, al, nl, cl, ah, nh, ch⟩ e w3 HS0.out).mono ?_
 clear r0 r1 r2 r3 r4 r5 r6 r7 r8
 rintro _ w4 ⟨rfl, hw, hg⟩
 have HW := Zh hw.out
 have HG := Zh ((zbx (L.below_none HB0.out)).trans hg)
 clear hw hg
 go_wp2
 go_ret
 rw [HE.out]
 exact ⟨rfl, fun u hu => by cases hu; exact ⟨_, HW, HU.out⟩, HG.out⟩
end Go.Proofs.YtijkbflimbffmaaGreat
