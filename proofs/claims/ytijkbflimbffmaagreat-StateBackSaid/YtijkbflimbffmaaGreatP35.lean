import Derived.Test.YtijkbflimbffmaaGreatP32
import Derived.Test.YtijkbflimbffmaaGreatP17
namespace Go.Proofs.YtijkbflimbffmaaGreat
open Go.RowKit
theorem zm8 (s : Y.St) (A : Y.A9) (n : Int) (t : Y.St) (v : Bool) (hs : J.settle s n = (t, v)) (w : World) (h : Y.SIn w A s) (hf : Y.Fits A s) :
  Calls Tryz.prog 12 #[Y.val s A, .int .i64 n] w fun e w' => ∃ (xap : Option Addr) (xnp xcp : Nat) (xal : Option Addr) (xnl xcl : Nat) (xah : Option Addr) (xnh xch : Nat), e = .returned (.tuple #[.agg #[.int .i64 t.d.b, .int .i64 t.d.k, .int .i64 t.d.c, .int .i64 t.d.j, .int .i64 t.d.lo, .int .i64 t.d.hi, .int .i64 t.d.dy, .int .i64 t.d.bl, .int .i64 t.p.q, .int .i64 t.p.i, .int .i64 t.p.h, .bool t.p.pair, .int .i64 t.now, .slice xap xnp xcp, .slice xal xnl xcl, .slice xah xnh xch], .bool v]) /\ Hid (J.Got w' w.heap.size t ⟨xap, xnp, xcp, xal, xnl, xcl, xah, xnh, xch⟩) /\ Below w.heap.size w w' := by
 refine (zq8 s A n t v hs w h hf).mono ?_
 rintro e w' ⟨⟨xap, xnp, xcp, xal, xnl, xcl, xah, xnh, xch⟩, rfl, hG, hb⟩
 exact ⟨xap, xnp, xcp, xal, xnl, xcl, xah, xnh, xch, rfl, hG, hb⟩
end Go.Proofs.YtijkbflimbffmaaGreat
namespace Go.Proofs.YtijkbflimbffmaaGreat
set_option maxHeartbeats 1000000
set_option maxRecDepth 100000
open Go.RowKit
theorem zrb (H0 b : Nat) (s : Y.St) (A : Y.A9) (e : Y.Ev) (w : World) (h : J.WIn w b s A) (hH : H0 <= w.heap.size) (hu : Y.Up H0 A) (hn : A.np <= 600 /\ A.nl <= 600 /\ A.nh <= 600) (l2 : List L.Ls) (v : Bool) (hl : L.put s.l (J.lsOf e) = (l2, v)) :
  Calls Tryz.prog 90 #[.pointer (some ⟨b, 0, none⟩), Y.eval e] w fun r w' => ∃ A', r = .returned (.bool v) /\ Hid (J.WIn w' b { s with l := l2 } A') /\ w.grownBy w' (some b) /\ Y.Up H0 A' := by
 obtain ⟨ap, np, cp, al, nl, cl, ah, nh, ch⟩ := A
 have hnp : np <= 600 := hn.1
 have hnl : nl <= 600 := hn.2.1
 have hnh : nh <= 600 := hn.2.2
 clear hn
 have HU := Zh hu
 have hbw : b < w.heap.size := h.k.lt
 have _hH := hH
 clear hu
 have HB0 := Zh (Below.refl w.heap.size w)
 have HS0 := Zh (h)
 have HS00 := HS0
 clear h
 unfold Y.eval
 obtain ⟨w1, hw1, hb, hk⟩ := Zn w 34 #[.int .i64 e.k, .int .i64 e.t, .int .i64 e.a, .int .i64 e.b, .int .i64 e.c, .int .i64 e.p.q, .int .i64 e.p.i, .int .i64 e.p.h, .bool e.p.pair]
 replace HS0 := Zh (HS0.out.below hb)
 replace HB0 := Zt HB0 hb
 have KE1 := Zh hk
 clear hb hk
 obtain ⟨n2, hn2⟩ : ∃ n, l2.length = n := ⟨_, rfl⟩
 go_enter Tryz.func90, Tryz.ntmps90
 go_wp2_with fail
 try rw [hw1]
 clear hw1
 refine Zd (fun w' => Blok w' w.heap.size 34 #[.int .i64 e.k, .int .i64 e.t, .int .i64 e.a, .int .i64 e.b, .int .i64 e.c, .int .i64 e.p.q, .int .i64 e.p.i, .int .i64 e.p.h, .bool e.p.pair]) (KE1.out.drew) fun RS0 => ?_
 refine Zq 0 b 0 RS0 ?_
 refine Zq 1 b 0 RS0 ?_
 refine Zq 2 b 0 RS0 ?_
 refine Zq 3 b 0 RS0 ?_
 refine Zq 4 b 14 RS0 ?_
 refine Zq 6 w.heap.size 2 RS0 ?_
 refine Zl 7 (.int .i64 e.a) rfl (fun w9 hS => by
    have y2 := Zv hS 2 (.int .i64 e.a)
    go_simp) RS0 ?_
 refine Zq 8 w.heap.size 3 RS0 ?_
 refine Zl 9 (.int .i64 e.b) rfl (fun w9 hS => by
    have y3 := Zv hS 3 (.int .i64 e.b)
    go_simp) RS0 ?_
 refine Zq 10 w.heap.size 4 RS0 ?_
 refine Zl 11 (.int .i64 e.c) rfl (fun w9 hS => by
    have y4 := Zv hS 4 (.int .i64 e.c)
    go_simp) RS0 ?_
 refine Zq 12 w.heap.size 1 RS0 ?_
 refine Zl 13 (.int .i64 e.t) rfl (fun w9 hS => by
    have y1 := Zv hS 1 (.int .i64 e.t)
    go_simp) RS0 ?_
 refine Zq 14 w.heap.size 1 RS0 ?_
 refine Zl 15 (.int .i64 e.t) rfl (fun w9 hS => by
    have y1 := Zv hS 1 (.int .i64 e.t)
    go_simp) RS0 ?_
 refine tk 16 (.agg #[.int .i64 e.a, .int .i64 e.b, .int .i64 e.c, .int .i64 e.t, .int .i64 e.t]) RS0 ?_
 have cx : (World.drew w1).cell? ⟨b, 14, none⟩ = some (.slice al nl cl) := HS0.out.k.cell 14
 refine zat (i := 5) (v := .slice al nl cl) (by kernel_rfl) rfl (by kernel_rfl) (by go_simp) RS0 ?_
 clear cx
 refine Zc 17 172 #[.slice al nl cl, .agg #[.int .i64 e.a, .int .i64 e.b, .int .i64 e.c, .int .i64 e.t, .int .i64 e.t]] (zin al nl cl s.l l2 (J.lsOf e) v n2 hl hn2 _ ((HS0.out.i.l : RIn w1 al nl cl s.l).below (zaa w1)) (by omega)) ?_
 rintro e w2 ⟨v5, rfl, ho, hb⟩
 obtain ⟨a2, c2, rfl, hr⟩ := zcn ho.out hn2
 have hb2 : Below w1.heap.size w1 w2 := (zaa w1).trans hb
 refine Zu (Blok.below RS0 hb (Blok.lt RS0)) fun RS1 => ?_
 refine tk 18 (.tuple #[.slice a2 n2 c2, .bool v]) RS1 ?_
 refine tk 19 (.slice a2 n2 c2) RS1 ?_
 refine tk 20 (.bool v) RS1 ?_
 refine Zq 21 b 0 RS1 ?_
 refine Zq 22 b 0 RS1 ?_
 refine Zq 23 b 14 RS1 ?_
 have hofb : Y.OffL b a2 l2 := .inr (Y.off_own ho.out (show b < _ from by have := HB0.out.size; have := (zaa w1).size; omega))
 have HU2 : Hid (∀ q, a2 = some q -> H0 <= q.block) := Zh (fun q hq => by have h1 := (ho.out.lt q.block (by rw [hq]; rfl)).1; have h3 := (zaa w1).size; have := HB0.out.size; omega)
 obtain ⟨hw, kw⟩ := (HS0.out.below hb2).ls hr hofb
 have c14 : w2.cell? ⟨b, 14, none⟩ = some (.slice al nl cl) := (HS0.out.below hb2).k.cell 14
 have f14 : w2.frozen? ⟨b, 14, none⟩ = false := (HS0.out.below hb2).k.frozen 14
 have RS2 : (fun w' => Blok w' w.heap.size 34 #[.int .i64 e.k, .int .i64 e.t, .int .i64 e.a, .int .i64 e.b, .int .i64 e.c, .int .i64 e.p.q, .int .i64 e.p.i, .int .i64 e.p.h, .bool e.p.pair]) (w2.setCell ⟨b, 14, none⟩ (.slice a2 n2 c2)) := Blok.far RS1 (by simp; omega) _
 refine zaf (i := 24) (by kernel_rfl) (zah (w' := w2.setCell ⟨b, 14, none⟩ (.slice a2 n2 c2)) rfl (by kernel_rfl) (by go_simp) ⟨RS2, ?_⟩)
 refine tk 25 (.bool v) RS2 ?_
 refine wpAnyH_done (by kernel_rfl) ?_ _
 simp only [List.getElem_toArray, List.getElem_cons_succ, List.getElem_cons_zero, zc7, ztx, List.setIfInBounds_toArray, List.set_cons_succ, List.set_cons_zero]
 have HW := Zh hw
 have HG := Zh ((zbx (L.below_none (HB0.out.trans (hb2.mono HB0.out.size)))).trans kw)
 obtain ⟨w3, hw3⟩ : ∃ W, w2.setCell ⟨b, 14, none⟩ (.slice a2 n2 c2) = W := ⟨_, rfl⟩
 rw [hw3] at HW HG ⊢
 clear hw3 hw kw hr ho hb hb2 hofb c14 f14
 go_wp2
 go_ret
 exact ⟨rfl, ⟨ap, np, cp, a2, n2, c2, ah, nh, ch⟩, HW, HG.out, HU.out.1, HU2.out, HU.out.2.2⟩
end Go.Proofs.YtijkbflimbffmaaGreat
