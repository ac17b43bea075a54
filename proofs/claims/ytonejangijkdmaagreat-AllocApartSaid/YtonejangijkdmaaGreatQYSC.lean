import Derived.Test.YtonejangijkdmaaGreatQI
import Derived.Test.YtonejangijkdmaaGreatQYWK
import Derived.Test.YtonejangijkdmaaGreatYB
import Derived.Test.YtonejangijkdmaaGreatQYShell
import Derived.Deep.CutRange
namespace Go.Proofs.YtonejangijkdmaaGreat
set_option maxHeartbeats 4000000
set_option maxRecDepth 100000
open Go.RowKit
theorem zm2 {P : Program} {md : Region.Mode} {ops : Array Oper} {Q : Exit -> Act -> World -> Prop} {S : World -> Prop} {fuel : Nat} {listed : Array Bool} {a : Act} {w : World} {i j k : Nat}
  (hr : Region.ready md ops listed = [i, j, k])
  (hi : wpOp P ops Q i (fun a' w' => S w' /\ wpAnyH P md ops Q S fuel (listed.setIfInBounds i true) a' w') a w)
  (hj : wpOp P ops Q j (fun a' w' => S w' /\ wpAnyH P md ops Q S fuel (listed.setIfInBounds j true) a' w') a w)
  (hk : wpOp P ops Q k (fun a' w' => S w' /\ wpAnyH P md ops Q S fuel (listed.setIfInBounds k true) a' w') a w) : wpAnyH P md ops Q S (fuel + 1) listed a w := by
 refine wpAnyH_all hr (by simp) fun m hm => ?_
 simp only [List.mem_cons, List.not_mem_nil, or_false] at hm
 rcases hm with rfl | rfl | rfl
 ·exact hi
 ·exact hj
 ·exact hk
theorem zm0 {P : Program} {o : Oper} {ρ : Operand -> Value} {w : World} {g : Nat} {t : TypeId} {old cells : Array Value} {x y : Operand} (hk : Blok w g t old) (ho : o.op = .store t x y) (hx : ρ x = .pointer (some ⟨g, 0, none⟩)) (hy : ρ y = .agg cells) (hi : (P.info? t).map (·.size) = some cells.size) (hs : old.size = cells.size) (h1 : cells.all (·.oneCell') = true) :
  (execOp ρ o).run P w = .ok .skip (w.setRow g cells) := by
 have h := zm3 (P := P) hk cells hi hs h1
 unfold execOp
 rw [ho]
 simp only [hx, hy, Sem.run_bind, h, Result.andThen]
 rfl
theorem Y.as8 {w : World} {g : Nat} {t : TypeId} {a0 a1 a2 a3 a4 a5 a6 a7 : Value} (h : Blok w g t #[a0, a1, a2, a3, a4, a5, a6, a7]) : w.cell? ⟨g, 0, none⟩ = some a0 /\ w.cell? ⟨g, 1, none⟩ = some a1 /\ w.cell? ⟨g, 2, none⟩ = some a2 /\ w.cell? ⟨g, 3, none⟩ = some a3 /\ w.cell? ⟨g, 4, none⟩ = some a4 /\ w.cell? ⟨g, 5, none⟩ = some a5 /\ w.cell? ⟨g, 6, none⟩ = some a6 /\ w.cell? ⟨g, 7, none⟩ = some a7 := ⟨h.cell 0, h.cell 1, h.cell 2, h.cell 3, h.cell 4, h.cell 5, h.cell 6, h.cell 7⟩
theorem Y.as4 {w : World} {g : Nat} {t : TypeId} {a0 a1 a2 a3 : Value} (h : Blok w g t #[a0, a1, a2, a3]) : w.cell? ⟨g, 0, none⟩ = some a0 /\ w.cell? ⟨g, 1, none⟩ = some a1 /\ w.cell? ⟨g, 2, none⟩ = some a2 /\ w.cell? ⟨g, 3, none⟩ = some a3 := ⟨h.cell 0, h.cell 1, h.cell 2, h.cell 3⟩
def Y.OffS (g : Nat) (A : Y.A9) (s : Y.St) : Prop := Y.OffL g A.ap s.ps /\ Y.OffL g A.al s.l /\ Y.OffL g A.ah s.h
theorem Y.SIn.offs {w w' : World} {A : Y.A9} {s : Y.St} {g : Nat} (h : Y.SIn w A s) (ho : Y.OffS g A s) (hg : w.grownBy w' (some g)) : Y.SIn w' A s :=
 ⟨Y.pool_off h.p hg (fun q hq => by cases hq; exact ho.1), Y.row_off h.l hg (fun q hq => by cases hq; exact ho.2.1), Y.row_off h.h hg (fun q hq => by cases hq; exact ho.2.2)⟩
theorem Y.SIn.fresh {w : World} {A : Y.A9} {s : Y.St} {g : Nat} (h : Y.SIn w A s) (hg : w.heap.size <= g) : Y.OffS g A s := ⟨Y.pool_fresh h.p hg, Y.row_fresh h.l hg, Y.row_fresh h.h hg⟩
theorem Y.Up.offs {A : Y.A9} {s : Y.St} {g H : Nat} (h : Y.Up H A) (hg : g < H) : Y.OffS g A s :=
 ⟨.inr (fun x hx e => by have := h.1 x hx; omega), .inr (fun x hx e => by have := h.2.1 x hx; omega), .inr (fun x hx e => by have := h.2.2 x hx; omega)⟩
theorem Y.vin_fresh {α : Type} [V.Rec α] {w w' w0 : World} {a : Option Addr} {n c g : Nat} {l : List α} (h : VIn w a n c l) (h0 : VIn w0 a n c l) (hg0 : w0.heap.size <= g) (hg : w.grownBy w' (some g)) : VIn w' a n c l := by
 rcases h0.2.2.2 with e | ⟨b, off, rfl, hlt, _⟩
 ·exact ⟨h.1, h.2.1, h.2.2.1, .inl e⟩
 ·exact h.grown hg (fun x hx e => by
   cases hx
   have e2 : b = g := Option.some.inj e
   omega)
theorem Y.SIn.row {w w' : World} {A : Y.A9} {s : Y.St} {H : Nat} {row : Option Nat} (h : Y.SIn w A s) (hu : Y.Up H A) (hg : w.grownBy w' row) (hl : ∀ g, row = some g -> g < H) : Y.SIn w' A s :=
 ⟨Y.pool_off h.p hg (fun q hq => (Y.Up.offs (s := s) hu (hl q hq)).1), Y.row_off h.l hg (fun q hq => (Y.Up.offs (s := s) hu (hl q hq)).2.1), Y.row_off h.h hg (fun q hq => (Y.Up.offs (s := s) hu (hl q hq)).2.2)⟩
/-- The cells of a state that is nought, of a state. -/
def z16 : Array Value := #[(), (), (), (), (), (), (), (), (), (), (), .bool false, (), .slice none 0 0, .slice none 0 0, .slice none 0 0]
def ct (t : Y.St) (A : Y.A9) : Array Value := #[t.d.b, t.d.k, t.d.c, t.d.j, t.d.lo, t.d.hi, t.d.dy, t.d.bl, t.p.q, t.p.i, t.p.h, t.p.pair, t.now, .slice A.ap A.np A.cp, .slice A.al A.nl A.cl, .slice A.ah A.nh A.ch]
theorem zm1 (s : Y.St) (ap : Option Addr) (np cp : Nat) (al : Option Addr) (nl cl : Nat) (ah : Option Addr) (nh ch : Nat) (aq : Option Addr) (nq cq : Nat) (l : List Y.Rq) (H : Nat) (w : World) (h : Y.SIn w ⟨ap, np, cp, al, nl, cl, ah, nh, ch⟩ s) (hf : Y.Fits ⟨ap, np, cp, al, nl, cl, ah, nh, ch⟩ s) (hu : Y.Up H ⟨ap, np, cp, al, nl, cl, ah, nh, ch⟩) (hH : H <= w.heap.size) (hq : VIn w aq nq cq l) (hra : ∀ q ∈ l, q.a <= 9223372036854775807) (hn : nq <= 60) (t0 : Y.St) (evs : List Y.Ev) (hs : Y.script s l = (t0, evs)) :
  Calls Tryz.prog 25 #[.agg #[s.d.b, s.d.k, s.d.c, s.d.j, s.d.lo, s.d.hi, s.d.dy, s.d.bl, s.p.q, s.p.i, s.p.h, s.p.pair, s.now, .slice ap np cp, .slice al nl cl, .slice ah nh ch], .slice aq nq cq] w fun e w' => ∃ (ap2 : Option Addr) (np2 cp2 : Nat) (al2 : Option Addr) (nl2 cl2 : Nat) (ah2 : Option Addr) (nh2 ch2 : Nat) (ea : Option Addr) (ne ec : Nat), e = .returned (.tuple #[.agg #[t0.d.b, t0.d.k, t0.d.c, t0.d.j, t0.d.lo, t0.d.hi, t0.d.dy, t0.d.bl, t0.p.q, t0.p.i, t0.p.h, t0.p.pair, t0.now, .slice ap2 np2 cp2, .slice al2 nl2 cl2, .slice ah2 nh2 ch2], .slice ea ne ec]) /\ Hid (Y.SIn w' ⟨ap2, np2, cp2, al2, nl2, cl2, ah2, nh2, ch2⟩ t0) /\ Hid (VIn w' ea ne ec evs) /\ Hid (Y.Fits ⟨ap2, np2, cp2, al2, nl2, cl2, ah2, nh2, ch2⟩ t0) /\ Hid (Y.Up H ⟨ap2, np2, cp2, al2, nl2, cl2, ah2, nh2, ch2⟩) /\ Hid (∀ q, ea = some q -> w.heap.size <= q.block) /\ Below w.heap.size w w' := by
 have HB0 := Zh (Below.refl w.heap.size w)
 have HI0 := Zh (h)
 have HQ0 := Zh (hq)
 have HQA := Zh hq
 have HU0 := Zh hu
 have HF0 := Zh hf
 have HRA := Zh hra
 have HS := Zh hs
 have HLQ : Hid (l.length = nq) := Zh hq.1
 have h0 := h
 clear h hq hu hf hra hs
 obtain ⟨w1, hw1, hb, hk⟩ := Zn w 32 #[s.d.b, s.d.k, s.d.c, s.d.j, s.d.lo, s.d.hi, s.d.dy, s.d.bl, s.p.q, s.p.i, s.p.h, s.p.pair, s.now, .slice ap np cp, .slice al nl cl, .slice ah nh ch]
 replace HI0 := Zh (HI0.out.below hb)
 replace HQ0 := Zh (HQ0.out.below hb)
 replace HB0 := Zt HB0 hb
 have KS1 := Zh hk
 clear hb hk
 obtain ⟨w2, hw2, hb, hk⟩ := Zn w1 32 #[(), (), (), (), (), (), (), (), (), (), (), .bool false, (), .slice none 0 0, .slice none 0 0, .slice none 0 0]
 replace HI0 := Zh (HI0.out.below hb)
 replace HQ0 := Zh (HQ0.out.below hb)
 replace KS1 := Zk KS1 hb
 replace HB0 := Zt HB0 hb
 have K42 := Zh hk
 clear hb hk
 have L4 : Hid (w.heap.size < w1.heap.size) := Zh (by rw [<- hw1]; simp)
 have L5 : Hid (w1.heap.size < w2.heap.size) := Zh (by rw [<- hw2]; simp)
 have HOF : Hid (Y.OffS w1.heap.size ⟨ap, np, cp, al, nl, cl, ah, nh, ch⟩ s) := Zh (h0.fresh (by have := L4.out; omega))
 clear h0
 go_enter Tryz.func25, Tryz.ntmps25
 go_wp2_with fail
 try rw [hw1]
 try rw [hw2]
 clear hw1 hw2
 go_loopw [6, 7] (fun s6 s7 wr => ∃ (k : Nat) (u : Y.St) (ev : List Y.Ev) (v : Value) (apk : Option Addr) (npk cpk : Nat) (alk : Option Addr) (nlk clk : Nat) (ahk : Option Addr) (nhk chk : Nat), v = s6 /\ s7 = .int .i64 k /\ k <= nq /\ Hid (Y.script s (l.take k) = (u, ev)) /\ Hid (Blok wr w.heap.size 32 #[u.d.b, u.d.k, u.d.c, u.d.j, u.d.lo, u.d.hi, u.d.dy, u.d.bl, u.p.q, u.p.i, u.p.h, u.p.pair, u.now, .slice apk npk cpk, .slice alk nlk clk, .slice ahk nhk chk]) /\ Hid (Blok wr w1.heap.size 32 #[(), (), (), (), (), (), (), (), (), (), (), .bool false, (), .slice none 0 0, .slice none 0 0, .slice none 0 0]) /\ Hid (Y.SIn wr ⟨apk, npk, cpk, alk, nlk, clk, ahk, nhk, chk⟩ u) /\ Hid (Y.Fits ⟨apk, npk, cpk, alk, nlk, clk, ahk, nhk, chk⟩ u) /\ Hid (Y.Up H ⟨apk, npk, cpk, alk, nlk, clk, ahk, nhk, chk⟩) /\ Hid (Y.OffS w1.heap.size ⟨apk, npk, cpk, alk, nlk, clk, ahk, nhk, chk⟩ u) /\ Hid (wr.ownsRow w2.heap.size 66 9 v ev.length (V.flat ev)) /\ Hid (Below w.heap.size w wr) /\ Hid (w2.heap.size <= wr.heap.size)) (fun _ s7 _ => nq - (intOf s7).toNat)
 case atStart => exact ⟨0, s, [], _, ap, np, cp, al, nl, cl, ah, nh, ch, rfl, rfl, by omega, Zh rfl, KS1, K42, HI0, HF0, HU0, HOF, Zh (World.ownsRow_nil _ _ _ _), HB0, Zh (Nat.le_refl _)⟩
 clear HI0 HF0 HU0 HOF KS1 K42 HQ0
 case round =>
  obtain ⟨k, u, ev, v, apk, npk, cpk, alk, nlk, clk, ahk, nhk, chk, rfl, rfl, hkn, HSC, KS, K4, HI, HF, HU, HO, HR, HB, HSZ⟩ := hrel
  by_cases hlt : k < nq
  ·have HLT := Zh hlt
   have d1 : decide ((k : Int) < nq) = true := decide_eq_true (by omega)
   have d1' : decide (k < nq) = true := decide_eq_true hlt
   have k0 : (0 : Int) <= k := by omega
   have k1 : (k : Int) < nq := by omega
   have HQr := Zh (HQA.out.below HB.out)
   obtain ⟨bq, oq, x, hal, -, hx, hc⟩ := HQr.out.at hlt
   subst hal
   have HX := Zh hx
   have hra := HRA.out x (List.mem_of_getElem? hx)
   clear hx
   obtain ⟨⟨t, e1, er, xx, yy⟩, hst⟩ : ∃ q, Y.step u x = q := ⟨_, rfl⟩
   have HST := Zh hst
   obtain ⟨n1, hn1⟩ : ∃ n, e1.length = n := ⟨_, rfl⟩
   have HN1 := Zh hn1
   have hn33 : n1 <= 33 := by have := Y.step_evlen u x; rw [hst, hn1] at this; exact this
   obtain ⟨n0, hn0⟩ : ∃ n, ev.length = n := ⟨_, rfl⟩
   have HN0 := Zh hn0
   have hn2000 : n0 <= 2000 := by have h1 := Y.script_evlen (l.take k) s; rw [HSC.out, hn0] at h1; have := List.length_take_le k l; have := HLQ.out; omega
   clear hst hn1 hn0
   have HC := Zh hc
   clear hc
   go_upto_region 5 with fail
   go_cut [8, 9, 10] from 17 to 26 (fun s8 s9 s10 wx => ∃ (apn : Option Addr) (npn cpn : Nat) (aln : Option Addr) (nln cln : Nat) (ahn : Option Addr) (nhn chn : Nat) (ea : Option Addr) (ec b8 HC : Nat) (v10 : Value), s8 = .pointer (some ⟨b8, 0, none⟩) /\ s9 = .slice ea n1 ec /\ v10 = s10 /\ Hid (Blok wx b8 32 #[t.d.b, t.d.k, t.d.c, t.d.j, t.d.lo, t.d.hi, t.d.dy, t.d.bl, t.p.q, t.p.i, t.p.h, t.p.pair, t.now, .slice apn npn cpn, .slice aln nln cln, .slice ahn nhn chn]) /\ Hid (Y.SIn wx ⟨apn, npn, cpn, aln, nln, cln, ahn, nhn, chn⟩ t) /\ Hid (VIn wx ea n1 ec e1) /\ Hid (Y.Fits ⟨apn, npn, cpn, aln, nln, cln, ahn, nhn, chn⟩ t) /\ Hid (Y.Up HC ⟨apn, npn, cpn, aln, nln, cln, ahn, nhn, chn⟩) /\ Hid (∀ q, ea = some q -> HC <= q.block) /\ Hid (Below wr.heap.size wr wx) /\ Hid (wr.heap.size <= HC))
   case first =>
    skip
    refine Zd (fun w' => Below wr.heap.size wr w') (zaa wr) fun RS0 => ?_
    refine Zl 0 (.agg #[u.d.b, u.d.k, u.d.c, u.d.j, u.d.lo, u.d.hi, u.d.dy, u.d.bl, u.p.q, u.p.i, u.p.h, u.p.pair, u.now, .slice apk npk cpk, .slice alk nlk clk, .slice ahk nhk chk]) rfl (fun w9 hS => by
       have q := KS.out.below hS KS.out.lt
       have y0 := Zv q 0 (.int .i64 u.d.b)
       have y1 := Zv q 1 (.int .i64 u.d.k)
       have y2 := Zv q 2 (.int .i64 u.d.c)
       have y3 := Zv q 3 (.int .i64 u.d.j)
       have y4 := Zv q 4 (.int .i64 u.d.lo)
       have y5 := Zv q 5 (.int .i64 u.d.hi)
       have y6 := Zv q 6 (.int .i64 u.d.dy)
       have y7 := Zv q 7 (.int .i64 u.d.bl)
       have y8 := Zv q 8 (.int .i64 u.p.q)
       have y9 := Zv q 9 (.int .i64 u.p.i)
       have y10 := Zv q 10 (.int .i64 u.p.h)
       have y11 := Zv q 11 (.bool u.p.pair)
       have y12 := Zv q 12 (.int .i64 u.now)
       have y13 := Zv q 13 (.slice apk npk cpk)
       have y14 := Zv q 14 (.slice alk nlk clk)
       have y15 := Zv q 15 (.slice ahk nhk chk)
       go_simp) RS0 ?_
    refine tk 1 (.slice (some ⟨bq, oq, none⟩) nq cq) RS0 ?_
    refine tk 2 (.int .i64 k) RS0 ?_
    refine wpAnyH_take (i := 3) (v := .pointer (some ⟨bq, oq + k * 9, none⟩)) rfl (by kernel_rfl) (by kernel_rfl) (by kernel_rfl) (fun _ _ _ h => h) (.inl ⟨by kernel_rfl, fun w9 hS => by go_simp⟩) RS0 ?_
    refine Zl 4 (.agg #[x.k, x.s, x.a, x.b, x.n, x.p.q, x.p.i, x.p.h, x.p.pair]) rfl (fun w9 hS => by
       have y0 : w9.cell? ⟨bq, oq + k * 9, none⟩ = some (.int .i64 x.k) := zap (HC.out 0 _ rfl) (show Below wr.heap.size wr w9 from hS)
       have y1 : w9.cell? ⟨bq, oq + k * 9 + 1, none⟩ = some (.int .i64 x.s) := zap (HC.out 1 _ rfl) (show Below wr.heap.size wr w9 from hS)
       have y2 : w9.cell? ⟨bq, oq + k * 9 + 2, none⟩ = some (.int .i64 x.a) := zap (HC.out 2 _ rfl) (show Below wr.heap.size wr w9 from hS)
       have y3 : w9.cell? ⟨bq, oq + k * 9 + 3, none⟩ = some (.int .i64 x.b) := zap (HC.out 3 _ rfl) (show Below wr.heap.size wr w9 from hS)
       have y4 : w9.cell? ⟨bq, oq + k * 9 + 4, none⟩ = some (.int .i64 x.n) := zap (HC.out 4 _ rfl) (show Below wr.heap.size wr w9 from hS)
       have y5 : w9.cell? ⟨bq, oq + k * 9 + 5, none⟩ = some (.int .i64 x.p.q) := zap (HC.out 5 _ rfl) (show Below wr.heap.size wr w9 from hS)
       have y6 : w9.cell? ⟨bq, oq + k * 9 + 6, none⟩ = some (.int .i64 x.p.i) := zap (HC.out 6 _ rfl) (show Below wr.heap.size wr w9 from hS)
       have y7 : w9.cell? ⟨bq, oq + k * 9 + 7, none⟩ = some (.int .i64 x.p.h) := zap (HC.out 7 _ rfl) (show Below wr.heap.size wr w9 from hS)
       have y8 : w9.cell? ⟨bq, oq + k * 9 + 8, none⟩ = some (.bool x.p.pair) := zap (HC.out 8 _ rfl) (show Below wr.heap.size wr w9 from hS)
       go_simp) RS0 ?_
    obtain ⟨wd, hwd⟩ : ∃ V, World.drew wr = V := ⟨_, rfl⟩
    rw [hwd] at RS0 ⊢
    clear hwd
    refine zm2 (i := 5) (j := 10) (k := 11) (by kernel_rfl) ?_ ?_ ?_
    ·skip
     refine zbo rfl (by kernel_rfl) (by kernel_rfl) (zca u apk npk cpk alk nlk clk ahk nhk chk x t e1 er xx yy n1 HST.out HN1.out wd (HI.out.below RS0) HF.out (fun _ => hra)) ?_
     rintro e wc ⟨apn, npn, cpn, aln, nln, cln, ahn, nhn, chn, ea, ec, rfl, hi, hv, hf2, hu2, he, hb⟩
     have RSc := Below.trans RS0 (hb.mono (Below.size RS0))
     refine ⟨_, rfl, RSc, ?_⟩
     have hsc : wd.heap.size <= wc.heap.size := hb.size
     have hcr : wr.heap.size <= wd.heap.size := Below.size RS0
     have bcc : Below wc.heap.size wc wc := Below.refl _ _
     refine tk 6 (.tuple #[.agg #[t.d.b, t.d.k, t.d.c, t.d.j, t.d.lo, t.d.hi, t.d.dy, t.d.bl, t.p.q, t.p.i, t.p.h, t.p.pair, t.now, .slice apn npn cpn, .slice aln nln cln, .slice ahn nhn chn], .slice ea n1 ec, .agg #[er, xx, yy]]) RSc ?_
     refine tk 7 (.agg #[t.d.b, t.d.k, t.d.c, t.d.j, t.d.lo, t.d.hi, t.d.dy, t.d.bl, t.p.q, t.p.i, t.p.h, t.p.pair, t.now, .slice apn npn cpn, .slice aln nln cln, .slice ahn nhn chn]) RSc ?_
     refine tk 8 (.slice ea n1 ec) RSc ?_
     refine tk 9 (.agg #[er, xx, yy]) RSc ?_
     refine za8 (i := 10) (j := 11) (by kernel_rfl) ?_ ?_
     ·skip
      refine zam (w' := wc.alloc (.cells z16 32)) (v := .pointer (some ⟨wc.heap.size, 0, none⟩)) rfl (by kernel_rfl) (by kernel_rfl) ?_
      obtain ⟨we, hal⟩ : ∃ V, wc.alloc (.cells z16 32) = V := ⟨_, rfl⟩
      rw [hal]
      have hba : Below wc.heap.size wc we := by rw [<- hal]; exact (Below.refl _ wc).alloc (Nat.le_refl _) _
      have K810 : Blok we wc.heap.size 32 z16 := by rw [<- hal]; exact Blok.new wc _ _
      have RS10 := Below.trans RSc (hba.mono (Below.size RSc))
      have SZ10 : wr.heap.size <= wc.heap.size := Below.size RSc
      refine ⟨RS10, ?_⟩
      clear hal
      have bc10 := Below.trans bcc (hba.mono (Below.size bcc))
      have UP10 : wc.heap.size <= wc.heap.size := Below.size bcc
      have hi10 := (hi.out).below hba
      have hv10 := (hv.out).below hba
      refine zaf (i := 11) (by kernel_rfl) ?_
      refine zam (w' := we.alloc (.cells #[(), (), ()] 40)) (v := .pointer (some ⟨we.heap.size, 0, none⟩)) rfl (by kernel_rfl) (by kernel_rfl) ?_
      obtain ⟨wf, hal⟩ : ∃ V, we.alloc (.cells #[(), (), ()] 40) = V := ⟨_, rfl⟩
      rw [hal]
      have hba : Below we.heap.size we wf := by rw [<- hal]; exact (Below.refl _ we).alloc (Nat.le_refl _) _
      have KA11 : Blok wf we.heap.size 40 #[(), (), ()] := by rw [<- hal]; exact Blok.new we _ _
      have RS11 := Below.trans RS10 (hba.mono (Below.size RS10))
      have SZ11 : wr.heap.size <= we.heap.size := Below.size RS10
      refine ⟨RS11, ?_⟩
      clear hal
      have K811 := K810.below hba K810.lt
      have NE11 : wc.heap.size < we.heap.size := K810.lt
      have bc11 := Below.trans bc10 (hba.mono (Below.size bc10))
      have UP11 : wc.heap.size <= we.heap.size := Below.size bc10
      have hi11 := (hi10).below hba
      have hv11 := (hv10).below hba
      refine zaf (i := 12) (by kernel_rfl) (zah (w' := wf.setRow (wc.heap.size) (ct t ⟨apn, npn, cpn, aln, nln, cln, ahn, nhn, chn⟩)) rfl (by kernel_rfl) (zm0 K811 rfl (by kernel_rfl) (by kernel_rfl) (by kernel_rfl) rfl (by kernel_rfl)) ?_)
      obtain ⟨wg, hal⟩ : ∃ V, wf.setRow (wc.heap.size) (ct t ⟨apn, npn, cpn, aln, nln, cln, ahn, nhn, chn⟩) = V := ⟨_, rfl⟩
      rw [hal]
      have hg12 : wf.grownBy wg (some (wc.heap.size)) := by rw [<- hal]; exact zbr _ _ _
      have K8s : Blok wg (wc.heap.size) 32 (ct t ⟨apn, npn, cpn, aln, nln, cln, ahn, nhn, chn⟩) := by rw [<- hal]; exact K811.put _
      have RS12 : Below wr.heap.size wr wg := zbb RS11 hg12 (Below.size RS11) (by omega)
      refine ⟨RS12, ?_⟩
      clear hal
      have KAx12 := KA11.keepNe (by omega) hg12
      have hbc12 : Below wc.heap.size wc wg := zbb bc11 hg12 (Below.size bc11) (by omega)
      have hi12 := (hi.out).below hbc12
      have hv12 := (hv.out).below hbc12
      refine tk 13 (.slice ea n1 ec) RS12 ?_
      refine zaf (i := 14) (by kernel_rfl) (zah (w' := wg.setRow (we.heap.size) #[er, xx, yy]) rfl (by kernel_rfl) (zm0 KAx12 rfl (by kernel_rfl) (by kernel_rfl) (by kernel_rfl) rfl (by kernel_rfl)) ?_)
      obtain ⟨wh, hal⟩ : ∃ V, wg.setRow (we.heap.size) #[er, xx, yy] = V := ⟨_, rfl⟩
      rw [hal]
      have hg14 : wg.grownBy wh (some (we.heap.size)) := by rw [<- hal]; exact zbr _ _ _
      have KAs : Blok wh (we.heap.size) 40 #[er, xx, yy] := by rw [<- hal]; exact KAx12.put _
      have RS14 : Below wr.heap.size wr wh := zbb RS12 hg14 (Below.size RS12) (by omega)
      refine ⟨RS14, ?_⟩
      clear hal
      have K8x14 := K8s.keepNe (by omega) hg14
      have hbc14 : Below wc.heap.size wc wh := zbb hbc12 hg14 (Below.size hbc12) (by omega)
      have hi14 := (hi.out).below hbc14
      have hv14 := (hv.out).below hbc14
      refine wpAnyH_done (by kernel_rfl) ?_ _
      simp only [List.getElem_toArray, List.getElem_cons_succ, List.getElem_cons_zero, zc7, List.setIfInBounds_toArray, List.set_cons_succ, List.set_cons_zero]
      go_wp2_with fail
      go_meet
      exact ⟨apn, npn, cpn, aln, nln, cln, ahn, nhn, chn, ea, ec, _, wd.heap.size, _, rfl, rfl, rfl, Zh K8x14, Zh hi14, Zh hv14, hf2, hu2, he, Zh RS14, Zh hcr⟩
     ·skip
      refine zam (w' := wc.alloc (.cells #[(), (), ()] 40)) (v := .pointer (some ⟨wc.heap.size, 0, none⟩)) rfl (by kernel_rfl) (by kernel_rfl) ?_
      obtain ⟨wf, hal⟩ : ∃ V, wc.alloc (.cells #[(), (), ()] 40) = V := ⟨_, rfl⟩
      rw [hal]
      have hba : Below wc.heap.size wc wf := by rw [<- hal]; exact (Below.refl _ wc).alloc (Nat.le_refl _) _
      have KA11 : Blok wf wc.heap.size 40 #[(), (), ()] := by rw [<- hal]; exact Blok.new wc _ _
      have RS11 := Below.trans RSc (hba.mono (Below.size RSc))
      have SZ11 : wr.heap.size <= wc.heap.size := Below.size RSc
      refine ⟨RS11, ?_⟩
      clear hal
      have bc11 := Below.trans bcc (hba.mono (Below.size bcc))
      have UP11 : wc.heap.size <= wc.heap.size := Below.size bcc
      have hi11 := (hi.out).below hba
      have hv11 := (hv.out).below hba
      refine zaf (i := 10) (by kernel_rfl) ?_
      refine zam (w' := wf.alloc (.cells z16 32)) (v := .pointer (some ⟨wf.heap.size, 0, none⟩)) rfl (by kernel_rfl) (by kernel_rfl) ?_
      obtain ⟨we, hal⟩ : ∃ V, wf.alloc (.cells z16 32) = V := ⟨_, rfl⟩
      rw [hal]
      have hba : Below wf.heap.size wf we := by rw [<- hal]; exact (Below.refl _ wf).alloc (Nat.le_refl _) _
      have K810 : Blok we wf.heap.size 32 z16 := by rw [<- hal]; exact Blok.new wf _ _
      have RS10 := Below.trans RS11 (hba.mono (Below.size RS11))
      have SZ10 : wr.heap.size <= wf.heap.size := Below.size RS11
      refine ⟨RS10, ?_⟩
      clear hal
      have KA10 := KA11.below hba KA11.lt
      have NE10 : wc.heap.size < wf.heap.size := KA11.lt
      have bc10 := Below.trans bc11 (hba.mono (Below.size bc11))
      have UP10 : wc.heap.size <= wf.heap.size := Below.size bc11
      have hi10 := (hi11).below hba
      have hv10 := (hv11).below hba
      refine zaf (i := 12) (by kernel_rfl) (zah (w' := we.setRow (wf.heap.size) (ct t ⟨apn, npn, cpn, aln, nln, cln, ahn, nhn, chn⟩)) rfl (by kernel_rfl) (zm0 K810 rfl (by kernel_rfl) (by kernel_rfl) (by kernel_rfl) rfl (by kernel_rfl)) ?_)
      obtain ⟨wg, hal⟩ : ∃ V, we.setRow (wf.heap.size) (ct t ⟨apn, npn, cpn, aln, nln, cln, ahn, nhn, chn⟩) = V := ⟨_, rfl⟩
      rw [hal]
      have hg12 : we.grownBy wg (some (wf.heap.size)) := by rw [<- hal]; exact zbr _ _ _
      have K8s : Blok wg (wf.heap.size) 32 (ct t ⟨apn, npn, cpn, aln, nln, cln, ahn, nhn, chn⟩) := by rw [<- hal]; exact K810.put _
      have RS12 : Below wr.heap.size wr wg := zbb RS10 hg12 (Below.size RS10) (by omega)
      refine ⟨RS12, ?_⟩
      clear hal
      have KAx12 := KA10.keepNe (by omega) hg12
      have hbc12 : Below wc.heap.size wc wg := zbb bc10 hg12 (Below.size bc10) (by omega)
      have hi12 := (hi.out).below hbc12
      have hv12 := (hv.out).below hbc12
      refine tk 13 (.slice ea n1 ec) RS12 ?_
      refine zaf (i := 14) (by kernel_rfl) (zah (w' := wg.setRow (wc.heap.size) #[er, xx, yy]) rfl (by kernel_rfl) (zm0 KAx12 rfl (by kernel_rfl) (by kernel_rfl) (by kernel_rfl) rfl (by kernel_rfl)) ?_)
      obtain ⟨wh, hal⟩ : ∃ V, wg.setRow (wc.heap.size) #[er, xx, yy] = V := ⟨_, rfl⟩
      rw [hal]
      have hg14 : wg.grownBy wh (some (wc.heap.size)) := by rw [<- hal]; exact zbr _ _ _
      have KAs : Blok wh (wc.heap.size) 40 #[er, xx, yy] := by rw [<- hal]; exact KAx12.put _
      have RS14 : Below wr.heap.size wr wh := zbb RS12 hg14 (Below.size RS12) (by omega)
      refine ⟨RS14, ?_⟩
      clear hal
      have K8x14 := K8s.keepNe (by omega) hg14
      have hbc14 : Below wc.heap.size wc wh := zbb hbc12 hg14 (Below.size hbc12) (by omega)
      have hi14 := (hi.out).below hbc14
      have hv14 := (hv.out).below hbc14
      refine wpAnyH_done (by kernel_rfl) ?_ _
      simp only [List.getElem_toArray, List.getElem_cons_succ, List.getElem_cons_zero, zc7, List.setIfInBounds_toArray, List.set_cons_succ, List.set_cons_zero]
      go_wp2_with fail
      go_meet
      exact ⟨apn, npn, cpn, aln, nln, cln, ahn, nhn, chn, ea, ec, _, wd.heap.size, _, rfl, rfl, rfl, Zh K8x14, Zh hi14, Zh hv14, hf2, hu2, he, Zh RS14, Zh hcr⟩
    ·skip
     refine zam (w' := wd.alloc (.cells z16 32)) (v := .pointer (some ⟨wd.heap.size, 0, none⟩)) rfl (by kernel_rfl) (by kernel_rfl) ?_
     obtain ⟨we, hal⟩ : ∃ V, wd.alloc (.cells z16 32) = V := ⟨_, rfl⟩
     rw [hal]
     have hba : Below wd.heap.size wd we := by rw [<- hal]; exact (Below.refl _ wd).alloc (Nat.le_refl _) _
     have K810 : Blok we wd.heap.size 32 z16 := by rw [<- hal]; exact Blok.new wd _ _
     have RS10 := Below.trans RS0 (hba.mono (Below.size RS0))
     have SZ10 : wr.heap.size <= wd.heap.size := Below.size RS0
     refine ⟨RS10, ?_⟩
     clear hal
     refine za8 (i := 5) (j := 11) (by kernel_rfl) ?_ ?_
     ·skip
      refine zbo rfl (by kernel_rfl) (by kernel_rfl) (zca u apk npk cpk alk nlk clk ahk nhk chk x t e1 er xx yy n1 HST.out HN1.out we (HI.out.below RS10) HF.out (fun _ => hra)) ?_
      rintro e wc ⟨apn, npn, cpn, aln, nln, cln, ahn, nhn, chn, ea, ec, rfl, hi, hv, hf2, hu2, he, hb⟩
      have RSc := Below.trans RS10 (hb.mono (Below.size RS10))
      refine ⟨_, rfl, RSc, ?_⟩
      have hsc : we.heap.size <= wc.heap.size := hb.size
      have hcr : wr.heap.size <= we.heap.size := Below.size RS10
      have K8c := K810.below hb K810.lt
      have K8l : wd.heap.size < we.heap.size := K810.lt
      have bcc : Below wc.heap.size wc wc := Below.refl _ _
      refine tk 6 (.tuple #[.agg #[t.d.b, t.d.k, t.d.c, t.d.j, t.d.lo, t.d.hi, t.d.dy, t.d.bl, t.p.q, t.p.i, t.p.h, t.p.pair, t.now, .slice apn npn cpn, .slice aln nln cln, .slice ahn nhn chn], .slice ea n1 ec, .agg #[er, xx, yy]]) RSc ?_
      refine tk 7 (.agg #[t.d.b, t.d.k, t.d.c, t.d.j, t.d.lo, t.d.hi, t.d.dy, t.d.bl, t.p.q, t.p.i, t.p.h, t.p.pair, t.now, .slice apn npn cpn, .slice aln nln cln, .slice ahn nhn chn]) RSc ?_
      refine tk 8 (.slice ea n1 ec) RSc ?_
      refine tk 9 (.agg #[er, xx, yy]) RSc ?_
      refine zaf (i := 11) (by kernel_rfl) ?_
      refine zam (w' := wc.alloc (.cells #[(), (), ()] 40)) (v := .pointer (some ⟨wc.heap.size, 0, none⟩)) rfl (by kernel_rfl) (by kernel_rfl) ?_
      obtain ⟨wf, hal⟩ : ∃ V, wc.alloc (.cells #[(), (), ()] 40) = V := ⟨_, rfl⟩
      rw [hal]
      have hba : Below wc.heap.size wc wf := by rw [<- hal]; exact (Below.refl _ wc).alloc (Nat.le_refl _) _
      have KA11 : Blok wf wc.heap.size 40 #[(), (), ()] := by rw [<- hal]; exact Blok.new wc _ _
      have RS11 := Below.trans RSc (hba.mono (Below.size RSc))
      have SZ11 : wr.heap.size <= wc.heap.size := Below.size RSc
      refine ⟨RS11, ?_⟩
      clear hal
      have K811 := K8c.below hba K8c.lt
      have NE11 : wd.heap.size < wc.heap.size := K8c.lt
      have bc11 := Below.trans bcc (hba.mono (Below.size bcc))
      have UP11 : wc.heap.size <= wc.heap.size := Below.size bcc
      have hi11 := (hi.out).below hba
      have hv11 := (hv.out).below hba
      refine zaf (i := 12) (by kernel_rfl) (zah (w' := wf.setRow (wd.heap.size) (ct t ⟨apn, npn, cpn, aln, nln, cln, ahn, nhn, chn⟩)) rfl (by kernel_rfl) (zm0 K811 rfl (by kernel_rfl) (by kernel_rfl) (by kernel_rfl) rfl (by kernel_rfl)) ?_)
      obtain ⟨wg, hal⟩ : ∃ V, wf.setRow (wd.heap.size) (ct t ⟨apn, npn, cpn, aln, nln, cln, ahn, nhn, chn⟩) = V := ⟨_, rfl⟩
      rw [hal]
      have hg12 : wf.grownBy wg (some (wd.heap.size)) := by rw [<- hal]; exact zbr _ _ _
      have K8s : Blok wg (wd.heap.size) 32 (ct t ⟨apn, npn, cpn, aln, nln, cln, ahn, nhn, chn⟩) := by rw [<- hal]; exact K811.put _
      have RS12 : Below wr.heap.size wr wg := zbb RS11 hg12 (Below.size RS11) (by omega)
      refine ⟨RS12, ?_⟩
      clear hal
      have KAx12 := KA11.keepNe (by omega) hg12
      have hi12 := (hi11).up hu2.out hg12 (by omega)
      have hv12 := Y.vin_up (hv11) he.out hg12 (by omega)
      refine tk 13 (.slice ea n1 ec) RS12 ?_
      refine zaf (i := 14) (by kernel_rfl) (zah (w' := wg.setRow (wc.heap.size) #[er, xx, yy]) rfl (by kernel_rfl) (zm0 KAx12 rfl (by kernel_rfl) (by kernel_rfl) (by kernel_rfl) rfl (by kernel_rfl)) ?_)
      obtain ⟨wh, hal⟩ : ∃ V, wg.setRow (wc.heap.size) #[er, xx, yy] = V := ⟨_, rfl⟩
      rw [hal]
      have hg14 : wg.grownBy wh (some (wc.heap.size)) := by rw [<- hal]; exact zbr _ _ _
      have KAs : Blok wh (wc.heap.size) 40 #[er, xx, yy] := by rw [<- hal]; exact KAx12.put _
      have RS14 : Below wr.heap.size wr wh := zbb RS12 hg14 (Below.size RS12) (by omega)
      refine ⟨RS14, ?_⟩
      clear hal
      have K8x14 := K8s.keepNe (by omega) hg14
      have hi14 := (hi12).offs (Y.SIn.fresh hi.out (by omega)) hg14
      have hv14 := Y.vin_fresh (hv12) hv.out (by omega) hg14
      refine wpAnyH_done (by kernel_rfl) ?_ _
      simp only [List.getElem_toArray, List.getElem_cons_succ, List.getElem_cons_zero, zc7, List.setIfInBounds_toArray, List.set_cons_succ, List.set_cons_zero]
      go_wp2_with fail
      go_meet
      exact ⟨apn, npn, cpn, aln, nln, cln, ahn, nhn, chn, ea, ec, _, we.heap.size, _, rfl, rfl, rfl, Zh K8x14, Zh hi14, Zh hv14, hf2, hu2, he, Zh RS14, Zh hcr⟩
     ·skip
      refine zam (w' := we.alloc (.cells #[(), (), ()] 40)) (v := .pointer (some ⟨we.heap.size, 0, none⟩)) rfl (by kernel_rfl) (by kernel_rfl) ?_
      obtain ⟨wf, hal⟩ : ∃ V, we.alloc (.cells #[(), (), ()] 40) = V := ⟨_, rfl⟩
      rw [hal]
      have hba : Below we.heap.size we wf := by rw [<- hal]; exact (Below.refl _ we).alloc (Nat.le_refl _) _
      have KA11 : Blok wf we.heap.size 40 #[(), (), ()] := by rw [<- hal]; exact Blok.new we _ _
      have RS11 := Below.trans RS10 (hba.mono (Below.size RS10))
      have SZ11 : wr.heap.size <= we.heap.size := Below.size RS10
      refine ⟨RS11, ?_⟩
      clear hal
      have K811 := K810.below hba K810.lt
      have NE11 : wd.heap.size < we.heap.size := K810.lt
      refine zaf (i := 5) (by kernel_rfl) ?_
      refine zbo rfl (by kernel_rfl) (by kernel_rfl) (zca u apk npk cpk alk nlk clk ahk nhk chk x t e1 er xx yy n1 HST.out HN1.out wf (HI.out.below RS11) HF.out (fun _ => hra)) ?_
      rintro e wc ⟨apn, npn, cpn, aln, nln, cln, ahn, nhn, chn, ea, ec, rfl, hi, hv, hf2, hu2, he, hb⟩
      have RSc := Below.trans RS11 (hb.mono (Below.size RS11))
      refine ⟨_, rfl, RSc, ?_⟩
      have hsc : wf.heap.size <= wc.heap.size := hb.size
      have hcr : wr.heap.size <= wf.heap.size := Below.size RS11
      have K8c := K811.below hb K811.lt
      have K8l : wd.heap.size < wf.heap.size := K811.lt
      have KAc := KA11.below hb KA11.lt
      have KAl : we.heap.size < wf.heap.size := KA11.lt
      have bcc : Below wc.heap.size wc wc := Below.refl _ _
      refine tk 6 (.tuple #[.agg #[t.d.b, t.d.k, t.d.c, t.d.j, t.d.lo, t.d.hi, t.d.dy, t.d.bl, t.p.q, t.p.i, t.p.h, t.p.pair, t.now, .slice apn npn cpn, .slice aln nln cln, .slice ahn nhn chn], .slice ea n1 ec, .agg #[er, xx, yy]]) RSc ?_
      refine tk 7 (.agg #[t.d.b, t.d.k, t.d.c, t.d.j, t.d.lo, t.d.hi, t.d.dy, t.d.bl, t.p.q, t.p.i, t.p.h, t.p.pair, t.now, .slice apn npn cpn, .slice aln nln cln, .slice ahn nhn chn]) RSc ?_
      refine tk 8 (.slice ea n1 ec) RSc ?_
      refine tk 9 (.agg #[er, xx, yy]) RSc ?_
      refine zaf (i := 12) (by kernel_rfl) (zah (w' := wc.setRow (wd.heap.size) (ct t ⟨apn, npn, cpn, aln, nln, cln, ahn, nhn, chn⟩)) rfl (by kernel_rfl) (zm0 K8c rfl (by kernel_rfl) (by kernel_rfl) (by kernel_rfl) rfl (by kernel_rfl)) ?_)
      obtain ⟨wg, hal⟩ : ∃ V, wc.setRow (wd.heap.size) (ct t ⟨apn, npn, cpn, aln, nln, cln, ahn, nhn, chn⟩) = V := ⟨_, rfl⟩
      rw [hal]
      have hg12 : wc.grownBy wg (some (wd.heap.size)) := by rw [<- hal]; exact zbr _ _ _
      have K8s : Blok wg (wd.heap.size) 32 (ct t ⟨apn, npn, cpn, aln, nln, cln, ahn, nhn, chn⟩) := by rw [<- hal]; exact K8c.put _
      have RS12 : Below wr.heap.size wr wg := zbb RSc hg12 (Below.size RSc) (by omega)
      refine ⟨RS12, ?_⟩
      clear hal
      have KAx12 := KAc.keepNe (by omega) hg12
      have hi12 := (hi.out).up hu2.out hg12 (by omega)
      have hv12 := Y.vin_up (hv.out) he.out hg12 (by omega)
      refine tk 13 (.slice ea n1 ec) RS12 ?_
      refine zaf (i := 14) (by kernel_rfl) (zah (w' := wg.setRow (we.heap.size) #[er, xx, yy]) rfl (by kernel_rfl) (zm0 KAx12 rfl (by kernel_rfl) (by kernel_rfl) (by kernel_rfl) rfl (by kernel_rfl)) ?_)
      obtain ⟨wh, hal⟩ : ∃ V, wg.setRow (we.heap.size) #[er, xx, yy] = V := ⟨_, rfl⟩
      rw [hal]
      have hg14 : wg.grownBy wh (some (we.heap.size)) := by rw [<- hal]; exact zbr _ _ _
      have KAs : Blok wh (we.heap.size) 40 #[er, xx, yy] := by rw [<- hal]; exact KAx12.put _
      have RS14 : Below wr.heap.size wr wh := zbb RS12 hg14 (Below.size RS12) (by omega)
      refine ⟨RS14, ?_⟩
      clear hal
      have K8x14 := K8s.keepNe (by omega) hg14
      have hi14 := (hi12).up hu2.out hg14 (by omega)
      have hv14 := Y.vin_up (hv12) he.out hg14 (by omega)
      refine wpAnyH_done (by kernel_rfl) ?_ _
      simp only [List.getElem_toArray, List.getElem_cons_succ, List.getElem_cons_zero, zc7, List.setIfInBounds_toArray, List.set_cons_succ, List.set_cons_zero]
      go_wp2_with fail
      go_meet
      exact ⟨apn, npn, cpn, aln, nln, cln, ahn, nhn, chn, ea, ec, _, wf.heap.size, _, rfl, rfl, rfl, Zh K8x14, Zh hi14, Zh hv14, hf2, hu2, he, Zh RS14, Zh hcr⟩
    ·skip
     refine zam (w' := wd.alloc (.cells #[(), (), ()] 40)) (v := .pointer (some ⟨wd.heap.size, 0, none⟩)) rfl (by kernel_rfl) (by kernel_rfl) ?_
     obtain ⟨wf, hal⟩ : ∃ V, wd.alloc (.cells #[(), (), ()] 40) = V := ⟨_, rfl⟩
     rw [hal]
     have hba : Below wd.heap.size wd wf := by rw [<- hal]; exact (Below.refl _ wd).alloc (Nat.le_refl _) _
     have KA11 : Blok wf wd.heap.size 40 #[(), (), ()] := by rw [<- hal]; exact Blok.new wd _ _
     have RS11 := Below.trans RS0 (hba.mono (Below.size RS0))
     have SZ11 : wr.heap.size <= wd.heap.size := Below.size RS0
     refine ⟨RS11, ?_⟩
     clear hal
     refine za8 (i := 5) (j := 10) (by kernel_rfl) ?_ ?_
     ·skip
      refine zbo rfl (by kernel_rfl) (by kernel_rfl) (zca u apk npk cpk alk nlk clk ahk nhk chk x t e1 er xx yy n1 HST.out HN1.out wf (HI.out.below RS11) HF.out (fun _ => hra)) ?_
      rintro e wc ⟨apn, npn, cpn, aln, nln, cln, ahn, nhn, chn, ea, ec, rfl, hi, hv, hf2, hu2, he, hb⟩
      have RSc := Below.trans RS11 (hb.mono (Below.size RS11))
      refine ⟨_, rfl, RSc, ?_⟩
      have hsc : wf.heap.size <= wc.heap.size := hb.size
      have hcr : wr.heap.size <= wf.heap.size := Below.size RS11
      have KAc := KA11.below hb KA11.lt
      have KAl : wd.heap.size < wf.heap.size := KA11.lt
      have bcc : Below wc.heap.size wc wc := Below.refl _ _
      refine tk 6 (.tuple #[.agg #[t.d.b, t.d.k, t.d.c, t.d.j, t.d.lo, t.d.hi, t.d.dy, t.d.bl, t.p.q, t.p.i, t.p.h, t.p.pair, t.now, .slice apn npn cpn, .slice aln nln cln, .slice ahn nhn chn], .slice ea n1 ec, .agg #[er, xx, yy]]) RSc ?_
      refine tk 7 (.agg #[t.d.b, t.d.k, t.d.c, t.d.j, t.d.lo, t.d.hi, t.d.dy, t.d.bl, t.p.q, t.p.i, t.p.h, t.p.pair, t.now, .slice apn npn cpn, .slice aln nln cln, .slice ahn nhn chn]) RSc ?_
      refine tk 8 (.slice ea n1 ec) RSc ?_
      refine tk 9 (.agg #[er, xx, yy]) RSc ?_
      refine zaf (i := 10) (by kernel_rfl) ?_
      refine zam (w' := wc.alloc (.cells z16 32)) (v := .pointer (some ⟨wc.heap.size, 0, none⟩)) rfl (by kernel_rfl) (by kernel_rfl) ?_
      obtain ⟨we, hal⟩ : ∃ V, wc.alloc (.cells z16 32) = V := ⟨_, rfl⟩
      rw [hal]
      have hba : Below wc.heap.size wc we := by rw [<- hal]; exact (Below.refl _ wc).alloc (Nat.le_refl _) _
      have K810 : Blok we wc.heap.size 32 z16 := by rw [<- hal]; exact Blok.new wc _ _
      have RS10 := Below.trans RSc (hba.mono (Below.size RSc))
      have SZ10 : wr.heap.size <= wc.heap.size := Below.size RSc
      refine ⟨RS10, ?_⟩
      clear hal
      have KA10 := KAc.below hba KAc.lt
      have NE10 : wd.heap.size < wc.heap.size := KAc.lt
      have bc10 := Below.trans bcc (hba.mono (Below.size bcc))
      have UP10 : wc.heap.size <= wc.heap.size := Below.size bcc
      have hi10 := (hi.out).below hba
      have hv10 := (hv.out).below hba
      refine zaf (i := 12) (by kernel_rfl) (zah (w' := we.setRow (wc.heap.size) (ct t ⟨apn, npn, cpn, aln, nln, cln, ahn, nhn, chn⟩)) rfl (by kernel_rfl) (zm0 K810 rfl (by kernel_rfl) (by kernel_rfl) (by kernel_rfl) rfl (by kernel_rfl)) ?_)
      obtain ⟨wg, hal⟩ : ∃ V, we.setRow (wc.heap.size) (ct t ⟨apn, npn, cpn, aln, nln, cln, ahn, nhn, chn⟩) = V := ⟨_, rfl⟩
      rw [hal]
      have hg12 : we.grownBy wg (some (wc.heap.size)) := by rw [<- hal]; exact zbr _ _ _
      have K8s : Blok wg (wc.heap.size) 32 (ct t ⟨apn, npn, cpn, aln, nln, cln, ahn, nhn, chn⟩) := by rw [<- hal]; exact K810.put _
      have RS12 : Below wr.heap.size wr wg := zbb RS10 hg12 (Below.size RS10) (by omega)
      refine ⟨RS12, ?_⟩
      clear hal
      have KAx12 := KA10.keepNe (by omega) hg12
      have hbc12 : Below wc.heap.size wc wg := zbb bc10 hg12 (Below.size bc10) (by omega)
      have hi12 := (hi.out).below hbc12
      have hv12 := (hv.out).below hbc12
      refine tk 13 (.slice ea n1 ec) RS12 ?_
      refine zaf (i := 14) (by kernel_rfl) (zah (w' := wg.setRow (wd.heap.size) #[er, xx, yy]) rfl (by kernel_rfl) (zm0 KAx12 rfl (by kernel_rfl) (by kernel_rfl) (by kernel_rfl) rfl (by kernel_rfl)) ?_)
      obtain ⟨wh, hal⟩ : ∃ V, wg.setRow (wd.heap.size) #[er, xx, yy] = V := ⟨_, rfl⟩
      rw [hal]
      have hg14 : wg.grownBy wh (some (wd.heap.size)) := by rw [<- hal]; exact zbr _ _ _
      have KAs : Blok wh (wd.heap.size) 40 #[er, xx, yy] := by rw [<- hal]; exact KAx12.put _
      have RS14 : Below wr.heap.size wr wh := zbb RS12 hg14 (Below.size RS12) (by omega)
      refine ⟨RS14, ?_⟩
      clear hal
      have K8x14 := K8s.keepNe (by omega) hg14
      have hi14 := (hi12).up hu2.out hg14 (by omega)
      have hv14 := Y.vin_up (hv12) he.out hg14 (by omega)
      refine wpAnyH_done (by kernel_rfl) ?_ _
      simp only [List.getElem_toArray, List.getElem_cons_succ, List.getElem_cons_zero, zc7, List.setIfInBounds_toArray, List.set_cons_succ, List.set_cons_zero]
      go_wp2_with fail
      go_meet
      exact ⟨apn, npn, cpn, aln, nln, cln, ahn, nhn, chn, ea, ec, _, wf.heap.size, _, rfl, rfl, rfl, Zh K8x14, Zh hi14, Zh hv14, hf2, hu2, he, Zh RS14, Zh hcr⟩
     ·skip
      refine zam (w' := wf.alloc (.cells z16 32)) (v := .pointer (some ⟨wf.heap.size, 0, none⟩)) rfl (by kernel_rfl) (by kernel_rfl) ?_
      obtain ⟨we, hal⟩ : ∃ V, wf.alloc (.cells z16 32) = V := ⟨_, rfl⟩
      rw [hal]
      have hba : Below wf.heap.size wf we := by rw [<- hal]; exact (Below.refl _ wf).alloc (Nat.le_refl _) _
      have K810 : Blok we wf.heap.size 32 z16 := by rw [<- hal]; exact Blok.new wf _ _
      have RS10 := Below.trans RS11 (hba.mono (Below.size RS11))
      have SZ10 : wr.heap.size <= wf.heap.size := Below.size RS11
      refine ⟨RS10, ?_⟩
      clear hal
      have KA10 := KA11.below hba KA11.lt
      have NE10 : wd.heap.size < wf.heap.size := KA11.lt
      refine zaf (i := 5) (by kernel_rfl) ?_
      refine zbo rfl (by kernel_rfl) (by kernel_rfl) (zca u apk npk cpk alk nlk clk ahk nhk chk x t e1 er xx yy n1 HST.out HN1.out we (HI.out.below RS10) HF.out (fun _ => hra)) ?_
      rintro e wc ⟨apn, npn, cpn, aln, nln, cln, ahn, nhn, chn, ea, ec, rfl, hi, hv, hf2, hu2, he, hb⟩
      have RSc := Below.trans RS10 (hb.mono (Below.size RS10))
      refine ⟨_, rfl, RSc, ?_⟩
      have hsc : we.heap.size <= wc.heap.size := hb.size
      have hcr : wr.heap.size <= we.heap.size := Below.size RS10
      have KAc := KA10.below hb KA10.lt
      have KAl : wd.heap.size < we.heap.size := KA10.lt
      have K8c := K810.below hb K810.lt
      have K8l : wf.heap.size < we.heap.size := K810.lt
      have bcc : Below wc.heap.size wc wc := Below.refl _ _
      refine tk 6 (.tuple #[.agg #[t.d.b, t.d.k, t.d.c, t.d.j, t.d.lo, t.d.hi, t.d.dy, t.d.bl, t.p.q, t.p.i, t.p.h, t.p.pair, t.now, .slice apn npn cpn, .slice aln nln cln, .slice ahn nhn chn], .slice ea n1 ec, .agg #[er, xx, yy]]) RSc ?_
      refine tk 7 (.agg #[t.d.b, t.d.k, t.d.c, t.d.j, t.d.lo, t.d.hi, t.d.dy, t.d.bl, t.p.q, t.p.i, t.p.h, t.p.pair, t.now, .slice apn npn cpn, .slice aln nln cln, .slice ahn nhn chn]) RSc ?_
      refine tk 8 (.slice ea n1 ec) RSc ?_
      refine tk 9 (.agg #[er, xx, yy]) RSc ?_
      refine zaf (i := 12) (by kernel_rfl) (zah (w' := wc.setRow (wf.heap.size) (ct t ⟨apn, npn, cpn, aln, nln, cln, ahn, nhn, chn⟩)) rfl (by kernel_rfl) (zm0 K8c rfl (by kernel_rfl) (by kernel_rfl) (by kernel_rfl) rfl (by kernel_rfl)) ?_)
      obtain ⟨wg, hal⟩ : ∃ V, wc.setRow (wf.heap.size) (ct t ⟨apn, npn, cpn, aln, nln, cln, ahn, nhn, chn⟩) = V := ⟨_, rfl⟩
      rw [hal]
      have hg12 : wc.grownBy wg (some (wf.heap.size)) := by rw [<- hal]; exact zbr _ _ _
      have K8s : Blok wg (wf.heap.size) 32 (ct t ⟨apn, npn, cpn, aln, nln, cln, ahn, nhn, chn⟩) := by rw [<- hal]; exact K8c.put _
      have RS12 : Below wr.heap.size wr wg := zbb RSc hg12 (Below.size RSc) (by omega)
      refine ⟨RS12, ?_⟩
      clear hal
      have KAx12 := KAc.keepNe (by omega) hg12
      have hi12 := (hi.out).up hu2.out hg12 (by omega)
      have hv12 := Y.vin_up (hv.out) he.out hg12 (by omega)
      refine tk 13 (.slice ea n1 ec) RS12 ?_
      refine zaf (i := 14) (by kernel_rfl) (zah (w' := wg.setRow (wd.heap.size) #[er, xx, yy]) rfl (by kernel_rfl) (zm0 KAx12 rfl (by kernel_rfl) (by kernel_rfl) (by kernel_rfl) rfl (by kernel_rfl)) ?_)
      obtain ⟨wh, hal⟩ : ∃ V, wg.setRow (wd.heap.size) #[er, xx, yy] = V := ⟨_, rfl⟩
      rw [hal]
      have hg14 : wg.grownBy wh (some (wd.heap.size)) := by rw [<- hal]; exact zbr _ _ _
      have KAs : Blok wh (wd.heap.size) 40 #[er, xx, yy] := by rw [<- hal]; exact KAx12.put _
      have RS14 : Below wr.heap.size wr wh := zbb RS12 hg14 (Below.size RS12) (by omega)
      refine ⟨RS14, ?_⟩
      clear hal
      have K8x14 := K8s.keepNe (by omega) hg14
      have hi14 := (hi12).up hu2.out hg14 (by omega)
      have hv14 := Y.vin_up (hv12) he.out hg14 (by omega)
      refine wpAnyH_done (by kernel_rfl) ?_ _
      simp only [List.getElem_toArray, List.getElem_cons_succ, List.getElem_cons_zero, zc7, List.setIfInBounds_toArray, List.set_cons_succ, List.set_cons_zero]
      go_wp2_with fail
      go_meet
      exact ⟨apn, npn, cpn, aln, nln, cln, ahn, nhn, chn, ea, ec, _, we.heap.size, _, rfl, rfl, rfl, Zh K8x14, Zh hi14, Zh hv14, hf2, hu2, he, Zh RS14, Zh hcr⟩
   case rest =>
    obtain ⟨apn, npn, cpn, aln, nln, cln, ahn, nhn, chn, ea, ec, b8, HC, v10, rfl, rfl, rfl, HK8, HIN, HVN, hf2, hu2, he, HRS, HCR⟩ := hcut
    have KSh := KS.out.below HRS.out KS.out.lt
    have K4h := K4.out.below HRS.out K4.out.lt
    have HRh := zab HR.out HRS.out
    have hlo : w.heap.size < w1.heap.size /\ w1.heap.size < w2.heap.size /\ w2.heap.size <= wr.heap.size /\ wr.heap.size <= HC /\ H <= w.heap.size := ⟨L4.out, L5.out, HSZ.out, HCR.out, hH⟩
    obtain ⟨hl1, hl2, hl3, hl4, hl5⟩ := hlo
    obtain ⟨wp, hp⟩ : ∃ V, wc.setRow w.heap.size #[t.d.b, t.d.k, t.d.c, t.d.j, t.d.lo, t.d.hi, t.d.dy, t.d.bl, t.p.q, t.p.i, t.p.h, t.p.pair, t.now, .slice apn npn cpn, .slice aln nln cln, .slice ahn nhn chn] = V := ⟨_, rfl⟩
    have HP := Zh hp
    have hgp : wc.grownBy wp (some w.heap.size) := by rw [<- hp]; exact zbr _ _ _
    have KSp : Blok wp w.heap.size 32 #[t.d.b, t.d.k, t.d.c, t.d.j, t.d.lo, t.d.hi, t.d.dy, t.d.bl, t.p.q, t.p.i, t.p.h, t.p.pair, t.now, .slice apn npn cpn, .slice aln nln cln, .slice ahn nhn chn] := by rw [<- hp]; exact KSh.put _
    clear hp
    have hip := HIN.out.up hu2.out hgp (by omega)
    have hvp := Y.vin_up HVN.out he.out hgp (by omega)
    have K4p := K4h.keepNe (by omega) hgp
    have HRp := HRh.kept hgp (.inr (fun e => by have := (HR.out.lt _ e).1; omega))
    have hsp : wr.heap.size <= wp.heap.size := Nat.le_trans (Below.size HRS.out) hgp.size
    have HBp : Below w.heap.size w wp := zbb (HB.out.trans (Below.mono HRS.out HB.out.size)) hgp (Nat.le_trans HB.out.size (Below.size HRS.out)) (Nat.le_refl _)
    have KSH := Zh KSh
    go_wp2_with (first | (refine zak HK8.out rfl rfl (by kernel_rfl) Tryz.underlying32 rfl (by kernel_rfl) ?_) | (refine Zw KSH.out HP.out ?_) | (at_builtin; refine zb8 (α := Y.Ev) rfl _ _ 37 66 rfl (.agg #[(), (), (), (), (), (), (), (), .bool false]) 72 Tryz.underlying37 zcj rfl (by decide) w2.heap.size v ev.length ev rfl HRp ea n1 ec e1 rfl hvp (by rw [HN0.out]; omega) (by omega) ?_; intro v2 wq hoq hgq))
    go_roundw
    case rel =>
     have hne : ∀ g, v.ownBlock = some g -> w2.heap.size <= g /\ g < HC := fun g hg => by have := HR.out.lt _ hg; omega
     refine ⟨k + 1, t, ev ++ e1, v2, apn, npn, cpn, aln, nln, cln, ahn, nhn, chn, rfl, by go_num, by have := HLT.out; omega, Zh (by rw [Y.script_take HX.out, HSC.out]; simp only; rw [HST.out]), Zh (KSp.grown hgq (fun e => by have := hne _ e.symm; omega)), Zh (K4p.grown hgq (fun e => by have := hne _ e.symm; omega)), Zh (Y.SIn.row hip hu2.out hgq (fun g hg => (hne g hg).2)), hf2, Zh (hu2.out.mono (by omega)), Zh (Y.Up.offs hu2.out (by omega)), Zh (by rw [List.length_append, HN1.out]; exact hoq), Zh (HBp.grown hgq HBp.size (fun g hg => by have := hne g hg; omega)), Zh (Nat.le_trans (by omega) hgq.size)⟩
    case measure => have := HLT.out; simp [intOf] <;> omega
  have d1 : decide ((k : Int) < nq) = false := decide_eq_false (by omega)
  have d1' : decide (k < nq) = false := decide_eq_false hlt
  have hall : l.take k = l := List.take_of_length_le (by have := HLQ.out; omega)
  rw [hall] at HSC
  obtain ⟨rfl, rfl⟩ := Prod.mk.inj (HSC.out.symm.trans HS.out)
  clear hall HSC HS
  obtain ⟨wz, hz⟩ : ∃ V, wr.setRow w1.heap.size #[u.d.b, u.d.k, u.d.c, u.d.j, u.d.lo, u.d.hi, u.d.dy, u.d.bl, u.p.q, u.p.i, u.p.h, u.p.pair, u.now, .slice apk npk cpk, .slice alk nlk clk, .slice ahk nhk chk] = V := ⟨_, rfl⟩
  have HPZ := Zh hz
  have hgz : wr.grownBy wz (some w1.heap.size) := by rw [<- hz]; exact zbr _ _ _
  have K4z := Zh (show Blok wz w1.heap.size 32 #[u.d.b, u.d.k, u.d.c, u.d.j, u.d.lo, u.d.hi, u.d.dy, u.d.bl, u.p.q, u.p.i, u.p.h, u.p.pair, u.now, .slice apk npk cpk, .slice alk nlk clk, .slice ahk nhk chk] by rw [<- hz]; exact K4.out.put _)
  clear hz
  have HIz := Zh (HI.out.offs HO.out hgz)
  have HRz := HR.out.kept hgz (.inr (fun e => by have := (HR.out.lt _ e).1; have := L5.out; omega))
  have HBz := Zh (zbb HB.out hgz HB.out.size (Nat.le_of_lt L4.out))
  obtain ⟨ne, hne⟩ : ∃ n, ev.length = n := ⟨_, rfl⟩
  rw [hne] at HRz
  obtain ⟨ea, ec, rfl, hve⟩ := ze3 (α := Y.Ev) HRz hne
  have HVE := Zh hve
  have HEA : Hid (∀ q, ea = some q -> w.heap.size <= q.block) := Zh (fun q hq => by have h1 := (HRz.lt q.block (by rw [hq]; rfl)).1; have h2 := L4.out; have h3 := L5.out; omega)
  clear hve HRz hgz hne
  go_wp2_with (first | (refine zak KS.out rfl rfl (by kernel_rfl) Tryz.underlying32 rfl (by kernel_rfl) ?_) | (refine Zw K4.out HPZ.out ?_))
  refine bodyPost_ret (zly (v := .slice ea ne ec) rfl w1.heap.size rfl (by kernel_rfl) (by kernel_rfl) K4z.out) rfl ?_
  exact ⟨apk, npk, cpk, alk, nlk, clk, ahk, nhk, chk, ea, ne, ec, rfl, HIz, HVE, HF, HU, HEA, HBz.out⟩
end Go.Proofs.YtonejangijkdmaaGreat
