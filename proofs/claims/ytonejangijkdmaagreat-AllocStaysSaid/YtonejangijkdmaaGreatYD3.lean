import Derived.Test.YtonejangijkdmaaGreatYD2
import Derived.Test.YtonejangijkdmaaGreatYM4
import Derived.Test.YtonejangijkdmaaGreatYK
namespace Go.Proofs.YtonejangijkdmaaGreat
set_option maxHeartbeats 4000000
set_option maxRecDepth 100000
open Go.RowKit
theorem zfs {fn : Func} {p q r : Tmp} (h : fn.results = #[.cell p 32, .cell q 37, .cell r 40]) {tmps : Array Value} {V : World} (gs ge ga : Nat) {cs : Array Value} {v x y z : Value}
  (hp : tmps.getD p undef = .pointer (some ⟨gs, 0, none⟩)) (hq : tmps.getD q undef = .pointer (some ⟨ge, 0, none⟩)) (hr : tmps.getD r undef = .pointer (some ⟨ga, 0, none⟩)) (hz : cs.size = 16)
  (K1 : Blok V gs 32 cs) (K2 : Blok V ge 37 #[v]) (K3 : Blok V ga 40 #[x, y, z]) :
  (results fn tmps).run Tryz.prog V = .ok (.tuple #[.agg cs, v, .agg #[x, y, z]]) V := by
 have hp' : tmps[p]?.getD undef = .pointer (some ⟨gs, 0, none⟩) := by simpa using hp
 have hq' : tmps[q]?.getD undef = .pointer (some ⟨ge, 0, none⟩) := by simpa using hq
 have hr' : tmps[r]?.getD undef = .pointer (some ⟨ga, 0, none⟩) := by simpa using hr
 have hl := run_loadVar_row (P := Tryz.prog) V gs 32 32 cs (0, 0) _ K1 Tryz.underlying32 rfl (by rw [hz]; kernel_rfl)
 have hm := run_loadVar_row (P := Tryz.prog) V ga 40 40 #[x, y, z] (0, 0) _ K3 Tryz.underlying40 rfl (by kernel_rfl)
 have hk : V.cell? ⟨ge, 0, none⟩ = some v := K2.cell 0
 have hs : (loadVar 37 ⟨ge, 0, none⟩).run Tryz.prog V = .ok v V := by simp [go_sem, hk]
 simp [results, h, hp', hq', hr', asAddr, hl, hm, hs]
theorem zlx (s : Y.St) (A : Y.A9) (r : Y.Rq) (w : World) (h : Y.SIn w A s) (hf : Y.Fits A s) (hbad : ¬ Y.May s \/ r.k < 0 \/ 9 <= r.k) :
  Calls Tryz.prog 14 #[Y.val s A, Y.rval r] w fun e w' => Y.Did w (Y.step s r) e w' := by
 obtain ⟨ap, np, cp, al, nl, cl, ah, nh, ch⟩ := A
 have hnp : np <= 600 := hf.p
 have hnl : nl <= 600 := hf.l
 have hnh : nh <= 600 := hf.h
 have HF := Zh hf
 have HB0 := Zh (Below.refl w.heap.size w)
 have HI0 := Zh (h)
 clear h hf
 unfold Y.val Y.rval
 obtain ⟨w1, hw1, hb, hk⟩ := Zn w 32 #[.int .i64 s.d.b, .int .i64 s.d.k, .int .i64 s.d.c, .int .i64 s.d.j, .int .i64 s.d.lo, .int .i64 s.d.hi, .int .i64 s.d.dy, .int .i64 s.d.bl, .int .i64 s.p.q, .int .i64 s.p.i, .int .i64 s.p.h, .bool s.p.pair, .int .i64 s.now, .slice ap np cp, .slice al nl cl, .slice ah nh ch]
 replace HI0 := Zh (HI0.out.below hb)
 replace HB0 := Zt HB0 hb
 have KS1 := Zh hk
 clear hb hk
 obtain ⟨w2, hw2, hb, hk⟩ := Zn w1 34 #[.int .i64 r.k, .int .i64 r.s, .int .i64 r.a, .int .i64 r.b, .int .i64 r.n, .int .i64 r.p.q, .int .i64 r.p.i, .int .i64 r.p.h, .bool r.p.pair]
 replace HI0 := Zh (HI0.out.below hb)
 replace KS1 := Zk KS1 hb
 replace HB0 := Zt HB0 hb
 have KR2 := Zh hk
 clear hb hk
 obtain ⟨w3, hw3, hb, hk⟩ := Zn w2 32 #[.int .i64 0, .int .i64 0, .int .i64 0, .int .i64 0, .int .i64 0, .int .i64 0, .int .i64 0, .int .i64 0, .int .i64 0, .int .i64 0, .int .i64 0, .bool false, .int .i64 0, .slice none 0 0, .slice none 0 0, .slice none 0 0]
 replace HI0 := Zh (HI0.out.below hb)
 replace KS1 := Zk KS1 hb
 replace KR2 := Zk KR2 hb
 replace HB0 := Zt HB0 hb
 have KT3 := Zh hk
 clear hb hk
 obtain ⟨w4, hw4, hb, hk⟩ := Zn w3 37 #[.slice none 0 0]
 replace HI0 := Zh (HI0.out.below hb)
 replace KS1 := Zk KS1 hb
 replace KR2 := Zk KR2 hb
 replace KT3 := Zk KT3 hb
 replace HB0 := Zt HB0 hb
 have KE4 := Zh hk
 clear hb hk
 obtain ⟨w5, hw5, hb, hk⟩ := Zn w4 40 #[.int .i64 0, .int .i64 0, .int .i64 0]
 replace HI0 := Zh (HI0.out.below hb)
 replace KS1 := Zk KS1 hb
 replace KR2 := Zk KR2 hb
 replace KT3 := Zk KT3 hb
 replace KE4 := Zk KE4 hb
 replace HB0 := Zt HB0 hb
 have KA5 := Zh hk
 clear hb hk
 have hw12 : w1.heap.size = w.heap.size + 1 := by rw [<- hw1]; simp
 have hw23 : w2.heap.size = w.heap.size + 2 := by rw [<- hw2]; simp; omega
 have hw34 : w3.heap.size = w.heap.size + 3 := by rw [<- hw3]; simp; omega
 have hw45 : w4.heap.size = w.heap.size + 4 := by rw [<- hw4]; simp; omega
 have HZ : Hid (w1.heap.size = w.heap.size + 1 /\ w2.heap.size = w.heap.size + 2 /\ w3.heap.size = w.heap.size + 3 /\ w4.heap.size = w.heap.size + 4) := Zh ⟨hw12, hw23, hw34, hw45⟩
 clear hw12 hw23 hw34 hw45
 have hmf : ∀ (fn : Fn) (first cap : Array Value) (w : World), (Instr.makeFunc fn first cap).run Tryz.prog w = .ok (.func fn first cap) w := fun _ _ _ _ => rfl
 have HST : Hid (Y.step s r = Y.err s 1) := Zh (by unfold Y.step; rw [if_pos hbad])
 obtain ⟨vm, hvm⟩ : ∃ b, decide (Y.May s) = b := ⟨_, rfl⟩
 have cm := fun W (h : Y.SIn W ⟨ap, np, cp, al, nl, cl, ah, nh, ch⟩ s) => zbj s ⟨ap, np, cp, al, nl, cl, ah, nh, ch⟩ vm hvm W h HF.out
 unfold Y.val at cm
 have HVM := Zh hvm
 clear hvm
 have c0 := Y.cs16 KS1.out
 have r0 := Y.cs9 KR2.out
 go_enter_defers Tryz.func14, Tryz.ntmps14
 go_wp2_with fail
 try rw [hw1]
 try rw [hw2]
 try rw [hw3]
 try rw [hw4]
 try rw [hw5]
 clear hw1 hw2 hw3 hw4 hw5
 refine (cm _ HI0.out).mono ?_
 clear c0
 clear r0
 rintro e w6 ⟨rfl, hb⟩
 replace HI0 := Zh (HI0.out.below hb)
 replace KS1 := Zk KS1 hb
 replace KR2 := Zk KR2 hb
 replace KT3 := Zk KT3 hb
 replace KE4 := Zk KE4 hb
 replace KA5 := Zk KA5 hb
 replace HB0 := Zt HB0 hb
 clear hb
 have c0 := Y.cs16 KS1.out
 have r0 := Y.cs9 KR2.out
 clear cm
 cases vm with
 | false =>
  go_wp2_with fail
  refine (za0 1 _).mono ?_
  clear c0
  clear r0
  rintro e w7 ⟨rfl, hb⟩
  replace HI0 := Zh (HI0.out.below hb)
  replace KS1 := Zk KS1 hb
  replace KR2 := Zk KR2 hb
  replace KT3 := Zk KT3 hb
  replace KE4 := Zk KE4 hb
  replace KA5 := Zk KA5 hb
  replace HB0 := Zt HB0 hb
  clear hb
  have c0 := Y.cs16 KS1.out
  have r0 := Y.cs9 KR2.out
  clear c0
  clear r0
  go_wp2
  refine leaves_cons (f := 37) (args := #[.pointer (some ⟨w.heap.size, 0, none⟩), .pointer (some ⟨w2.heap.size, 0, none⟩), .pointer (some ⟨w3.heap.size, 0, none⟩), .pointer (some ⟨w4.heap.size, 0, none⟩)]) (by simp) (by simp [go_sem]) ?_
  refine (ze4 1 s ⟨ap, np, cp, al, nl, cl, ah, nh, ch⟩ w.heap.size w2.heap.size w3.heap.size w4.heap.size w7 HI0.out ⟨by show np <= 1000; omega, by show nl <= 1000; omega, by show nh <= 1000; omega⟩ KS1.out KT3.out KE4.out KA5.out ⟨trivial, by have := HZ.out; omega, by have := HZ.out; omega⟩).mono ?_
  rintro e u' w20 ⟨rfl, rfl, b1, m1, d1, b2, m2, d2, b3, m3, d3, f1, f2, f3, f4, f5⟩
  exact ⟨_, zfs rfl w2.heap.size w3.heap.size w4.heap.size (by kernel_rfl) (by kernel_rfl) (by kernel_rfl) rfl f2 f3 f4, ⟨b1, m1, d1, b2, m2, d2, b3, m3, d3⟩, none, 0, by rw [HST.out]; rfl, by rw [HST.out]; exact Zh f1.i, by rw [HST.out]; exact Zh (VIn.nil _), (HB0.out.trans (f5.mono (by have := HZ.out; omega : w.heap.size <= w2.heap.size))), f1.up.mono HB0.out.size, fun q hq => by cases hq⟩
 | true =>
  by_cases hk : r.k < 0
  ·have d1 : decide (0 <= r.k) = false := decide_eq_false (by omega)
   have d1' : decide (r.k ≥ 0) = false := d1
   go_wp2_with fail
   refine (za0 1 _).mono ?_
   clear c0
   clear r0
   rintro e w7 ⟨rfl, hb⟩
   replace HI0 := Zh (HI0.out.below hb)
   replace KS1 := Zk KS1 hb
   replace KR2 := Zk KR2 hb
   replace KT3 := Zk KT3 hb
   replace KE4 := Zk KE4 hb
   replace KA5 := Zk KA5 hb
   replace HB0 := Zt HB0 hb
   clear hb
   have c0 := Y.cs16 KS1.out
   have r0 := Y.cs9 KR2.out
   clear c0
   clear r0
   go_wp2
   refine leaves_cons (f := 37) (args := #[.pointer (some ⟨w.heap.size, 0, none⟩), .pointer (some ⟨w2.heap.size, 0, none⟩), .pointer (some ⟨w3.heap.size, 0, none⟩), .pointer (some ⟨w4.heap.size, 0, none⟩)]) (by simp) (by simp [go_sem]) ?_
   refine (ze4 1 s ⟨ap, np, cp, al, nl, cl, ah, nh, ch⟩ w.heap.size w2.heap.size w3.heap.size w4.heap.size w7 HI0.out ⟨by show np <= 1000; omega, by show nl <= 1000; omega, by show nh <= 1000; omega⟩ KS1.out KT3.out KE4.out KA5.out ⟨trivial, by have := HZ.out; omega, by have := HZ.out; omega⟩).mono ?_
   rintro e u' w20 ⟨rfl, rfl, b1, m1, d1, b2, m2, d2, b3, m3, d3, f1, f2, f3, f4, f5⟩
   exact ⟨_, zfs rfl w2.heap.size w3.heap.size w4.heap.size (by kernel_rfl) (by kernel_rfl) (by kernel_rfl) rfl f2 f3 f4, ⟨b1, m1, d1, b2, m2, d2, b3, m3, d3⟩, none, 0, by rw [HST.out]; rfl, by rw [HST.out]; exact Zh f1.i, by rw [HST.out]; exact Zh (VIn.nil _), (HB0.out.trans (f5.mono (by have := HZ.out; omega : w.heap.size <= w2.heap.size))), f1.up.mono HB0.out.size, fun q hq => by cases hq⟩
  ·have hm : Y.May s := of_decide_eq_true HVM.out
   have h9 : 9 <= r.k := hbad.elim (fun e => absurd hm e) (fun e => e.elim (fun e => absurd e hk) id)
   have d1 : decide (0 <= r.k) = true := decide_eq_true (by omega)
   have d1' : decide (r.k ≥ 0) = true := d1
   have d2 : decide (r.k < 9) = false := decide_eq_false (by omega)
   clear hm h9
   go_wp2_with fail
   refine (za0 1 _).mono ?_
   clear c0
   clear r0
   rintro e w7 ⟨rfl, hb⟩
   replace HI0 := Zh (HI0.out.below hb)
   replace KS1 := Zk KS1 hb
   replace KR2 := Zk KR2 hb
   replace KT3 := Zk KT3 hb
   replace KE4 := Zk KE4 hb
   replace KA5 := Zk KA5 hb
   replace HB0 := Zt HB0 hb
   clear hb
   have c0 := Y.cs16 KS1.out
   have r0 := Y.cs9 KR2.out
   clear c0
   clear r0
   go_wp2
   refine leaves_cons (f := 37) (args := #[.pointer (some ⟨w.heap.size, 0, none⟩), .pointer (some ⟨w2.heap.size, 0, none⟩), .pointer (some ⟨w3.heap.size, 0, none⟩), .pointer (some ⟨w4.heap.size, 0, none⟩)]) (by simp) (by simp [go_sem]) ?_
   refine (ze4 1 s ⟨ap, np, cp, al, nl, cl, ah, nh, ch⟩ w.heap.size w2.heap.size w3.heap.size w4.heap.size w7 HI0.out ⟨by show np <= 1000; omega, by show nl <= 1000; omega, by show nh <= 1000; omega⟩ KS1.out KT3.out KE4.out KA5.out ⟨trivial, by have := HZ.out; omega, by have := HZ.out; omega⟩).mono ?_
   rintro e u' w20 ⟨rfl, rfl, b1, m1, d1, b2, m2, d2, b3, m3, d3, f1, f2, f3, f4, f5⟩
   exact ⟨_, zfs rfl w2.heap.size w3.heap.size w4.heap.size (by kernel_rfl) (by kernel_rfl) (by kernel_rfl) rfl f2 f3 f4, ⟨b1, m1, d1, b2, m2, d2, b3, m3, d3⟩, none, 0, by rw [HST.out]; rfl, by rw [HST.out]; exact Zh f1.i, by rw [HST.out]; exact Zh (VIn.nil _), (HB0.out.trans (f5.mono (by have := HZ.out; omega : w.heap.size <= w2.heap.size))), f1.up.mono HB0.out.size, fun q hq => by cases hq⟩
end Go.Proofs.YtonejangijkdmaaGreat
