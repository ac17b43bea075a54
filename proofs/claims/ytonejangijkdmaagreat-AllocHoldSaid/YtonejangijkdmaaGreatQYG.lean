import Derived.Test.YtonejangijkdmaaGreatQI
import Derived.Test.YtonejangijkdmaaGreatYE
import Derived.Test.YtonejangijkdmaaGreatBP
namespace Go.Proofs.YtonejangijkdmaaGreat
set_option maxHeartbeats 1000000
set_option maxRecDepth 100000
open Go.RowKit
theorem zjb (H b : Nat) (s : Y.St) (A : Y.A9) (evs : List Y.Ev) (ve : Value) (x y : Int) (r : Y.Rq) (w : World) (h : Y.WIn w H b s A evs ve x y) (hn : A.nl <= 600) (hf : L.find s.l r.a r.b = -1) :
  Calls Tryz.prog 138 #[.pointer (some ⟨b, 0, none⟩), Y.rval r] w fun e w' => e = .panicked (Y.pan 5) /\ Below w.heap.size w w' := by
 obtain ⟨ap, np, cp, al, nl, cl, ah, nh, ch⟩ := A
 have hnl : nl <= 600 := hn
 have HB0 := Zh (Below.refl w.heap.size w)
 have HS0 := Zh (h)
 clear h hn
 have HF := Zh hf
 unfold Y.rval
 obtain ⟨w1, hw1, hb, hk⟩ := Zn w 34 #[r.k, r.s, r.a, r.b, r.n, r.p.q, r.p.i, r.p.h, r.p.pair]
 have HS1 := Zh (HS0.out.below hb)
 replace HB0 := Zt HB0 hb
 have KR1 := Zh hk
 clear hb hk HS0
 have cf := fun d os => find_any al nl cl s.l r.a r.b ((-1)) hf (Go.Sort.grow (redrawn w1 d) os) ((HS1.out.i.l : RIn w1 al nl cl s.l).below (below_regrown w1 d os)) (by omega)
 clear hf
 obtain ⟨c0, c1, c2, c3, c4, c5, c6, c7, c8, c9, c10, c11, c12, c13, c14, c15, c16, c17, c18, c19⟩ := Y.cw20 HS1.out
 have r0 := Y.cs9 KR1.out
 go_enter Tryz.func138, Tryz.ntmps138
 obtain ⟨qc0, qc1, qc2, qc3, qc4, qc5, qc6, qc7, qc8, qc9, qc10, qc11, qc12, qc13, qc14, qc15, qc16, qc17, qc18, qc19⟩ := Y.cw20q HS1.out
 obtain ⟨qr0, qr1, qr2, qr3, qr4, qr5, qr6, qr7, qr8⟩ := Y.cs9q KR1.out
 go_wp2_with fail
 try rw [hw1]
 refine wp_region_quiet_below (by kernel_rfl) (by kernel_rfl) ?_
 repeat (go_big_quiet_step (first | with_reducible exact Calls.regrown_of (cf _ _)))
 refine wpQuiet_nil ?_
 intro _ hw'
 obtain ⟨⟨dq, osq⟩, hw''⟩ := hw'
 subst hw''
 clear qc0 qc1 qc2 qc3 qc4 qc5 qc6 qc7 qc8 qc9 qc10 qc11 qc12 qc13 qc14 qc15 qc16 qc17 qc18 qc19 qr0 qr1 qr2 qr3 qr4 qr5 qr6 qr7 qr8
 clear c0 c1 c2 c3 c4 c5 c6 c7 c8 c9 c10 c11 c12 c13 c14 c15 c16 c17 c18 c19
 clear r0
 clear cf hw1
 obtain ⟨w2, hq⟩ : ∃ W, Go.Sort.grow (redrawn w1 dq) osq = W := ⟨_, rfl⟩
 have hb : Below w1.heap.size w1 w2 := by rw [<- hq]; exact below_regrown _ _ _
 rw [hq]
 clear hq
 have HS2 := Zh (HS1.out.below hb)
 replace KR1 := Zk KR1 hb
 replace HB0 := Zt HB0 hb
 clear hb HS1
 obtain ⟨c0, c1, c2, c3, c4, c5, c6, c7, c8, c9, c10, c11, c12, c13, c14, c15, c16, c17, c18, c19⟩ := Y.cw20 HS2.out
 have r0 := Y.cs9 KR1.out
 clear c0 c1 c2 c3 c4 c5 c6 c7 c8 c9 c10 c11 c12 c13 c14 c15 c16 c17 c18 c19
 clear r0
 go_wp2_with fail
 refine Zd (fun w' => Below w2.heap.size w2 w') (zaa w2) fun HS0 => ?_
 refine tk 0 (.int .i64 (-1)) HS0 ?_
 refine tk 1 (.bool false) HS0 ?_
 refine tk 2 (.bool false) HS0 ?_
 refine tko 3 HS0 ?_
 refine tko 4 HS0 ?_
 refine tko 5 HS0 ?_
 refine tko 6 HS0 ?_
 refine tko 7 HS0 ?_
 refine tko 8 HS0 ?_
 refine tko 9 HS0 ?_
 refine tko 10 HS0 ?_
 refine tko 11 HS0 ?_
 refine tko 12 HS0 ?_
 refine tko 13 HS0 ?_
 refine tko 14 HS0 ?_
 refine tk 15 (.bool false) HS0 ?_
 refine zaj (i := 16) (f := 39) (args := #[.bool false, .int .i64 5]) (by kernel_rfl) rfl (by kernel_rfl) (by kernel_rfl) (za0 5 _) ?_
 rintro e w3 ⟨rfl, hb⟩
 refine ⟨_, rfl, ?_⟩
 exact ⟨rfl, rfl, HB0.out.trans ((Below.trans HS0 (hb.mono (Below.size HS0))).mono HB0.out.size)⟩
theorem zjc (H b : Nat) (s : Y.St) (A : Y.A9) (evs : List Y.Ev) (ve : Value) (x y : Int) (r : Y.Rq) (w : World) (h : Y.WIn w H b s A evs ve x y) (hn : A.nl <= 600) (i : Nat) (z : L.Ls) (hf : L.find s.l r.a r.b = i) (hz : s.l[i]? = some z) (hs : z.s ≠ r.s) :
  Calls Tryz.prog 138 #[.pointer (some ⟨b, 0, none⟩), Y.rval r] w fun e w' => e = .panicked (Y.pan 5) /\ Below w.heap.size w w' := by
 obtain ⟨ap, np, cp, al, nl, cl, ah, nh, ch⟩ := A
 have hnl : nl <= 600 := hn
 have HB0 := Zh (Below.refl w.heap.size w)
 have HS0 := Zh (h)
 have hil : i < nl := by have := (List.getElem?_eq_some_iff.1 hz).1; have h2 : s.l.length = nl := h.i.l.1; omega
 have i0 : (0 : Int) <= i := by omega
 have i1 : (i : Int) < nl := by omega
 clear h hn
 have HF := Zh hf
 unfold Y.rval
 obtain ⟨w1, hw1, hb, hk⟩ := Zn w 34 #[r.k, r.s, r.a, r.b, r.n, r.p.q, r.p.i, r.p.h, r.p.pair]
 have HS1 := Zh (HS0.out.below hb)
 replace HB0 := Zt HB0 hb
 have KR1 := Zh hk
 clear hb hk HS0
 have cf := fun d os => find_any al nl cl s.l r.a r.b (i) hf (Go.Sort.grow (redrawn w1 d) os) ((HS1.out.i.l : RIn w1 al nl cl s.l).below (below_regrown w1 d os)) (by omega)
 clear hf
 obtain ⟨c0, c1, c2, c3, c4, c5, c6, c7, c8, c9, c10, c11, c12, c13, c14, c15, c16, c17, c18, c19⟩ := Y.cw20 HS1.out
 have r0 := Y.cs9 KR1.out
 go_enter Tryz.func138, Tryz.ntmps138
 obtain ⟨qc0, qc1, qc2, qc3, qc4, qc5, qc6, qc7, qc8, qc9, qc10, qc11, qc12, qc13, qc14, qc15, qc16, qc17, qc18, qc19⟩ := Y.cw20q HS1.out
 obtain ⟨qr0, qr1, qr2, qr3, qr4, qr5, qr6, qr7, qr8⟩ := Y.cs9q KR1.out
 go_wp2_with fail
 try rw [hw1]
 refine wp_region_quiet_below (by kernel_rfl) (by kernel_rfl) ?_
 repeat (go_big_quiet_step (first | with_reducible exact Calls.regrown_of (cf _ _)))
 refine wpQuiet_nil ?_
 intro _ hw'
 obtain ⟨⟨dq, osq⟩, hw''⟩ := hw'
 subst hw''
 clear qc0 qc1 qc2 qc3 qc4 qc5 qc6 qc7 qc8 qc9 qc10 qc11 qc12 qc13 qc14 qc15 qc16 qc17 qc18 qc19 qr0 qr1 qr2 qr3 qr4 qr5 qr6 qr7 qr8
 clear c0 c1 c2 c3 c4 c5 c6 c7 c8 c9 c10 c11 c12 c13 c14 c15 c16 c17 c18 c19
 clear r0
 clear cf hw1
 obtain ⟨w2, hq⟩ : ∃ W, Go.Sort.grow (redrawn w1 dq) osq = W := ⟨_, rfl⟩
 have hb : Below w1.heap.size w1 w2 := by rw [<- hq]; exact below_regrown _ _ _
 rw [hq]
 clear hq
 have HS2 := Zh (HS1.out.below hb)
 replace KR1 := Zk KR1 hb
 replace HB0 := Zt HB0 hb
 clear hb HS1
 obtain ⟨c0, c1, c2, c3, c4, c5, c6, c7, c8, c9, c10, c11, c12, c13, c14, c15, c16, c17, c18, c19⟩ := Y.cw20 HS2.out
 have r0 := Y.cs9 KR1.out
 clear c0 c1 c2 c3 c4 c5 c6 c7 c8 c9 c10 c11 c12 c13 c14 c15 c16 c17 c18 c19
 clear r0
 obtain ⟨g0, off, z', hal, -, hz', -⟩ := (HS2.out.i.l : RIn w2 al nl cl s.l).at5 hil
 obtain rfl : z = z' := by rw [hz] at hz'; exact Option.some.inj hz'
 subst hal
 have HZ := Zh hz
 clear hz hz'
 go_wp2_with fail
 refine Zd (fun w' => Below w2.heap.size w2 w') (zaa w2) fun HS0 => ?_
 refine tk 0 (.int .i64 i) HS0 ?_
 refine wpAnyH_take (i := 1) (v := .bool true) rfl (by kernel_rfl) (by kernel_rfl) (by kernel_rfl) (fun _ _ _ h => h) (.inl ⟨by kernel_rfl, fun w9 hS => by go_simp⟩) HS0 ?_
 refine tk 2 (.bool true) HS0 ?_
 refine Zq 3 b 0 HS0 ?_
 refine Zq 4 b 0 HS0 ?_
 refine Zq 5 b 0 HS0 ?_
 refine Zq 6 b 14 HS0 ?_
 refine Zl 7 (.slice (some ⟨g0, off, none⟩) nl cl) rfl (fun w9 hS => by
    have y14 := Zv (HS2.out.k.below hS HS2.out.k.lt) 14 (.slice (some ⟨g0, off, none⟩) nl cl)
    go_simp) HS0 ?_
 refine tk 8 (.int .i64 i) HS0 ?_
 refine wpAnyH_take (i := 9) (v := .pointer (some ⟨g0, off + i * 5, none⟩)) rfl (by kernel_rfl) (by kernel_rfl) (by kernel_rfl) (fun _ _ _ h => h) (.inl ⟨by kernel_rfl, fun w9 hS => by go_simp⟩) HS0 ?_
 refine Zq 10 g0 (off + i * 5) HS0 ?_
 refine Zl 11 (.int .i64 z.s) rfl (fun w9 hS => by
    have p0 := (Y.ls_at ((HS2.out.i.l : RIn w2 (some ⟨g0, off, none⟩) nl cl s.l).below hS) HZ.out).1
    go_simp) HS0 ?_
 refine Zq 12 w.heap.size 1 HS0 ?_
 refine Zl 13 (.int .i64 r.s) rfl (fun w9 hS => by
    have y1 := Zv (KR1.out.below hS KR1.out.lt) 1 (.int .i64 r.s)
    go_simp) HS0 ?_
 have e1 : (z.s == r.s) = false := by simpa using hs
 refine wpAnyH_take (i := 14) (v := .bool false) rfl (by kernel_rfl) (by kernel_rfl) (by kernel_rfl) (fun _ _ _ h => h) (.inl ⟨by kernel_rfl, fun w9 hS => by go_simp⟩) HS0 ?_
 refine tk 15 (.bool false) HS0 ?_
 refine zaj (i := 16) (f := 39) (args := #[.bool false, .int .i64 5]) (by kernel_rfl) rfl (by kernel_rfl) (by kernel_rfl) (za0 5 _) ?_
 rintro e w3 ⟨rfl, hb⟩
 refine ⟨_, rfl, ?_⟩
 exact ⟨rfl, rfl, HB0.out.trans ((Below.trans HS0 (hb.mono (Below.size HS0))).mono HB0.out.size)⟩
theorem zd7 (H b : Nat) (s : Y.St) (A : Y.A9) (evs : List Y.Ev) (ve : Value) (x y : Int) (r : Y.Rq) (w : World) (h : Y.WIn w H b s A evs ve x y) (hn : A.nl <= 600) (i : Nat) (z : L.Ls) (hf : L.find s.l r.a r.b = i) (hz : s.l[i]? = some z) (hs : z.s = r.s) :
  Calls Tryz.prog 138 #[.pointer (some ⟨b, 0, none⟩), Y.rval r] w fun e w' => e = .returned (.int .i64 i) /\ Below w.heap.size w w' := by
 obtain ⟨ap, np, cp, al, nl, cl, ah, nh, ch⟩ := A
 have hnl : nl <= 600 := hn
 have HB0 := Zh (Below.refl w.heap.size w)
 have HS0 := Zh (h)
 have hil : i < nl := by have := (List.getElem?_eq_some_iff.1 hz).1; have h2 : s.l.length = nl := h.i.l.1; omega
 have i0 : (0 : Int) <= i := by omega
 have i1 : (i : Int) < nl := by omega
 clear h hn
 have HF := Zh hf
 unfold Y.rval
 obtain ⟨w1, hw1, hb, hk⟩ := Zn w 34 #[r.k, r.s, r.a, r.b, r.n, r.p.q, r.p.i, r.p.h, r.p.pair]
 have HS1 := Zh (HS0.out.below hb)
 replace HB0 := Zt HB0 hb
 have KR1 := Zh hk
 clear hb hk HS0
 have cf := fun d os => find_any al nl cl s.l r.a r.b (i) hf (Go.Sort.grow (redrawn w1 d) os) ((HS1.out.i.l : RIn w1 al nl cl s.l).below (below_regrown w1 d os)) (by omega)
 clear hf
 obtain ⟨c0, c1, c2, c3, c4, c5, c6, c7, c8, c9, c10, c11, c12, c13, c14, c15, c16, c17, c18, c19⟩ := Y.cw20 HS1.out
 have r0 := Y.cs9 KR1.out
 go_enter Tryz.func138, Tryz.ntmps138
 obtain ⟨qc0, qc1, qc2, qc3, qc4, qc5, qc6, qc7, qc8, qc9, qc10, qc11, qc12, qc13, qc14, qc15, qc16, qc17, qc18, qc19⟩ := Y.cw20q HS1.out
 obtain ⟨qr0, qr1, qr2, qr3, qr4, qr5, qr6, qr7, qr8⟩ := Y.cs9q KR1.out
 go_wp2_with fail
 try rw [hw1]
 refine wp_region_quiet_below (by kernel_rfl) (by kernel_rfl) ?_
 repeat (go_big_quiet_step (first | with_reducible exact Calls.regrown_of (cf _ _)))
 refine wpQuiet_nil ?_
 intro _ hw'
 obtain ⟨⟨dq, osq⟩, hw''⟩ := hw'
 subst hw''
 clear qc0 qc1 qc2 qc3 qc4 qc5 qc6 qc7 qc8 qc9 qc10 qc11 qc12 qc13 qc14 qc15 qc16 qc17 qc18 qc19 qr0 qr1 qr2 qr3 qr4 qr5 qr6 qr7 qr8
 clear c0 c1 c2 c3 c4 c5 c6 c7 c8 c9 c10 c11 c12 c13 c14 c15 c16 c17 c18 c19
 clear r0
 clear cf hw1
 obtain ⟨w2, hq⟩ : ∃ W, Go.Sort.grow (redrawn w1 dq) osq = W := ⟨_, rfl⟩
 have hb : Below w1.heap.size w1 w2 := by rw [<- hq]; exact below_regrown _ _ _
 rw [hq]
 clear hq
 have HS2 := Zh (HS1.out.below hb)
 replace KR1 := Zk KR1 hb
 replace HB0 := Zt HB0 hb
 clear hb HS1
 obtain ⟨c0, c1, c2, c3, c4, c5, c6, c7, c8, c9, c10, c11, c12, c13, c14, c15, c16, c17, c18, c19⟩ := Y.cw20 HS2.out
 have r0 := Y.cs9 KR1.out
 clear c0 c1 c2 c3 c4 c5 c6 c7 c8 c9 c10 c11 c12 c13 c14 c15 c16 c17 c18 c19
 clear r0
 obtain ⟨g0, off, z', hal, -, hz', -⟩ := (HS2.out.i.l : RIn w2 al nl cl s.l).at5 hil
 obtain rfl : z = z' := by rw [hz] at hz'; exact Option.some.inj hz'
 subst hal
 have HZ := Zh hz
 clear hz hz'
 go_wp2_with fail
 refine Zd (fun w' => Below w2.heap.size w2 w') (zaa w2) fun HS0 => ?_
 refine tk 0 (.int .i64 i) HS0 ?_
 refine wpAnyH_take (i := 1) (v := .bool true) rfl (by kernel_rfl) (by kernel_rfl) (by kernel_rfl) (fun _ _ _ h => h) (.inl ⟨by kernel_rfl, fun w9 hS => by go_simp⟩) HS0 ?_
 refine tk 2 (.bool true) HS0 ?_
 refine Zq 3 b 0 HS0 ?_
 refine Zq 4 b 0 HS0 ?_
 refine Zq 5 b 0 HS0 ?_
 refine Zq 6 b 14 HS0 ?_
 refine Zl 7 (.slice (some ⟨g0, off, none⟩) nl cl) rfl (fun w9 hS => by
    have y14 := Zv (HS2.out.k.below hS HS2.out.k.lt) 14 (.slice (some ⟨g0, off, none⟩) nl cl)
    go_simp) HS0 ?_
 refine tk 8 (.int .i64 i) HS0 ?_
 refine wpAnyH_take (i := 9) (v := .pointer (some ⟨g0, off + i * 5, none⟩)) rfl (by kernel_rfl) (by kernel_rfl) (by kernel_rfl) (fun _ _ _ h => h) (.inl ⟨by kernel_rfl, fun w9 hS => by go_simp⟩) HS0 ?_
 refine Zq 10 g0 (off + i * 5) HS0 ?_
 refine Zl 11 (.int .i64 z.s) rfl (fun w9 hS => by
    have p0 := (Y.ls_at ((HS2.out.i.l : RIn w2 (some ⟨g0, off, none⟩) nl cl s.l).below hS) HZ.out).1
    go_simp) HS0 ?_
 refine Zq 12 w.heap.size 1 HS0 ?_
 refine Zl 13 (.int .i64 r.s) rfl (fun w9 hS => by
    have y1 := Zv (KR1.out.below hS KR1.out.lt) 1 (.int .i64 r.s)
    go_simp) HS0 ?_
 have e1 : (z.s == r.s) = true := by rw [hs]; simp
 refine wpAnyH_take (i := 14) (v := .bool true) rfl (by kernel_rfl) (by kernel_rfl) (by kernel_rfl) (fun _ _ _ h => h) (.inl ⟨by kernel_rfl, fun w9 hS => by go_simp⟩) HS0 ?_
 refine tk 15 (.bool true) HS0 ?_
 refine Zc 16 39 #[.bool true, .int .i64 5] (zag 5 _) ?_
 rintro e w3 ⟨rfl, hb⟩
 refine Zu (Zr HS0 hb) fun HS1 => ?_
 refine wpAnyH_done (by kernel_rfl) ?_ _
 go_wp2
 go_ret
 exact ⟨rfl, HB0.out.trans (Below.mono HS1 HB0.out.size)⟩
open Go.RowKit
structure Y.W0 (w : World) (H b : Nat) (s : Y.St) (A : Y.A9) (x y : Int) : Prop where
 k : Blok w b 84 (Y.ws s A (.slice none 0 0) 0 x y).toArray
 i : Y.SIn w A s
 bh : b < H
 hh : H <= w.heap.size
theorem Y.W0.below {w w' : World} {H b : Nat} {s : Y.St} {A : Y.A9} {x y : Int} (h : Y.W0 w H b s A x y) (hb : Below w.heap.size w w') : Y.W0 w' H b s A x y := ⟨h.k.below hb h.k.lt, h.i.below hb, h.bh, Nat.le_trans h.hh hb.size⟩
theorem zjd (H b : Nat) (s : Y.St) (A : Y.A9) (x y : Int) (z : Y.Ev) (w : World) (h : Y.W0 w H b s A x y) :
  Calls Tryz.prog 137 #[.pointer (some ⟨b, 0, none⟩), Y.eval z] w fun e w' => e = .returned (.tuple #[]) /\ ∃ v2, Y.Fin w' b s A [z] v2 x y /\ KpL H b w w' := by
 have HS0 := Zh h
 clear h
 unfold Y.eval
 go_enter Tryz.func137, Tryz.ntmps137
 go_wp2_with fail
 obtain ⟨U, hV⟩ : ∃ U, w.alloc (.cells #[z.k, z.t, z.a, z.b, z.c, z.p.q, z.p.i, z.p.h, z.p.pair] 66) = U := ⟨_, rfl⟩
 have hb : Below w.heap.size w U := by rw [<- hV]; exact (Below.refl _ w).alloc (Nat.le_refl _) _
 have hk : Blok U w.heap.size 66 #[z.k, z.t, z.a, z.b, z.c, z.p.q, z.p.i, z.p.h, z.p.pair] := by rw [<- hV]; exact Blok.new w _ _
 rw [hV]
 clear hV
 have HS := Zh (HS0.out.below hb)
 have HVB := Zh hb
 have e0 := Zv hk 0 (.int .i64 z.k)
 have ef0 : ∀ o, (U.alloc o).cell? ⟨w.heap.size, 0, none⟩ = some (.int .i64 z.k) := fun o => (hk.alloc o).cell 0
 have eg0 : ∀ o, (U.drew.alloc o).cell? ⟨w.heap.size, 0, none⟩ = some (.int .i64 z.k) := fun o => (hk.drew.alloc o).cell 0
 have e1 := Zv hk 1 (.int .i64 z.t)
 have ef1 : ∀ o, (U.alloc o).cell? ⟨w.heap.size, 1, none⟩ = some (.int .i64 z.t) := fun o => (hk.alloc o).cell 1
 have eg1 : ∀ o, (U.drew.alloc o).cell? ⟨w.heap.size, 1, none⟩ = some (.int .i64 z.t) := fun o => (hk.drew.alloc o).cell 1
 have e2 := Zv hk 2 (.int .i64 z.a)
 have ef2 : ∀ o, (U.alloc o).cell? ⟨w.heap.size, 2, none⟩ = some (.int .i64 z.a) := fun o => (hk.alloc o).cell 2
 have eg2 : ∀ o, (U.drew.alloc o).cell? ⟨w.heap.size, 2, none⟩ = some (.int .i64 z.a) := fun o => (hk.drew.alloc o).cell 2
 have e3 := Zv hk 3 (.int .i64 z.b)
 have ef3 : ∀ o, (U.alloc o).cell? ⟨w.heap.size, 3, none⟩ = some (.int .i64 z.b) := fun o => (hk.alloc o).cell 3
 have eg3 : ∀ o, (U.drew.alloc o).cell? ⟨w.heap.size, 3, none⟩ = some (.int .i64 z.b) := fun o => (hk.drew.alloc o).cell 3
 have e4 := Zv hk 4 (.int .i64 z.c)
 have ef4 : ∀ o, (U.alloc o).cell? ⟨w.heap.size, 4, none⟩ = some (.int .i64 z.c) := fun o => (hk.alloc o).cell 4
 have eg4 : ∀ o, (U.drew.alloc o).cell? ⟨w.heap.size, 4, none⟩ = some (.int .i64 z.c) := fun o => (hk.drew.alloc o).cell 4
 have e5 := Zv hk 5 (.int .i64 z.p.q)
 have ef5 : ∀ o, (U.alloc o).cell? ⟨w.heap.size, 5, none⟩ = some (.int .i64 z.p.q) := fun o => (hk.alloc o).cell 5
 have eg5 : ∀ o, (U.drew.alloc o).cell? ⟨w.heap.size, 5, none⟩ = some (.int .i64 z.p.q) := fun o => (hk.drew.alloc o).cell 5
 have e6 := Zv hk 6 (.int .i64 z.p.i)
 have ef6 : ∀ o, (U.alloc o).cell? ⟨w.heap.size, 6, none⟩ = some (.int .i64 z.p.i) := fun o => (hk.alloc o).cell 6
 have eg6 : ∀ o, (U.drew.alloc o).cell? ⟨w.heap.size, 6, none⟩ = some (.int .i64 z.p.i) := fun o => (hk.drew.alloc o).cell 6
 have e7 := Zv hk 7 (.int .i64 z.p.h)
 have ef7 : ∀ o, (U.alloc o).cell? ⟨w.heap.size, 7, none⟩ = some (.int .i64 z.p.h) := fun o => (hk.alloc o).cell 7
 have eg7 : ∀ o, (U.drew.alloc o).cell? ⟨w.heap.size, 7, none⟩ = some (.int .i64 z.p.h) := fun o => (hk.drew.alloc o).cell 7
 have e8 := Zv hk 8 (.bool z.p.pair)
 have ef8 : ∀ o, (U.alloc o).cell? ⟨w.heap.size, 8, none⟩ = some (.bool z.p.pair) := fun o => (hk.alloc o).cell 8
 have eg8 : ∀ o, (U.drew.alloc o).cell? ⟨w.heap.size, 8, none⟩ = some (.bool z.p.pair) := fun o => (hk.drew.alloc o).cell 8
 have r0 := Zv HS.out.k 16 (.slice none 0 0)
 have r1 : ∀ o, (U.alloc o).cell? ⟨b, 16, none⟩ = some (.slice none 0 0) := fun o => (HS.out.k.alloc o).cell 16
 have r2 : ∀ o, (U.drew.alloc o).cell? ⟨b, 16, none⟩ = some (.slice none 0 0) := fun o => (HS.out.k.drew.alloc o).cell 16
 clear hk hb
 go_region_law (refine zc6 rfl (.tmp 8) (.tmp 10) rfl H (.slice none 0 0) _ [] z (by simp [Act.eval]) (World.ownsRow_nil _ _ _ _) U.heap.size 66 (by simp [Act.eval]) (Blok.new U.drew _ _) (by decide) (Nat.le_trans HS.out.hh (by simp)) ?_; intro g cap w3 h1 h2 h3 h4; have HK3 := Zh ((HS.out.k.below (zb9 U _) HS.out.k.lt).grown h2 (fun e => by cases e)); have r3 : w3.cell? ⟨b, 16, none⟩ = some (.slice none 0 0) := (HK3.out.cell 16); have f3 := HK3.out.frozen 16)
 all_goals (
  clear r0 r1 r2 r3 f3 e0 ef0 eg0 e1 ef1 eg1 e2 ef2 eg2 e3 ef3 eg3 e4 ef4 eg4 e5 ef5 eg5 e6 ef6 eg6 e7 ef7 eg7 e8 ef8 eg8
  have hbd := zb9 U (.cells #[z.k, z.t, z.a, z.b, z.c, z.p.q, z.p.i, z.p.h, z.p.pair] 66)
  have k3 : KpL H b U w3 := (KpL.of_below hbd HS.out.hh).t (KpL.grown h2 (fun g' e => by cases e) (Nat.le_trans HS.out.hh hbd.size))
  have g3 : (U.drew.alloc (.cells #[z.k, z.t, z.a, z.b, z.c, z.p.q, z.p.i, z.p.h, z.p.pair] 66)).grownBy w3 none := h2
  have i3 : Y.SIn w3 A s := ⟨(HS.out.i.p.below hbd).on g3, (HS.out.i.l.below hbd).on g3, (HS.out.i.h.below hbd).on g3⟩
  have hu := Zv HK3.out 16 (.slice none 0 0)
  have hne : ∀ i, (Value.slice none 0 0) ≠ .int .i64 i := fun i e => by cases e
  have HF : Hid (Y.Fin (w3.setCell ⟨b, 16, none⟩ (.slice (some ⟨g, 0, none⟩) (0 + 1) cap)) b s A [z] (.slice (some ⟨g, 0, none⟩) (0 + 1) cap) x y) := Zh (by
   have g1 := grown_set w3 b 16 (.slice (some ⟨g, 0, none⟩) (0 + 1) cap)
   have gb : g ≠ b := fun e => by
    rcases h3 with h3 | h3
    ·cases h3
    ·have hsz : U.heap.size <= g := by rw [h3]; exact hbd.size
     have := HS.out.k.lt; omega
   have o4 := h1.kept g1 (.inr (fun e => gb (Option.some.inj e)))
   obtain ⟨a', c', e1, e2⟩ := ze3 (α := Y.Ev) o4 rfl
   exact ⟨Y.set_e HK3.out _, ⟨Y.pool_set i3.p hu hne, Y.row_set i3.l hu hne, Y.row_set i3.h hu hne⟩, ⟨a', c', e1, e2⟩, fun q hq => Nat.lt_of_lt_of_le HS.out.bh (o4.lt q hq).1⟩)
  have KW := Zh ((KpL.of_below HVB.out HS0.out.hh).t (k3.t (KpL.set H b 16 w3 (.slice (some ⟨g, 0, none⟩) (0 + 1) cap))))
  clear h1 h2 h3 h4 k3 i3 hu hne g3 hbd
  go_wp2
  first | go_end0 | skip
  exact ⟨rfl, _, HF.out, KW.out⟩)
theorem zdf (H b : Nat) (s : Y.St) (A : Y.A9) (x y : Int) (a : Option Addr) (n c : Nat) (l : List O.Pl) (er : Int) (z : Y.Ev) (w : World) (h : Y.W0 w H b s A x y) (hq : QIn w a n c l) (he : er ≠ 0) :
  Calls Tryz.prog 145 #[.pointer (some ⟨b, 0, none⟩), .slice a n c, er, Y.eval z] w fun e w' => e = .panicked (Y.pan er) /\ Below w.heap.size w w' := by
 have HB0 := Zh (Below.refl w.heap.size w)
 have HS0 := Zh (h)
 have HQ0 := Zh (hq)
 clear h hq
 unfold Y.eval
 obtain ⟨w1, hw1, hb, hk⟩ := Zn w 66 #[z.k, z.t, z.a, z.b, z.c, z.p.q, z.p.i, z.p.h, z.p.pair]
 replace HS0 := Zh (HS0.out.below hb)
 replace HQ0 := Zh (HQ0.out.below hb)
 replace HB0 := Zt HB0 hb
 have KE1 := Zh hk
 clear hb hk
 go_enter Tryz.func145, Tryz.ntmps145
 have e0 : (er == 0) = false := by simpa using he
 go_wp2_with fail
 try rw [hw1]
 refine (za0 er _).mono ?_
 rintro e w2 ⟨rfl, hb⟩
 replace HS0 := Zh (HS0.out.below hb)
 replace HQ0 := Zh (HQ0.out.below hb)
 replace KE1 := Zk KE1 hb
 replace HB0 := Zt HB0 hb
 clear hb
 go_wp2
 exact ⟨rfl, rfl, HB0.out⟩
theorem zcv (H b : Nat) (s : Y.St) (A : Y.A9) (x y : Int) (a : Option Addr) (n c : Nat) (l : List O.Pl) (z : Y.Ev) (w : World) (h : Y.W0 w H b s A x y) (hq : QIn w a n c l) :
  Calls Tryz.prog 145 #[.pointer (some ⟨b, 0, none⟩), .slice a n c, (), Y.eval z] w fun e w' => e = .returned (.tuple #[]) /\ ∃ v2, Y.Fin w' b { s with ps := l } { A with ap := a, np := n, cp := c } [z] v2 x y /\ KpL H b w w' := by
 have HS0x := Zh h
 have HB0 := Zh (Below.refl w.heap.size w)
 have HS0 := Zh (h)
 have HQ0 := Zh (hq)
 clear h hq
 unfold Y.eval
 obtain ⟨w1, hw1, hb, hk⟩ := Zn w 66 #[z.k, z.t, z.a, z.b, z.c, z.p.q, z.p.i, z.p.h, z.p.pair]
 replace HS0 := Zh (HS0.out.below hb)
 replace HQ0 := Zh (HQ0.out.below hb)
 replace HB0 := Zt HB0 hb
 have KE1 := Zh hk
 clear hb hk
 go_enter Tryz.func145, Tryz.ntmps145
 go_wp2_with fail
 try rw [hw1]
 refine (zag 0 _).mono ?_
 rintro e w2 ⟨rfl, hb⟩
 replace HS0 := Zh (HS0.out.below hb)
 replace HQ0 := Zh (HQ0.out.below hb)
 replace KE1 := Zk KE1 hb
 replace HB0 := Zt HB0 hb
 clear hb
 have c13 := Zv HS0.out.k 13 (.slice A.ap A.np A.cp)
 have f13 := HS0.out.k.frozen 13
 have hne : ∀ i, (Value.slice A.ap A.np A.cp) ≠ .int .i64 i := fun i e => by cases e
 obtain ⟨w3, hw3⟩ : ∃ W, w2.setCell ⟨b, 13, none⟩ (.slice a n c) = W := ⟨_, rfl⟩
 have HS3 : Hid (Y.W0 w3 H b { s with ps := l } { A with ap := a, np := n, cp := c } x y) := Zh (by
  rw [<- hw3]
  exact ⟨Y.set_p HS0.out.k a n c l, ⟨Y.pool_set HQ0.out c13 hne, Y.row_set HS0.out.i.l c13 hne, Y.row_set HS0.out.i.h c13 hne⟩, HS0.out.bh, by simpa using HS0.out.hh⟩)
 have k3 : KpL H b w2 w3 := by rw [<- hw3]; exact KpL.set H b 13 w2 (.slice a n c)
 have HK3 := Zh ((KpL.of_below HB0.out HS0x.out.hh).t k3)
 clear k3
 have KE3 : Hid (Blok w3 w.heap.size 66 #[z.k, z.t, z.a, z.b, z.c, z.p.q, z.p.i, z.p.h, z.p.pair]) := Zh (by rw [<- hw3]; exact KE1.out.far (by have := HS0x.out.hh; have := HS0x.out.bh; simp; omega) _)
 have e0 := Zv KE3.out 0 (.int .i64 z.k)
 have e1 := Zv KE3.out 1 (.int .i64 z.t)
 have e2 := Zv KE3.out 2 (.int .i64 z.a)
 have e3 := Zv KE3.out 3 (.int .i64 z.b)
 have e4 := Zv KE3.out 4 (.int .i64 z.c)
 have e5 := Zv KE3.out 5 (.int .i64 z.p.q)
 have e6 := Zv KE3.out 6 (.int .i64 z.p.i)
 have e7 := Zv KE3.out 7 (.int .i64 z.p.h)
 have e8 := Zv KE3.out 8 (.bool z.p.pair)
 go_wp2_with fail
 try rw [hw3]
 refine (zjd H b { s with ps := l } { A with ap := a, np := n, cp := c } x y z w3 HS3.out).mono ?_
 clear e0 e1 e2 e3 e4 e5 e6 e7 e8 c13 f13 hne hw3
 rintro e w4 ⟨rfl, v2, hf, hk⟩
 have HF := Zh hf
 have HK := Zh (HK3.out.t hk)
 clear hf hk
 go_wp2
 first | go_end0 | skip
 exact ⟨rfl, _, HF.out, HK.out⟩
open Go.RowKit
theorem zcw (H b : Nat) (s : Y.St) (A : Y.A9) (evs : List Y.Ev) (ve : Value) (x y : Int) (z : L.Ls) (t : Int) (w : World) (h : Y.WIn w H b s A evs ve x y) (hn : s.l.length <= 600 /\ s.h.length <= 600 /\ evs.length <= 3000) (ht : 0 <= t /\ t <= 4294967296) (hh : 0 <= s.p.h /\ s.p.h <= 1048576) :
  Calls Tryz.prog 139 #[.pointer (some ⟨b, 0, none⟩), L.val z, t] w fun e w' => e = .returned (.tuple #[]) /\ ∃ A' v2, Y.WIn w' H b (Y.free1 s z t) A' (evs ++ [Y.evF z t]) v2 x y /\ KpL H b w w' /\ (∀ q, A'.al = some q -> H <= q.block) /\ A'.ap = A.ap /\ (A'.ah = A.ah \/ ∀ q, A'.ah = some q -> H <= q.block) := by
 have hnl : s.l.length <= 600 := hn.1
 have hnh : s.h.length <= 600 := hn.2.1
 have hne : evs.length <= 3000 := hn.2.2
 clear hn
 obtain ⟨ap, np, cp, al, nl, cl, ah, nh, ch⟩ := A
 have hll : s.l.length = nl := h.i.l.1
 have hhl : s.h.length = nh := h.i.h.1
 have HB0 := Zh (Below.refl w.heap.size w)
 have HS0 := Zh (h)
 have HS00 := HS0
 clear h
 unfold L.val
 obtain ⟨w1, hw1, hb, hk⟩ := Zn w 58 #[z.s, z.a, z.b, z.f, z.t]
 replace HS0 := Zh (HS0.out.below hb)
 replace HB0 := Zt HB0 hb
 have KZ1 := Zh hk
 clear hb hk
 have hzb : b < w.heap.size := Nat.lt_of_lt_of_le HS0.out.bh HS00.out.hh
 obtain ⟨k, bb, hk⟩ : ∃ k bb, L.del s.l z.a z.b = (k, bb) := ⟨_, _, rfl⟩
 have HK := Zh hk
 have hkl : k.length <= nl := by rw [<- hll]; have := L.del_len s.l z.a z.b; rw [hk] at this; exact this
 obtain ⟨n2, hn2⟩ : ∃ n2, k.length = n2 := ⟨_, rfl⟩
 go_enter Tryz.func139, Tryz.ntmps139
 go_wp2_with fail
 try rw [hw1]
 clear hw1
 refine Zd (fun w' => Blok w' w.heap.size 58 #[z.s, z.a, z.b, z.f, z.t]) (KZ1.out.drew) fun RS0 => ?_
 refine Zq 0 b 0 RS0 ?_
 refine Zq 1 b 0 RS0 ?_
 refine Zq 2 b 0 RS0 ?_
 refine Zq 3 b 0 RS0 ?_
 refine Zq 4 b 14 RS0 ?_
 refine Zq 6 w.heap.size 1 RS0 ?_
 refine Zl 7 (.int .i64 z.a) rfl (fun w9 hS => by
    have y1 := Zv hS 1 (.int .i64 z.a)
    go_simp) RS0 ?_
 refine Zq 8 w.heap.size 2 RS0 ?_
 refine Zl 9 (.int .i64 z.b) rfl (fun w9 hS => by
    have y2 := Zv hS 2 (.int .i64 z.b)
    go_simp) RS0 ?_
 have c14 : (World.drew w1).cell? ⟨b, 14, none⟩ = some (.slice al nl cl) := HS0.out.k.cell 14
 refine zat (i := 5) (v := .slice al nl cl) (by kernel_rfl) rfl (by kernel_rfl) (by go_simp) RS0 ?_
 clear c14
 refine Zc 10 32 #[.slice al nl cl, z.a, z.b] (zim al nl cl s.l k z.a z.b bb n2 hk hn2 _ ((HS0.out.i.l : RIn w1 al nl cl s.l).below (zaa w1)) (by omega)) ?_
 rintro e w2 ⟨v, rfl, ho, hb⟩
 obtain ⟨a2, c2, rfl, hr⟩ := zcn ho.out hn2
 have hb2 : Below w1.heap.size w1 w2 := (zaa w1).trans hb
 refine Zu (Blok.below RS0 hb (Blok.lt RS0)) fun RS1 => ?_
 refine tk 11 (.tuple #[.slice a2 n2 c2, bb]) RS1 ?_
 refine tk 12 (.slice a2 n2 c2) RS1 ?_
 refine tk 13 (.bool bb) RS1 ?_
 refine Zq 14 b 0 RS1 ?_
 refine Zq 15 b 0 RS1 ?_
 refine Zq 16 b 14 RS1 ?_
 have HU2 : Hid (∀ q, a2 = some q -> H <= q.block) := Zh (fun q hq => by have h1 := (ho.out.lt q.block (by rw [hq]; rfl)).1; have h2 := HS0.out.hh; have h3 := (zaa w1).size; omega)
 have hoff : ∀ q, ve.ownBlock = some q -> Y.OffL q a2 k := fun q hq => .inr (Y.off_own ho.out (show q < _ from by have := (HS0.out.ev.lt q hq).2; have := zaa w1 |>.size; omega))
 obtain ⟨hw, kw⟩ := HS0.out.l hb2 hr hoff
 have c14 : w2.cell? ⟨b, 14, none⟩ = some (.slice al nl cl) := zap (HS0.out.k.cell 14) hb2
 have f14 : w2.frozen? ⟨b, 14, none⟩ = false := (HS0.out.k.below hb2 HS0.out.k.lt).frozen 14
 have RS2 : (fun w' => Blok w' w.heap.size 58 #[z.s, z.a, z.b, z.f, z.t]) (w2.setCell ⟨b, 14, none⟩ (.slice a2 n2 c2)) := Blok.far RS1 (by simp; omega) _
 refine zaf (i := 17) (by kernel_rfl) (zah (w' := w2.setCell ⟨b, 14, none⟩ (.slice a2 n2 c2)) rfl (by kernel_rfl) (by go_simp) ⟨RS2, ?_⟩)
 refine wpAnyH_done (by kernel_rfl) ?_ _
 have HS3 := Zh hw
 have HK3 := Zh ((KpL.of_below HB0.out HS00.out.hh).t kw)
 have KZ3 : Hid (Blok (w2.setCell ⟨b, 14, none⟩ (.slice a2 n2 c2)) w.heap.size 58 #[z.s, z.a, z.b, z.f, z.t]) := Zh RS2
 obtain ⟨w3, hw3⟩ : ∃ W, w2.setCell ⟨b, 14, none⟩ (.slice a2 n2 c2) = W := ⟨_, rfl⟩
 rw [hw3] at HS3 HK3 KZ3 ⊢
 clear hw3 hw kw hr ho hb hb2 hoff c14 f14
 have d10 := Zv HS3.out.k 10 (.int .i64 s.p.h)
 by_cases hp : 0 < s.p.h
 rotate_left
 ·have d : decide (0 < s.p.h) = false := decide_eq_false hp
  have z0 := Zv KZ3.out 0 (.int .i64 z.s)
  have z1 := Zv KZ3.out 1 (.int .i64 z.a)
  have z2 := Zv KZ3.out 2 (.int .i64 z.b)
  have z3 := Zv KZ3.out 3 (.int .i64 z.f)
  have z4 := Zv KZ3.out 4 (.int .i64 z.t)
  go_wp2_with fail
  refine (zcu H b _ _ evs ve x y (Y.evF z t) w3 HS3.out hne).mono ?_
  clear z0 z1 z2 z3 z4
  rintro e w9 ⟨rfl, v2, hf, hk9⟩
  have HF := Zh hf
  have HKF := Zh (HK3.out.t hk9)
  clear hf hk9
  go_wp2
  first | go_end0 | skip
  refine ⟨rfl, ⟨ap, np, cp, a2, n2, c2, ah, nh, ch⟩, v2, ?_, HKF.out, HU2.out, rfl, .inl rfl⟩
  have e9 : Y.free1 s z t = { s with l := k, h := s.h } := by unfold Y.free1; rw [HK.out]; first | rw [if_pos (by omega), HHH.out] | rw [if_neg (by omega)]
  rw [e9]; exact HF.out
 have d : decide (0 < s.p.h) = true := decide_eq_true hp
 have hwr : IntKind.i64.wrap (t + s.p.h) = t + s.p.h := by rw [IntKind.wrap_i64]; omega
 obtain ⟨hh2, hhh⟩ : ∃ q, L.hold s.h ⟨z.a, z.b, t + s.p.h⟩ = q := ⟨_, rfl⟩
 obtain ⟨m2, hm2⟩ : ∃ q, hh2.length = q := ⟨_, rfl⟩
 go_wp2_with fail
 refine Zd (fun w' => Blok w' w.heap.size 58 #[z.s, z.a, z.b, z.f, z.t] /\ w'.cell? ⟨b, 10, none⟩ = some (.int .i64 s.p.h)) (⟨KZ3.out.drew, d10⟩) fun RS0 => ?_
 refine Zq 0 b 0 RS0 ?_
 refine Zq 1 b 0 RS0 ?_
 refine Zq 2 b 0 RS0 ?_
 refine Zq 3 b 0 RS0 ?_
 refine Zq 4 b 15 RS0 ?_
 refine Zq 6 w.heap.size 1 RS0 ?_
 refine Zl 7 (.int .i64 z.a) rfl (fun w9 hS => by
    have y1 := Zv hS.1 1 (.int .i64 z.a)
    go_simp) RS0 ?_
 refine Zq 8 w.heap.size 2 RS0 ?_
 refine Zl 9 (.int .i64 z.b) rfl (fun w9 hS => by
    have y2 := Zv hS.1 2 (.int .i64 z.b)
    go_simp) RS0 ?_
 refine tk 10 (.int .i64 t) RS0 ?_
 refine Zq 11 b 0 RS0 ?_
 refine Zq 12 b 0 RS0 ?_
 refine Zq 13 b 0 RS0 ?_
 refine Zq 14 b 8 RS0 ?_
 refine Zq 15 b 10 RS0 ?_
 refine Zl 16 (.int .i64 s.p.h) rfl (fun w9 hS => by
    have y10 := hS.2
    go_simp) RS0 ?_
 refine wpAnyH_take (i := 17) (v := .int .i64 (t + s.p.h)) rfl (by kernel_rfl) (by kernel_rfl) (by kernel_rfl) (fun _ _ _ h => h) (.inl ⟨by kernel_rfl, fun w9 hS => by go_simp⟩) RS0 ?_
 refine tk 18 (.agg #[z.a, z.b, .int .i64 (t + s.p.h)]) RS0 ?_
 have c15 : (World.drew w3).cell? ⟨b, 15, none⟩ = some (.slice ah nh ch) := HS3.out.k.cell 15
 refine zat (i := 5) (v := .slice ah nh ch) (by kernel_rfl) rfl (by kernel_rfl) (by go_simp) RS0 ?_
 clear c15
 refine Zc 19 168 #[.slice ah nh ch, .agg #[z.a, z.b, .int .i64 (t + s.p.h)]] (zj9 ah nh ch s.h hh2 ⟨z.a, z.b, t + s.p.h⟩ m2 hhh hm2 _ ((HS3.out.i.h : RIn w3 ah nh ch s.h).below (zaa w3)) (by omega)) ?_
 rintro e w4 ⟨v, rfl, ho, hb⟩
 obtain ⟨a3, c3, rfl, hr⟩ := zdl ho.out hm2
 have hb2 : Below w3.heap.size w3 w4 := (zaa w3).trans hb
 refine Zu (⟨Blok.below (And.left RS0) hb (Blok.lt (And.left RS0)), zap (And.right RS0) hb⟩) fun RS1 => ?_
 refine Zq 20 b 0 RS1 ?_
 refine Zq 21 b 0 RS1 ?_
 refine Zq 22 b 15 RS1 ?_
 have HU5 : Hid (∀ q, a3 = some q -> H <= q.block) := Zh (fun q hq => by have h1 := (ho.out.lt q.block (by rw [hq]; rfl)).1; have h2 := HS3.out.hh; have h3 := (zaa w3).size; omega)
 have h3s : b < w3.heap.size := HS3.out.k.lt
 have hofb : Y.Off b a3 := Y.off_own ho.out (show b < _ from by have := zaa w3 |>.size; omega)
 have hoff : ∀ q, ve.ownBlock = some q -> Y.OffL q a3 hh2 := fun q hq => .inr (Y.off_own ho.out (show q < _ from by have := (HS3.out.ev.lt q hq).2; have := zaa w3 |>.size; omega))
 obtain ⟨hw, kw⟩ := HS3.out.h hb2 hr hofb hoff
 have c15 : w4.cell? ⟨b, 15, none⟩ = some (.slice ah nh ch) := zap (HS3.out.k.cell 15) hb2
 have f15 : w4.frozen? ⟨b, 15, none⟩ = false := (HS3.out.k.below hb2 HS3.out.k.lt).frozen 15
 have RS2 : (fun w' => Blok w' w.heap.size 58 #[z.s, z.a, z.b, z.f, z.t] /\ w'.cell? ⟨b, 10, none⟩ = some (.int .i64 s.p.h)) (w4.setCell ⟨b, 15, none⟩ (.slice a3 m2 c3)) := ⟨Blok.far (And.left RS1) (by simp; omega) _, by rw [World.cell?_setCell_other]; exact And.right RS1; simp⟩
 refine zaf (i := 23) (by kernel_rfl) (zah (w' := w4.setCell ⟨b, 15, none⟩ (.slice a3 m2 c3)) rfl (by kernel_rfl) (by go_simp) ⟨RS2, ?_⟩)
 refine wpAnyH_done (by kernel_rfl) ?_ _
 have HS5 := Zh hw
 have HK5 := Zh (HK3.out.t kw)
 have KZ5 : Hid (Blok (w4.setCell ⟨b, 15, none⟩ (.slice a3 m2 c3)) w.heap.size 58 #[z.s, z.a, z.b, z.f, z.t]) := Zh (And.left RS2)
 obtain ⟨w5, hw5⟩ : ∃ W, w4.setCell ⟨b, 15, none⟩ (.slice a3 m2 c3) = W := ⟨_, rfl⟩
 rw [hw5] at HS5 HK5 KZ5 ⊢
 have HHH := Zh hhh
 clear hw5 hw kw hr ho hb hb2 hoff hofb c15 f15 hhh d10
 have z0 := Zv KZ5.out 0 (.int .i64 z.s)
 have z1 := Zv KZ5.out 1 (.int .i64 z.a)
 have z2 := Zv KZ5.out 2 (.int .i64 z.b)
 have z3 := Zv KZ5.out 3 (.int .i64 z.f)
 have z4 := Zv KZ5.out 4 (.int .i64 z.t)
 go_wp2_with fail
 refine (zcu H b _ _ evs ve x y (Y.evF z t) w5 HS5.out hne).mono ?_
 clear z0 z1 z2 z3 z4
 rintro e w9 ⟨rfl, v2, hf, hk9⟩
 have HF := Zh hf
 have HKF := Zh (HK5.out.t hk9)
 clear hf hk9
 go_wp2
 first | go_end0 | skip
 refine ⟨rfl, ⟨ap, np, cp, a2, n2, c2, a3, m2, c3⟩, v2, ?_, HKF.out, HU2.out, rfl, .inr HU5.out⟩
 have e9 : Y.free1 s z t = { s with l := k, h := hh2 } := by unfold Y.free1; rw [HK.out]; first | rw [if_pos (by omega), HHH.out] | rw [if_neg (by omega)]
 rw [e9]; exact HF.out
end Go.Proofs.YtonejangijkdmaaGreat
