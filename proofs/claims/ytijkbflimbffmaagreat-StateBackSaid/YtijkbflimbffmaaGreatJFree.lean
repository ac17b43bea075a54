import Derived.Test.YtijkbflimbffmaaGreatP17
namespace Go.Proofs.YtijkbflimbffmaaGreat
set_option maxHeartbeats 2000000
set_option maxRecDepth 100000
open Go.RowKit
theorem zrc (H0 b : Nat) (s : Y.St) (A : Y.A9) (e : Y.Ev) (w : World) (h : J.WIn w b s A) (hH : H0 <= w.heap.size) (hu : Y.Up H0 A) (hn : A.np <= 600 /\ A.nl <= 600 /\ A.nh <= 600) (hf : L.find s.l e.b e.c = -1) :
  Calls Tryz.prog 91 #[.pointer (some ⟨b, 0, none⟩), Y.eval e] w fun r w' => ∃ A', r = .returned (.bool false) /\ Hid (J.WIn w' b s A') /\ w.grownBy w' (some b) /\ Y.Up H0 A' := by
 obtain ⟨ap, np, cp, al, nl, cl, ah, nh, ch⟩ := A
 have hnp : np <= 600 := hn.1
 have hnl : nl <= 600 := hn.2.1
 have hnh : nh <= 600 := hn.2.2
 clear hn
 have HU := Zh hu
 have hbw : b < w.heap.size := h.k.lt
 have _hH := hH
 clear hu
 have HB0 := Zh (Below.refl w.heap.size w)
 have HS0 := Zh (h)
 have HS00 := HS0
 clear h
 unfold Y.eval
 obtain ⟨w1, hw1, hb, hk⟩ := Zn w 34 #[.int .i64 e.k, .int .i64 e.t, .int .i64 e.a, .int .i64 e.b, .int .i64 e.c, .int .i64 e.p.q, .int .i64 e.p.i, .int .i64 e.p.h, .bool e.p.pair]
 replace HS0 := Zh (HS0.out.below hb)
 replace HB0 := Zt HB0 hb
 have KE1 := Zh hk
 clear hb hk
 have cf := fun d os => zni al nl cl s.l e.b e.c (-1) hf (Go.Sort.grow (redrawn w1 d) os) ((HS0.out.i.l : RIn w1 al nl cl s.l).below (below_regrown w1 d os)) (by omega)
 clear hf
 obtain ⟨r0, r1, r2, r3, r4, r5, r6, r7, r8⟩ := J.ce9 KE1.out
 obtain ⟨qr0, qr1, qr2, qr3, qr4, qr5, qr6, qr7, qr8⟩ := J.ce9q KE1.out
 have c14 := Zv HS0.out.k 14 (.slice al nl cl)
 have qc14 : ∀ d os, (Go.Sort.grow (redrawn w1 d) os).cell? ⟨b, 14, none⟩ = some (.slice al nl cl) := fun d os => (HS0.out.k.below (below_regrown w1 d os) HS0.out.k.lt).cell 14
 go_enter Tryz.func91, Tryz.ntmps91
 go_wp2_with fail
 try rw [hw1]
 refine wp_region_quiet_below (by kernel_rfl) (by kernel_rfl) ?_
 repeat (go_big_quiet_step (first | with_reducible exact Calls.regrown_of (cf _ _)))
 refine wpQuiet_nil ?_
 intro _ hw'
 obtain ⟨⟨dq, osq⟩, hw''⟩ := hw'
 subst hw''
 clear r0 r1 r2 r3 r4 r5 r6 r7 r8
 clear cf hw1 c14 qc14 qr0 qr1 qr2 qr3 qr4 qr5 qr6 qr7 qr8
 obtain ⟨w2, hq⟩ : ∃ W, Go.Sort.grow (redrawn w1 dq) osq = W := ⟨_, rfl⟩
 have hb : Below w1.heap.size w1 w2 := by rw [<- hq]; exact below_regrown _ _ _
 rw [hq]
 clear hq
 replace HS0 := Zh (HS0.out.below hb)
 replace KE1 := Zk KE1 hb
 replace HB0 := Zt HB0 hb
 clear hb
 obtain ⟨r0, r1, r2, r3, r4, r5, r6, r7, r8⟩ := J.ce9 KE1.out
 clear r0 r1 r2 r3 r4 r5 r6 r7 r8
 go_wp2_with fail
 refine Zd (fun w' => Blok w' w.heap.size 34 #[.int .i64 e.k, .int .i64 e.t, .int .i64 e.a, .int .i64 e.b, .int .i64 e.c, .int .i64 e.p.q, .int .i64 e.p.i, .int .i64 e.p.h, .bool e.p.pair]) (KE1.out.drew) fun RS0 => ?_
 refine tk 0 (.int .i64 (-1)) RS0 ?_
 refine tk 1 (.bool true) RS0 ?_
 refine tk 2 (.bool true) RS0 ?_
 refine tko 3 RS0 ?_
 refine tko 4 RS0 ?_
 refine tko 5 RS0 ?_
 refine tko 6 RS0 ?_
 refine tko 7 RS0 ?_
 refine tko 8 RS0 ?_
 refine tko 9 RS0 ?_
 refine tko 10 RS0 ?_
 refine tko 11 RS0 ?_
 refine tko 12 RS0 ?_
 refine tko 13 RS0 ?_
 refine tko 14 RS0 ?_
 refine tk 15 (.bool true) RS0 ?_
 refine wpAnyH_done (by kernel_rfl) ?_ _
 simp only [List.getElem_toArray, List.getElem_cons_succ, List.getElem_cons_zero, zc7, List.setIfInBounds_toArray, List.set_cons_succ, List.set_cons_zero]
 have HE := Zh (And.intro (L.none_below (zbx (L.below_none (zaa w2)))) trivial)
 have HG := Zh ((L.below_none HB0.out))
 go_wp2
 go_ret
 first | exact ⟨rfl, ⟨ap, np, cp, al, nl, cl, ah, nh, ch⟩, Zh (HS0.out.below (zaa w2)), (zbx HG.out).trans (zbx (L.below_none (zaa w2))), HU.out⟩ | exact ⟨⟨ap, np, cp, al, nl, cl, ah, nh, ch⟩, rfl, Zh (HS0.out.below (zaa w2)), (zbx HG.out).trans (zbx (L.below_none (zaa w2))), HU.out⟩
theorem zqg (H0 b : Nat) (s : Y.St) (A : Y.A9) (e : Y.Ev) (w : World) (h : J.WIn w b s A) (hH : H0 <= w.heap.size) (hu : Y.Up H0 A) (hn : A.np <= 600 /\ A.nl <= 600 /\ A.nh <= 600) (i : Nat) (z : L.Ls) (hf : L.find s.l e.b e.c = i) (hz : s.l[i]? = some z) (hs : ¬ z.s = e.a) :
  Calls Tryz.prog 91 #[.pointer (some ⟨b, 0, none⟩), Y.eval e] w fun r w' => ∃ A', r = .returned (.bool false) /\ Hid (J.WIn w' b s A') /\ w.grownBy w' (some b) /\ Y.Up H0 A' := by
 obtain ⟨ap, np, cp, al, nl, cl, ah, nh, ch⟩ := A
 have hnp : np <= 600 := hn.1
 have hnl : nl <= 600 := hn.2.1
 have hnh : nh <= 600 := hn.2.2
 clear hn
 have HU := Zh hu
 have hbw : b < w.heap.size := h.k.lt
 have _hH := hH
 clear hu
 have HB0 := Zh (Below.refl w.heap.size w)
 have HS0 := Zh (h)
 have HS00 := HS0
 clear h
 unfold Y.eval
 obtain ⟨w1, hw1, hb, hk⟩ := Zn w 34 #[.int .i64 e.k, .int .i64 e.t, .int .i64 e.a, .int .i64 e.b, .int .i64 e.c, .int .i64 e.p.q, .int .i64 e.p.i, .int .i64 e.p.h, .bool e.p.pair]
 replace HS0 := Zh (HS0.out.below hb)
 replace HB0 := Zt HB0 hb
 have KE1 := Zh hk
 clear hb hk
 have cf := fun d os => zni al nl cl s.l e.b e.c (i) hf (Go.Sort.grow (redrawn w1 d) os) ((HS0.out.i.l : RIn w1 al nl cl s.l).below (below_regrown w1 d os)) (by omega)
 clear hf
 obtain ⟨r0, r1, r2, r3, r4, r5, r6, r7, r8⟩ := J.ce9 KE1.out
 obtain ⟨qr0, qr1, qr2, qr3, qr4, qr5, qr6, qr7, qr8⟩ := J.ce9q KE1.out
 have c14 := Zv HS0.out.k 14 (.slice al nl cl)
 have qc14 : ∀ d os, (Go.Sort.grow (redrawn w1 d) os).cell? ⟨b, 14, none⟩ = some (.slice al nl cl) := fun d os => (HS0.out.k.below (below_regrown w1 d os) HS0.out.k.lt).cell 14
 go_enter Tryz.func91, Tryz.ntmps91
 go_wp2_with fail
 try rw [hw1]
 refine wp_region_quiet_below (by kernel_rfl) (by kernel_rfl) ?_
 repeat (go_big_quiet_step (first | with_reducible exact Calls.regrown_of (cf _ _)))
 refine wpQuiet_nil ?_
 intro _ hw'
 obtain ⟨⟨dq, osq⟩, hw''⟩ := hw'
 subst hw''
 clear r0 r1 r2 r3 r4 r5 r6 r7 r8
 clear cf hw1 c14 qc14 qr0 qr1 qr2 qr3 qr4 qr5 qr6 qr7 qr8
 obtain ⟨w2, hq⟩ : ∃ W, Go.Sort.grow (redrawn w1 dq) osq = W := ⟨_, rfl⟩
 have hb : Below w1.heap.size w1 w2 := by rw [<- hq]; exact below_regrown _ _ _
 rw [hq]
 clear hq
 replace HS0 := Zh (HS0.out.below hb)
 replace KE1 := Zk KE1 hb
 replace HB0 := Zt HB0 hb
 clear hb
 obtain ⟨r0, r1, r2, r3, r4, r5, r6, r7, r8⟩ := J.ce9 KE1.out
 clear r0 r1 r2 r3 r4 r5 r6 r7 r8
 have hin : i < nl := by have := (List.getElem?_eq_some_iff.1 hz).1; have h2 : s.l.length = nl := HS0.out.i.l.1; omega
 have i0 : (0 : Int) <= i := by omega
 have i1 : (i : Int) < nl := by omega
 obtain ⟨g0, off, z', hal, -, hz', -⟩ := (HS0.out.i.l : RIn w2 al nl cl s.l).at5 hin
 obtain rfl : z = z' := by rw [hz] at hz'; exact Option.some.inj hz'
 have HZ := Zh hz
 clear hz hz'
 have hdn : ((i : Int) == -1) = false := by simp
 subst hal
 go_wp2_with fail
 refine Zd (fun w' => Below w2.heap.size w2 w') (zaa w2) fun RS0 => ?_
 refine tk 0 (.int .i64 i) RS0 ?_
 refine wpAnyH_take (i := 1) (v := .bool false) rfl (by kernel_rfl) (by kernel_rfl) (by kernel_rfl) (fun _ _ _ h => h) (.inl ⟨by kernel_rfl, fun w9 hS => by go_simp⟩) RS0 ?_
 refine tk 2 (.bool false) RS0 ?_
 refine Zq 3 b 0 RS0 ?_
 refine Zq 4 b 0 RS0 ?_
 refine Zq 5 b 0 RS0 ?_
 refine Zq 6 b 14 RS0 ?_
 refine Zl 7 (.slice (some ⟨g0, off, none⟩) nl cl) rfl (fun w9 hS => by
    have y14 := Zv (HS0.out.k.below hS HS0.out.k.lt) 14 (.slice (some ⟨g0, off, none⟩) nl cl)
    go_simp) RS0 ?_
 refine tk 8 (.int .i64 i) RS0 ?_
 refine wpAnyH_take (i := 9) (v := .pointer (some ⟨g0, off + i * 5, none⟩)) rfl (by kernel_rfl) (by kernel_rfl) (by kernel_rfl) (fun _ _ _ h => h) (.inl ⟨by kernel_rfl, fun w9 hS => by go_simp⟩) RS0 ?_
 refine Zq 10 g0 (off + i * 5) RS0 ?_
 refine Zl 11 (.int .i64 z.s) rfl (fun w9 hS => by
    have p0 := (J.ls_at ((HS0.out.i.l : RIn w2 (some ⟨g0, off, none⟩) nl cl s.l).below hS) HZ.out).1
    go_simp) RS0 ?_
 refine Zq 12 w.heap.size 2 RS0 ?_
 refine Zl 13 (.int .i64 e.a) rfl (fun w9 hS => by
    have y2 := Zv (KE1.out.below hS KE1.out.lt) 2 (.int .i64 e.a)
    go_simp) RS0 ?_
 have e1 : (z.s != e.a) = true := by simp [bne, hs]
 refine wpAnyH_take (i := 14) (v := .bool true) rfl (by kernel_rfl) (by kernel_rfl) (by kernel_rfl) (fun _ _ _ h => h) (.inl ⟨by kernel_rfl, fun w9 hS => by go_simp⟩) RS0 ?_
 refine tk 15 (.bool true) RS0 ?_
 refine wpAnyH_done (by kernel_rfl) ?_ _
 simp only [List.getElem_toArray, List.getElem_cons_succ, List.getElem_cons_zero, zc7, List.setIfInBounds_toArray, List.set_cons_succ, List.set_cons_zero]
 have HB3 := Zh (RS0)
 obtain ⟨w3, hw3⟩ : ∃ W, World.drew w2 = W := ⟨_, rfl⟩
 rw [hw3] at HB3 ⊢
 clear hw3
 go_wp2
 go_ret
 first | exact ⟨rfl, ⟨ap, np, cp, _, nl, cl, ah, nh, ch⟩, Zh (HS0.out.below HB3.out), (zbx (L.below_none HB0.out)).trans (zbx (L.below_none HB3.out)), HU.out⟩ | exact ⟨⟨ap, np, cp, _, nl, cl, ah, nh, ch⟩, rfl, Zh (HS0.out.below HB3.out), (zbx (L.below_none HB0.out)).trans (zbx (L.below_none HB3.out)), HU.out⟩
theorem zr5 (H0 b : Nat) (s : Y.St) (A : Y.A9) (e : Y.Ev) (w : World) (h : J.WIn w b s A) (hH : H0 <= w.heap.size) (hu : Y.Up H0 A) (hn : A.np <= 600 /\ A.nl <= 600 /\ A.nh <= 600) (i : Nat) (z : L.Ls) (hf : L.find s.l e.b e.c = i) (hz : s.l[i]? = some z) (hza : z.a = e.b) (hzb : z.b = e.c) (hs : z.s = e.a) (ht : 0 <= e.t /\ e.t <= 1073741824) (hh : 0 <= s.p.h /\ s.p.h <= 1048576) :
  Calls Tryz.prog 91 #[.pointer (some ⟨b, 0, none⟩), Y.eval e] w fun r w' => ∃ A', r = .returned (.bool true) /\ Hid (J.WIn w' b (Y.free1 s z e.t) A') /\ w.grownBy w' (some b) /\ Y.Up H0 A' := by
 obtain ⟨ap, np, cp, al, nl, cl, ah, nh, ch⟩ := A
 have hnp : np <= 600 := hn.1
 have hnl : nl <= 600 := hn.2.1
 have hnh : nh <= 600 := hn.2.2
 clear hn
 have HU := Zh hu
 have hbw : b < w.heap.size := h.k.lt
 have _hH := hH
 clear hu
 have HB0 := Zh (Below.refl w.heap.size w)
 have HS0 := Zh (h)
 have HS00 := HS0
 clear h
 unfold Y.eval
 obtain ⟨w1, hw1, hb, hk⟩ := Zn w 34 #[.int .i64 e.k, .int .i64 e.t, .int .i64 e.a, .int .i64 e.b, .int .i64 e.c, .int .i64 e.p.q, .int .i64 e.p.i, .int .i64 e.p.h, .bool e.p.pair]
 replace HS0 := Zh (HS0.out.below hb)
 replace HB0 := Zt HB0 hb
 have KE1 := Zh hk
 clear hb hk
 have cf := fun d os => zni al nl cl s.l e.b e.c (i) hf (Go.Sort.grow (redrawn w1 d) os) ((HS0.out.i.l : RIn w1 al nl cl s.l).below (below_regrown w1 d os)) (by omega)
 clear hf
 obtain ⟨r0, r1, r2, r3, r4, r5, r6, r7, r8⟩ := J.ce9 KE1.out
 obtain ⟨qr0, qr1, qr2, qr3, qr4, qr5, qr6, qr7, qr8⟩ := J.ce9q KE1.out
 have c14 := Zv HS0.out.k 14 (.slice al nl cl)
 have qc14 : ∀ d os, (Go.Sort.grow (redrawn w1 d) os).cell? ⟨b, 14, none⟩ = some (.slice al nl cl) := fun d os => (HS0.out.k.below (below_regrown w1 d os) HS0.out.k.lt).cell 14
 go_enter Tryz.func91, Tryz.ntmps91
 go_wp2_with fail
 try rw [hw1]
 refine wp_region_quiet_below (by kernel_rfl) (by kernel_rfl) ?_
 repeat (go_big_quiet_step (first | with_reducible exact Calls.regrown_of (cf _ _)))
 refine wpQuiet_nil ?_
 intro _ hw'
 obtain ⟨⟨dq, osq⟩, hw''⟩ := hw'
 subst hw''
 clear r0 r1 r2 r3 r4 r5 r6 r7 r8
 clear cf hw1 c14 qc14 qr0 qr1 qr2 qr3 qr4 qr5 qr6 qr7 qr8
 obtain ⟨w2, hq⟩ : ∃ W, Go.Sort.grow (redrawn w1 dq) osq = W := ⟨_, rfl⟩
 have hb : Below w1.heap.size w1 w2 := by rw [<- hq]; exact below_regrown _ _ _
 rw [hq]
 clear hq
 replace HS0 := Zh (HS0.out.below hb)
 replace KE1 := Zk KE1 hb
 replace HB0 := Zt HB0 hb
 clear hb
 obtain ⟨r0, r1, r2, r3, r4, r5, r6, r7, r8⟩ := J.ce9 KE1.out
 clear r0 r1 r2 r3 r4 r5 r6 r7 r8
 have hin : i < nl := by have := (List.getElem?_eq_some_iff.1 hz).1; have h2 : s.l.length = nl := HS0.out.i.l.1; omega
 have i0 : (0 : Int) <= i := by omega
 have i1 : (i : Int) < nl := by omega
 obtain ⟨g0, off, z', hal, -, hz', -⟩ := (HS0.out.i.l : RIn w2 al nl cl s.l).at5 hin
 obtain rfl : z = z' := by rw [hz] at hz'; exact Option.some.inj hz'
 have HZ := Zh hz
 clear hz hz'
 have hdn : ((i : Int) == -1) = false := by simp
 subst hal
 have hln : s.l.length = nl := HS00.out.i.l.1
 have hlh : s.h.length = nh := HS00.out.i.h.1
 obtain ⟨k, bb, hk⟩ : ∃ k bb, L.del s.l e.b e.c = (k, bb) := ⟨_, _, rfl⟩
 have HK := Zh hk
 have hkl : k.length <= nl := by rw [<- hln]; have := L.del_len s.l e.b e.c; rw [hk] at this; exact this
 obtain ⟨n2, hn2⟩ : ∃ n2, k.length = n2 := ⟨_, rfl⟩
 go_wp2_with fail
 refine Zd (fun w' => Below w2.heap.size w2 w') (zaa w2) fun RS0 => ?_
 refine tk 0 (.int .i64 i) RS0 ?_
 refine wpAnyH_take (i := 1) (v := .bool false) rfl (by kernel_rfl) (by kernel_rfl) (by kernel_rfl) (fun _ _ _ h => h) (.inl ⟨by kernel_rfl, fun w9 hS => by go_simp⟩) RS0 ?_
 refine tk 2 (.bool false) RS0 ?_
 refine Zq 3 b 0 RS0 ?_
 refine Zq 4 b 0 RS0 ?_
 refine Zq 5 b 0 RS0 ?_
 refine Zq 6 b 14 RS0 ?_
 refine Zl 7 (.slice (some ⟨g0, off, none⟩) nl cl) rfl (fun w9 hS => by
    have y14 := Zv (HS0.out.k.below hS HS0.out.k.lt) 14 (.slice (some ⟨g0, off, none⟩) nl cl)
    go_simp) RS0 ?_
 refine tk 8 (.int .i64 i) RS0 ?_
 refine wpAnyH_take (i := 9) (v := .pointer (some ⟨g0, off + i * 5, none⟩)) rfl (by kernel_rfl) (by kernel_rfl) (by kernel_rfl) (fun _ _ _ h => h) (.inl ⟨by kernel_rfl, fun w9 hS => by go_simp⟩) RS0 ?_
 refine Zq 10 g0 (off + i * 5) RS0 ?_
 refine Zl 11 (.int .i64 z.s) rfl (fun w9 hS => by
    have p0 := (J.ls_at ((HS0.out.i.l : RIn w2 (some ⟨g0, off, none⟩) nl cl s.l).below hS) HZ.out).1
    go_simp) RS0 ?_
 refine Zq 12 w.heap.size 2 RS0 ?_
 refine Zl 13 (.int .i64 e.a) rfl (fun w9 hS => by
    have y2 := Zv (KE1.out.below hS KE1.out.lt) 2 (.int .i64 e.a)
    go_simp) RS0 ?_
 have e1 : (z.s != e.a) = false := by simp [bne, hs]
 refine wpAnyH_take (i := 14) (v := .bool false) rfl (by kernel_rfl) (by kernel_rfl) (by kernel_rfl) (fun _ _ _ h => h) (.inl ⟨by kernel_rfl, fun w9 hS => by go_simp⟩) RS0 ?_
 refine tk 15 (.bool false) RS0 ?_
 refine wpAnyH_done (by kernel_rfl) ?_ _
 simp only [List.getElem_toArray, List.getElem_cons_succ, List.getElem_cons_zero, zc7, List.setIfInBounds_toArray, List.set_cons_succ, List.set_cons_zero]
 have hb3 : Below w2.heap.size w2 (World.drew w2) := RS0
 have HS3 := Zh (HS0.out.below hb3)
 have KE3 := Zh (KE1.out.below hb3 KE1.out.lt)
 have HB3 := Zt HB0 hb3
 obtain ⟨w3, hw3⟩ : ∃ W, World.drew w2 = W := ⟨_, rfl⟩
 rw [hw3] at HS3 KE3 HB3 ⊢
 clear hw3 hb3
 go_wp2_with fail
 refine Zd (fun w' => Blok w' w.heap.size 34 #[.int .i64 e.k, .int .i64 e.t, .int .i64 e.a, .int .i64 e.b, .int .i64 e.c, .int .i64 e.p.q, .int .i64 e.p.i, .int .i64 e.p.h, .bool e.p.pair]) (KE3.out.drew) fun RS0 => ?_
 refine Zq 0 b 0 RS0 ?_
 refine Zq 1 b 0 RS0 ?_
 refine Zq 2 b 0 RS0 ?_
 refine Zq 3 b 0 RS0 ?_
 refine Zq 4 b 14 RS0 ?_
 refine Zq 6 w.heap.size 3 RS0 ?_
 refine Zl 7 (.int .i64 e.b) rfl (fun w9 hS => by
    have y3 := Zv hS 3 (.int .i64 e.b)
    go_simp) RS0 ?_
 refine Zq 8 w.heap.size 4 RS0 ?_
 refine Zl 9 (.int .i64 e.c) rfl (fun w9 hS => by
    have y4 := Zv hS 4 (.int .i64 e.c)
    go_simp) RS0 ?_
 have cx : (World.drew w3).cell? ⟨b, 14, none⟩ = some (.slice (some ⟨g0, off, none⟩) nl cl) := HS3.out.k.cell 14
 refine zat (i := 5) (v := .slice (some ⟨g0, off, none⟩) nl cl) (by kernel_rfl) rfl (by kernel_rfl) (by go_simp) RS0 ?_
 clear cx
 refine Zc 10 173 #[.slice (some ⟨g0, off, none⟩) nl cl, .int .i64 e.b, .int .i64 e.c] (zim (some ⟨g0, off, none⟩) nl cl s.l k e.b e.c bb n2 hk hn2 _ ((HS3.out.i.l : RIn w3 (some ⟨g0, off, none⟩) nl cl s.l).below (zaa w3)) (by omega)) ?_
 rintro e w4 ⟨v5, rfl, ho, hb⟩
 obtain ⟨a2, c2, rfl, hr⟩ := zcn ho.out hn2
 have hb2 : Below w3.heap.size w3 w4 := (zaa w3).trans hb
 refine Zu (Blok.below RS0 hb (Blok.lt RS0)) fun RS1 => ?_
 refine tk 11 (.tuple #[.slice a2 n2 c2, .bool bb]) RS1 ?_
 refine tk 12 (.slice a2 n2 c2) RS1 ?_
 refine tk 13 (.bool bb) RS1 ?_
 refine Zq 14 b 0 RS1 ?_
 refine Zq 15 b 0 RS1 ?_
 refine Zq 16 b 14 RS1 ?_
 have hofb : Y.OffL b a2 k := .inr (Y.off_own ho.out (show b < _ from by have := HB3.out.size; have := (zaa w3).size; omega))
 have HU2 : Hid (∀ q, a2 = some q -> H0 <= q.block) := Zh (fun q hq => by have h1 := (ho.out.lt q.block (by rw [hq]; rfl)).1; have h3 := (zaa w3).size; have := HB3.out.size; omega)
 obtain ⟨hw, kw⟩ := (HS3.out.below hb2).ls hr hofb
 have c14 : w4.cell? ⟨b, 14, none⟩ = some (.slice (some ⟨g0, off, none⟩) nl cl) := (HS3.out.below hb2).k.cell 14
 have f14 : w4.frozen? ⟨b, 14, none⟩ = false := (HS3.out.below hb2).k.frozen 14
 have RS2 : (fun w' => Blok w' w.heap.size 34 #[.int .i64 e.k, .int .i64 e.t, .int .i64 e.a, .int .i64 e.b, .int .i64 e.c, .int .i64 e.p.q, .int .i64 e.p.i, .int .i64 e.p.h, .bool e.p.pair]) (w4.setCell ⟨b, 14, none⟩ (.slice a2 n2 c2)) := Blok.far RS1 (by simp; omega) _
 refine zaf (i := 17) (by kernel_rfl) (zah (w' := w4.setCell ⟨b, 14, none⟩ (.slice a2 n2 c2)) rfl (by kernel_rfl) (by go_simp) ⟨RS2, ?_⟩)
 refine wpAnyH_done (by kernel_rfl) ?_ _
 simp only [List.getElem_toArray, List.getElem_cons_succ, List.getElem_cons_zero, zc7, ztx, List.setIfInBounds_toArray, List.set_cons_succ, List.set_cons_zero]
 have HW5 := Zh hw
 have KE5 := Zh (RS2)
 have HG5 := Zh ((zbx (L.below_none (HB3.out.trans (hb2.mono HB3.out.size)))).trans kw)
 obtain ⟨w5, hw5⟩ : ∃ W, w4.setCell ⟨b, 14, none⟩ (.slice a2 n2 c2) = W := ⟨_, rfl⟩
 rw [hw5] at HW5 KE5 HG5 ⊢
 clear hw5 hw kw hr ho hb hb2 hofb c14 f14
 have d10 := Zv HW5.out.k 10 (.int .i64 s.p.h)
 have hge : w.heap.size <= w5.heap.size := HG5.out.size
 by_cases hp : 0 < s.p.h
 rotate_left
 ·have d : decide (0 < s.p.h) = false := decide_eq_false hp
  go_wp2
  go_ret
  have e9 : Y.free1 s z e.t = { s with l := k } := by unfold Y.free1; rw [hza, hzb, HK.out, if_neg (by omega)]
  rw [e9]
  first | exact ⟨rfl, ⟨ap, np, cp, a2, n2, c2, ah, nh, ch⟩, HW5, HG5.out, HU.out.1, HU2.out, HU.out.2.2⟩ | exact ⟨⟨ap, np, cp, a2, n2, c2, ah, nh, ch⟩, rfl, HW5, HG5.out, HU.out.1, HU2.out, HU.out.2.2⟩
 have d : decide (0 < s.p.h) = true := decide_eq_true hp
 have hwr : IntKind.i64.wrap (e.t + s.p.h) = e.t + s.p.h := by rw [IntKind.wrap_i64]; omega
 obtain ⟨hh2, hhh⟩ : ∃ q, L.hold s.h ⟨e.b, e.c, e.t + s.p.h⟩ = q := ⟨_, rfl⟩
 obtain ⟨m2, hm2⟩ : ∃ q, hh2.length = q := ⟨_, rfl⟩
 have hX0 : (World.drew w5).cell? ⟨b, 10, none⟩ = some (.int .i64 s.p.h) := d10
 go_wp2_with fail
 refine Zd (fun w' => Blok w' w.heap.size 34 #[.int .i64 e.k, .int .i64 e.t, .int .i64 e.a, .int .i64 e.b, .int .i64 e.c, .int .i64 e.p.q, .int .i64 e.p.i, .int .i64 e.p.h, .bool e.p.pair] /\ w'.cell? ⟨b, 10, none⟩ = some (.int .i64 s.p.h)) (⟨KE5.out.drew, hX0⟩) fun RS0 => ?_
 refine Zq 0 b 0 RS0 ?_
 refine Zq 1 b 0 RS0 ?_
 refine Zq 2 b 0 RS0 ?_
 refine Zq 3 b 0 RS0 ?_
 refine Zq 4 b 15 RS0 ?_
 refine Zq 6 w.heap.size 3 RS0 ?_
 refine Zl 7 (.int .i64 e.b) rfl (fun w9 hS => by
    have y3 := Zv hS.1 3 (.int .i64 e.b)
    go_simp) RS0 ?_
 refine Zq 8 w.heap.size 4 RS0 ?_
 refine Zl 9 (.int .i64 e.c) rfl (fun w9 hS => by
    have y4 := Zv hS.1 4 (.int .i64 e.c)
    go_simp) RS0 ?_
 refine Zq 10 w.heap.size 1 RS0 ?_
 refine Zl 11 (.int .i64 e.t) rfl (fun w9 hS => by
    have y1 := Zv hS.1 1 (.int .i64 e.t)
    go_simp) RS0 ?_
 refine Zq 12 b 0 RS0 ?_
 refine Zq 13 b 0 RS0 ?_
 refine Zq 14 b 0 RS0 ?_
 refine Zq 15 b 8 RS0 ?_
 refine Zq 16 b 10 RS0 ?_
 refine Zl 17 (.int .i64 s.p.h) rfl (fun w9 hS => by
    have y10 := hS.2
    go_simp) RS0 ?_
 refine wpAnyH_take (i := 18) (v := .int .i64 (e.t + s.p.h)) rfl (by kernel_rfl) (by kernel_rfl) (by kernel_rfl) (fun _ _ _ h => h) (.inl ⟨by kernel_rfl, fun w9 hS => by go_simp⟩) RS0 ?_
 refine tk 19 (.agg #[.int .i64 e.b, .int .i64 e.c, .int .i64 (e.t + s.p.h)]) RS0 ?_
 have cx : (World.drew w5).cell? ⟨b, 15, none⟩ = some (.slice ah nh ch) := HW5.out.k.cell 15
 refine zat (i := 5) (v := .slice ah nh ch) (by kernel_rfl) rfl (by kernel_rfl) (by go_simp) RS0 ?_
 clear cx
 refine Zc 20 174 #[.slice ah nh ch, .agg #[.int .i64 e.b, .int .i64 e.c, .int .i64 (e.t + s.p.h)]] (zj9 ah nh ch s.h hh2 ⟨e.b, e.c, e.t + s.p.h⟩ m2 hhh hm2 _ ((HW5.out.i.h : RIn w5 ah nh ch s.h).below (zaa w5)) (by omega)) ?_
 rintro e w6 ⟨v6, rfl, ho, hb⟩
 obtain ⟨a3, c3, rfl, hr⟩ := zdl ho.out hm2
 have hb2 : Below w5.heap.size w5 w6 := (zaa w5).trans hb
 refine Zu (⟨Blok.below (And.left RS0) hb (Blok.lt (And.left RS0)), zap (And.right RS0) hb⟩) fun RS1 => ?_
 refine Zq 21 b 0 RS1 ?_
 refine Zq 22 b 0 RS1 ?_
 refine Zq 23 b 15 RS1 ?_
 have hofb : Y.OffL b a3 hh2 := .inr (Y.off_own ho.out (show b < _ from by have := (zaa w5).size; omega))
 have HU3 : Hid (∀ q, a3 = some q -> H0 <= q.block) := Zh (fun q hq => by have h1 := (ho.out.lt q.block (by rw [hq]; rfl)).1; have h3 := (zaa w5).size; omega)
 obtain ⟨hw, kw⟩ := (HW5.out.below hb2).hs hr hofb
 have c15 : w6.cell? ⟨b, 15, none⟩ = some (.slice ah nh ch) := (HW5.out.below hb2).k.cell 15
 have f15 : w6.frozen? ⟨b, 15, none⟩ = false := (HW5.out.below hb2).k.frozen 15
 have RS2 : (fun w' => Blok w' w.heap.size 34 #[.int .i64 e.k, .int .i64 e.t, .int .i64 e.a, .int .i64 e.b, .int .i64 e.c, .int .i64 e.p.q, .int .i64 e.p.i, .int .i64 e.p.h, .bool e.p.pair] /\ w'.cell? ⟨b, 10, none⟩ = some (.int .i64 s.p.h)) (w6.setCell ⟨b, 15, none⟩ (.slice a3 m2 c3)) := ⟨Blok.far (And.left RS1) (by simp; omega) _, by rw [World.cell?_setCell_other]; exact And.right RS1; simp⟩
 refine zaf (i := 24) (by kernel_rfl) (zah (w' := w6.setCell ⟨b, 15, none⟩ (.slice a3 m2 c3)) rfl (by kernel_rfl) (by go_simp) ⟨RS2, ?_⟩)
 refine wpAnyH_done (by kernel_rfl) ?_ _
 simp only [List.getElem_toArray, List.getElem_cons_succ, List.getElem_cons_zero, zc7, ztx, List.setIfInBounds_toArray, List.set_cons_succ, List.set_cons_zero]
 have HW7 := Zh hw
 have HG7 := Zh ((HG5.out.trans (zbx (L.below_none hb2))).trans kw)
 obtain ⟨w7, hw7⟩ : ∃ W, w6.setCell ⟨b, 15, none⟩ (.slice a3 m2 c3) = W := ⟨_, rfl⟩
 rw [hw7] at HW7 HG7 ⊢
 have HHH := Zh hhh
 clear hw7 hw kw hr ho hb hb2 hofb c15 f15 d10 hX0 hhh
 go_wp2
 go_ret
 have e9 : Y.free1 s z e.t = { s with l := k, h := hh2 } := by unfold Y.free1; rw [hza, hzb, HK.out, if_pos hp, HHH.out]
 rw [e9]
 first | exact ⟨rfl, ⟨ap, np, cp, a2, n2, c2, a3, m2, c3⟩, HW7, HG7.out, HU.out.1, HU2.out, HU3.out⟩ | exact ⟨⟨ap, np, cp, a2, n2, c2, a3, m2, c3⟩, rfl, HW7, HG7.out, HU.out.1, HU2.out, HU3.out⟩
end Go.Proofs.YtijkbflimbffmaaGreat
