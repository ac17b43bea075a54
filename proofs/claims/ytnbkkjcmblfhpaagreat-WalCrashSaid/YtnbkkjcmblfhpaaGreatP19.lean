import Derived.Test.YtnbkkjcmblfhpaaGreatP18
namespace Go.Proofs.YtnbkkjcmblfhpaaGreat
set_option maxHeartbeats 1000000
set_option maxRecDepth 100000
open Go.RowKit
attribute [local go_sem] Oper.semAt_some
theorem ztq (n : Nat) (hn : 5 <= n) (s : Y.St) (A : Y.A9) (w : World) (h : Y.SIn w A s) (hf : Y.Fits A s) :
  CallsIn Fence.wide n Tryz.prog 38 #[Y.val s A] w fun e w' => ∃ a c, e = .returned (.tuple #[.slice a ((J.put s).getD []).length c, .bool (J.put s).isSome]) /\ Hid (zfv .u8 w' a c ((J.put s).getD [])) /\ Below w.heap.size w w' /\ (a = none -> ((J.put s).getD []).length = 0 /\ c = 0) := by
 have h1 : 1 <= n := by omega
 have hro : Fence.wide.round = none := rfl
 have hf1 : Fence.wide.fn 38 := trivial
 have hf2 : Fence.wide.fn 82 := trivial
 have hf3 : Fence.wide.fn 151 := trivial
 have hf4 : Fence.wide.fn 66 := trivial
 have hf5 : Fence.wide.fn 81 := trivial
 have hf6 : Fence.wide.fn 83 := trivial
 obtain ⟨ap, np, cp, al, nl, cl, ah, nh, ch⟩ := A
 obtain ⟨i0, hi, hz0, hz1, hz2⟩ := info_parts zrf
 have hnp : np <= 600 := hf.p
 have hnl : nl <= 600 := hf.l
 have hnh : nh <= 600 := hf.h
 have HF := Zh hf
 have HB0 := Zh (Below.refl w.heap.size w)
 have HI := Zh h
 clear h hf
 unfold Y.val
 obtain ⟨w1, hw1, hb, hk⟩ := Zn w 37 #[.int .i64 s.d.b, .int .i64 s.d.k, .int .i64 s.d.c, .int .i64 s.d.j, .int .i64 s.d.lo, .int .i64 s.d.hi, .int .i64 s.d.dy, .int .i64 s.d.bl, .int .i64 s.p.q, .int .i64 s.p.i, .int .i64 s.p.h, .bool s.p.pair, .int .i64 s.now, .slice ap np cp, .slice al nl cl, .slice ah nh ch]
 replace HB0 := Zt HB0 hb
 have KS1 := Zh hk
 clear hb hk
 obtain ⟨vm, hvm⟩ : ∃ b, decide (Y.May s) = b := ⟨_, rfl⟩
 have cm := fun W (h : Y.SIn W ⟨ap, np, cp, al, nl, cl, ah, nh, ch⟩ s) => zbj s ⟨ap, np, cp, al, nl, cl, ah, nh, ch⟩ vm hvm W h HF.out
 unfold Y.val at cm
 have HVM := Zh hvm
 clear hvm
 obtain ⟨vu, hvu⟩ : ∃ b, s.l.any (J.unused s.now) = b := ⟨_, rfl⟩
 have HVU := Zh hvu
 obtain ⟨c0, c1, c2, c3, c4, c5, c6, c7, c8, c9, c10, c11, c12, c13, c14, c15⟩ := Y.cs16 KS1.out
 refine callsIn_of_wp_marks Tryz.func38 rfl hf1 ?_ hro
 simp only [Tryz.ntmps38, List.size_toArray, List.length_cons, List.length_nil, Nat.reduceAdd, Nat.reduceSub, Array.replicate_succ, Array.replicate_zero, List.push_toArray, List.append_toArray, List.nil_append, List.cons_append]
 gi_wp2_with fail
 try rw [hw1]
 clear hw1
 refine (callsIn_wide.2 (cm w1 (HI.out.below HB0.out))).mono ?_
 clear c0 c1 c2 c3 c4 c5 c6 c7 c8 c9 c10 c11 c12 c13 c14 c15
 rintro e w2 ⟨rfl, hb⟩
 replace KS1 := Zk KS1 hb
 replace HB0 := Zt HB0 hb
 clear hb
 
 obtain ⟨c0, c1, c2, c3, c4, c5, c6, c7, c8, c9, c10, c11, c12, c13, c14, c15⟩ := Y.cs16 KS1.out
 clear cm
 cases vm with
 | false =>
  have HE : Hid (J.put s = none) := Zh (J.put_no fun e => of_decide_eq_false HVM.out e.1)
  gi_wp2
  refine ⟨_, results_tmp2 rfl _ _ _, ?_⟩
  exact ⟨none, 0, by rw [HE.out]; rfl, by rw [HE.out]; exact Zh ⟨⟨by simp, by simp [maxLen]⟩, by simp, .inl rfl⟩, HB0.out, fun _ => by rw [HE.out]; exact ⟨rfl, rfl⟩⟩
 | true =>
  gi_wp2_with fail
  refine (callsIn_wide.2 (zqf al nl cl s.l w.heap.size s ⟨ap, np, cp, al, nl, cl, ah, nh, ch⟩ vu hvu w2 ((HI.out.l : RIn w al nl cl s.l).below HB0.out) KS1.out (by omega))).mono ?_
  clear c0 c1 c2 c3 c4 c5 c6 c7 c8 c9 c10 c11 c12 c13 c14 c15
  rintro e w3 ⟨rfl, hb⟩
  replace KS1 := Zk KS1 hb
  replace HB0 := Zt HB0 hb
  clear hb
  clear hvu
  obtain ⟨c0, c1, c2, c3, c4, c5, c6, c7, c8, c9, c10, c11, c12, c13, c14, c15⟩ := Y.cs16 KS1.out
  cases vu with
  | true =>
   have HE : Hid (J.put s = none) := Zh (J.put_no fun e => by
    obtain ⟨x, hx, h2⟩ := List.any_eq_true.1 HVU.out
    have := e.2 x hx
    unfold J.unused at h2; rw [this] at h2; simp at h2)
   gi_wp2
   refine ⟨_, results_tmp2 rfl _ _ _, ?_⟩
   exact ⟨none, 0, by rw [HE.out]; rfl, by rw [HE.out]; exact Zh ⟨⟨by simp, by simp [maxLen]⟩, by simp, .inl rfl⟩, HB0.out, fun _ => by rw [HE.out]; exact ⟨rfl, rfl⟩⟩
  | false =>
   have HK : Hid (J.ok s) := Zh ⟨of_decide_eq_true HVM.out, fun x hx => by
    have h2 : J.unused s.now x = false := by
     cases hq : J.unused s.now x with
     | false => rfl
     | true => have := List.any_eq_true.2 ⟨x, hx, hq⟩; rw [HVU.out] at this; cases this
    unfold J.unused at h2; simpa using h2⟩
   clear c0 c1 c2 c3 c4 c5 c6 c7 c8 c9 c10 c11 c12 c13 c14 c15
   have HX3 := HB0
   have HY3 : Hid (Below w3.heap.size w3 w3) := Zh (Below.refl _ _)
   obtain ⟨w4, hw4, hb, hk⟩ := Zn w3 51 #[.slice none 0 0]
   replace KS1 := Zk KS1 hb
   replace HY3 := Zt HY3 hb
   replace HB0 := Zt HB0 hb
   have KB4 := Zh hk
   clear hb hk
   obtain ⟨c0, c1, c2, c3, c4, c5, c6, c7, c8, c9, c10, c11, c12, c13, c14, c15⟩ := Y.cs16 KS1.out
   have ct := zth (n - 1) s ⟨ap, np, cp, al, nl, cl, ah, nh, ch⟩ w4
   unfold Y.val Y.cs at ct
   have HI3 : Hid (Y.SIn w3 ⟨ap, np, cp, al, nl, cl, ah, nh, ch⟩ s) := Zh (HI.out.below HX3.out)
   gi_wp2_with (refine zak KS1.out rfl rfl (by kernel_rfl) Tryz.underlying37 rfl (by kernel_rfl) ?_)
   refine ct.mono ?_
   rintro e w' ⟨rfl, rfl⟩
   clear ct
   clear c0 c1 c2 c3 c4 c5 c6 c7 c8 c9 c10 c11 c12 c13 c14 c15
   have hs4 : w4.heap.size = w3.heap.size + 1 := by rw [<- hw4]; simp
   clear hw4
   obtain ⟨w5, hw5, hb, hk⟩ := Zn w4 37 #[.int .i64 s.d.b, .int .i64 s.d.k, .int .i64 s.d.c, .int .i64 s.d.j, .int .i64 s.d.lo, .int .i64 s.d.hi, .int .i64 s.d.dy, .int .i64 s.d.bl, .int .i64 s.p.q, .int .i64 s.p.i, .int .i64 s.p.h, .bool s.p.pair, .int .i64 s.now, .slice ap np cp, .slice al nl cl, .slice ah nh ch]
   replace KS1 := Zk KS1 hb
   replace HY3 := Zt HY3 hb
   replace KB4 := Zk KB4 hb
   replace HB0 := Zt HB0 hb
   have KT5 := Zh hk
   clear hb hk
   rw [hw5]
   have hs5 : w5.heap.size = w3.heap.size + 2 := by rw [<- hw5]; simp; omega
   clear hw5
   gi_wp2
   have hkt := KT5.out
   rw [hs4] at hkt
   have hb35 : Below w3.heap.size w3 w5 := HY3.out
   refine zox hro h1 (gf := 151) (lb := #[.pointer (some ⟨w3.heap.size + 1, 0, none⟩)]) rfl hf3 (enters_of Tryz.func151 (by kernel_rfl) rfl)
    (zr2 (n - 1) w3.heap.size (w3.heap.size + 1) s ⟨ap, np, cp, al, nl, cl, ah, nh, ch⟩ HK.out w3 w5 hkt (Nat.le_refl _) hb35.size hb35 HI3.out) (Below.refl _ _) (fun _ => rfl) J.KpT.t
    (fun z W l o o' hl hW hc _ => ⟨(Below.refl _ W).grown (grownBy_putObj' W l o') (by have := (Array.getElem?_eq_some_iff.1 hW).1; omega) (fun k e => by cases e; omega), (grownBy_putObj' W l o').block _ (by have := (Array.getElem?_eq_some_iff.1 hW).1; omega) (fun e => by cases e; omega), fun cs t f hz => ((grownBy_putObj' W l o').block _ (Array.getElem?_eq_some_iff.1 hz).1 (fun e => by cases e; rw [hz] at hW; cases hW; cases hc)).trans hz⟩)
    (J.InvP w3 w3.heap.size) (fun z => J.invp_own _ _ _ z (Nat.le_refl _) (by omega))
    (fun z hz => ⟨⟨_, KB4.out, World.ownsRow_nil _ _ _ _, by simp [Value.ownBlock]⟩, ⟨by omega, by simp [J.bs]⟩, hb35⟩)
    (fun z x W => x.2.2 = { tmps := #[.agg #[.int .i64 s.d.b, .int .i64 s.d.k, .int .i64 s.d.c, .int .i64 s.d.j, .int .i64 s.d.lo, .int .i64 s.d.hi, .int .i64 s.d.dy, .int .i64 s.d.bl, .int .i64 s.p.q, .int .i64 s.p.i, .int .i64 s.p.h, .bool s.p.pair, .int .i64 s.now, .slice ap np cp, .slice al nl cl, .slice ah nh ch], .pointer (some ⟨w.heap.size, 0, none⟩), .slice none 0 0, .bool false, .func (.func 80) #[] #[.pointer (some ⟨w.heap.size, 0, none⟩)], .pointer (some ⟨w3.heap.size, 0, none⟩), .slice x.2.1.1 x.2.1.2.2.length x.2.1.2.1, .func (.func 80) #[] #[.pointer (some ⟨w.heap.size, 0, none⟩)], .agg #[.int .i64 s.d.b, .int .i64 s.d.k, .int .i64 s.d.c, .int .i64 s.d.j, .int .i64 s.d.lo, .int .i64 s.d.hi, .int .i64 s.d.dy, .int .i64 s.d.bl, .int .i64 s.p.q, .int .i64 s.p.i, .int .i64 s.p.h, .bool s.p.pair, .int .i64 s.now, .slice ap np cp, .slice al nl cl, .slice ah nh ch], .bool true, .bool false, .bool false, .pointer (some ⟨w.heap.size, 14, none⟩), .slice al nl cl, .func (.func 80) #[] #[.pointer (some ⟨w.heap.size, 0, none⟩)], .bool false, .bool false, .agg #[.int .i64 s.d.b, .int .i64 s.d.k, .int .i64 s.d.c, .int .i64 s.d.j, .int .i64 s.d.lo, .int .i64 s.d.hi, .int .i64 s.d.dy, .int .i64 s.d.bl, .int .i64 s.p.q, .int .i64 s.p.i, .int .i64 s.p.h, .bool s.p.pair, .int .i64 s.now, .slice ap np cp, .slice al nl cl, .slice ah nh ch], .func (.func 151) #[] #[.pointer (some ⟨w3.heap.size + 1, 0, none⟩)], .slice x.2.1.1 x.2.1.2.2.length x.2.1.2.1, undef, undef, undef, undef, undef, undef, undef, undef, undef], defers := [] } /\ J.InvP w3 w3.heap.size z x.1 W /\ J.Rnd w3.heap.size z x.2.1 W)
    ?own ?assign ?body ?done
   case own =>
    rintro z s X Y row ⟨e1, e2, e3⟩ hg hr
    have hbx := e2.1
    obtain ⟨v, hv, _⟩ := hbx
    exact ⟨e1, J.invp_own w3 w3.heap.size w5.heap.size z (Nat.le_refl _) (by omega) s.1 X Y row e2 hg hr, J.rnd_own e3 hv.lt ⟨v, hv⟩ hg hr⟩
   case assign =>
    rintro z l pre ⟨a2, c2, P⟩ V0 W K hI hV hG hK
    have HI := Zh hI
    have HG := Zh hG
    have HV := Zh hV
    clear hI hG hV
    gi_wp2
    refine hK _ _ ((KeepsOthers.refl _).from _) ⟨Below.refl _ _, rfl, fun cs t f h => h⟩ ⟨rfl, J.invp_below HI.out HV.out, J.rnd_of HI.out HV.out ?_⟩
    have hg := HG.out
    rw [hs5] at hg
    exact hg
   case body =>
    rintro z l pre ⟨a2, c2, P⟩ a' W ⟨ha, hI, hR⟩ hlt
    dsimp only at ha hI hR
    subst ha
    obtain ⟨⟨v, hv, hrow, hvz⟩, ⟨hz, hbl⟩, hB⟩ := hI
    obtain ⟨r1, r2, r3, r4, r5⟩ := hR
    dsimp only at r1 r2 r3 r4 r5
    have hM := hv.lt
    have c0 : W.cell? ⟨w3.heap.size, 0, none⟩ = some v := hv.cell
    have hpp := J.put_len5 (n := (P.length : Int)) (by omega) (by omega)
    have HV := Zh hv
    have HRW := Zh hrow
    have HVZ := Zh hvz
    have HBB := Zh hB
    have HR1 := Zh r1
    have HR2 := Zh r2
    have HR5 := Zh r5
    clear hv hrow hvz hB r1 r2 r5
    gi_wp2
    rename_i Q9 K9 hK9
    refine zod (S := fun _ => True) (by kernel_rfl) (fun ⟨_, _, h⟩ => by have := And.left h; cases this) rfl ?_
    change wpAnyH _ _ _ _ _ _ _ _ (World.drew W)
    refine tk 1 (.slice a2 P.length c2) trivial ?_
    refine tk 2 (.int .i64 P.length) trivial ?_
    refine za8 (i := 0) (j := 3) (by kernel_rfl) ?_ ?_
    ·skip
     refine zam (v := v) (w' := World.drew W) rfl (by kernel_rfl) (by have d0 : (World.drew W).cell? ⟨w3.heap.size, 0, none⟩ = some v := c0; go_simp) ⟨trivial, ?_⟩
     refine zaf (i := 3) (by kernel_rfl) (zbo (f := 83) (args := #[.int .i64 P.length]) rfl (by kernel_rfl) (by kernel_rfl) (zpe (P.length : Int) _) ?_)
     rintro e w6 ⟨pv, rfl, hpo, hb6⟩
     obtain ⟨pa, pc, rfl, pr, pn, pq⟩ := J.part_of hpo (fun c hc => zn4 hc)
     refine ⟨_, rfl, trivial, ?_⟩
     have hW6 : Below W.heap.size W w6 := (zaa W).trans hb6
     have hv6 : Boxed w6 w3.heap.size 51 v := (hW6.block _ hM).trans HV.out
     have hrow6 := zab HRW.out hW6
     have hs6 := hW6.size
     refine zaf (i := 4) (by kernel_rfl) (zn1 rfl (by kernel_rfl) _ _ 51 (by rfl) (w3.heap.size + 2) 5 i0 (.int .u8 0) 1 Tryz.underlying51 hi hz0 hz1 hz2 rfl v (J.bs pre).length ((J.bs pre).map (Value.int .u8)) (by kernel_rfl) hrow6 .u8 pa (M.put (P.length : Int)).length pc (M.put (P.length : Int)) (by kernel_rfl) pr rfl pn (by unfold maxLen; omega) (by omega) (by omega) ?_)
     intro v7 w7 hown7 hgrow7 hat7
     refine ⟨trivial, ?_⟩
     have hE := J.app_step hv6 hrow6 HVZ.out hz (Nat.lt_of_lt_of_le r4 hs6) (HBB.out.trans (hW6.mono (Nat.le_of_lt hM))) hown7 hgrow7 hat7
     have hP7 := J.part_step (v' := v7) (HR1.out.below hW6) (fun q hq => ⟨(HR5.out q hq).1, (HR5.out q hq).2 v HV.out⟩) hgrow7
     have x0 : Boxed w7 w3.heap.size 51 v := hv6.kept hgrow7 (fun e => by have := (hrow6.lt _ e.symm).1; omega)
     refine zaf (i := 5) (by kernel_rfl) (zah (w' := w7.setCell ⟨w3.heap.size, 0, none⟩ v7) rfl (by kernel_rfl) (by have d0 := x0.cell; have f0 := x0.frozen; obtain ⟨_, _, rfl⟩ := zm9 hown7; go_simp) ⟨trivial, ?_⟩)
     refine wpAnyH_done (by kernel_rfl) ?_ _
     obtain ⟨w8, hw8⟩ : ∃ V, w7.setCell ⟨w3.heap.size, 0, none⟩ v7 = V := ⟨_, rfl⟩
     rw [hw8] at hE hP7
     rw [hw8]
     have H67 := Zh hW6
     clear hw8 hown7 hgrow7 hat7 x0 hv6 hrow6 pr pn pq hpo hb6 hW6 hs6
     obtain ⟨k1, k2, ⟨hv8, hrow8, hvz8⟩, hb8⟩ := hE
     have hz8 : z < w8.heap.size := Nat.lt_of_lt_of_le r4 (Nat.le_trans H67.out.size k2.1.size)
     have d0 : w8.cell? ⟨w3.heap.size, 0, none⟩ = some v7 := hv8.cell
     have HE8 := Zh (And.intro (And.intro k1 k2) (And.intro (And.intro hv8 hrow8) (And.intro hvz8 hb8)))
     have HP8 := Zh hP7
     clear k1 k2 hv8 hrow8 hvz8 hb8 hP7
     show K9 _ _
     simp only [List.getElem_toArray, List.getElem_cons_succ, List.getElem_cons_zero, zc7, ztx, List.setIfInBounds_toArray, List.set_cons_succ, List.set_cons_zero]
     refine hK9 _ _ ?_
     refine znl (fun ⟨_, _, h⟩ => by have := And.left h; cases this) rfl ?_
     go_wp2_with (at_builtin; refine znp rfl _ _ 51 rfl (w3.heap.size + 2) 5 i0 (.int .u8 0) 1 Tryz.underlying51 hi hz0 hz1 hz2 rfl v7 (J.bs pre ++ M.put (P.length : Int)).length ((J.bs pre ++ M.put (P.length : Int)).map (Value.int .u8)) rfl HE8.out.2.1.2 .u8 a2 P.length c2 P rfl HP8.out rfl HR2.out (by unfold maxLen; simp; omega) (by simp; omega) (by omega) ?_; intro v9 w9 hown9 hgrow9 hat9; have x9 : Boxed w9 w3.heap.size 51 v7 := HE8.out.2.1.1.kept hgrow9 (fun e => by have := (HE8.out.2.1.2.lt _ e.symm).1; omega); have d9 := x9.cell; have f9 := x9.frozen; have HF9 := Zh (J.app_step HE8.out.2.1.1 HE8.out.2.1.2 HE8.out.2.2.1 hz hz8 HE8.out.2.2.2 hown9 hgrow9 hat9); obtain ⟨a9, c9, rfl⟩ := zm9 hown9; clear x9 hown9 hgrow9 hat9)
     have hF := HF9.out
     rw [show (J.bs pre ++ M.put (P.length : Int)).length = (J.bs pre).length + (M.put (P.length : Int)).length from List.length_append] at hF
     obtain ⟨q1, q2, ⟨q3, q4, q5⟩, q6⟩ := hF
     refine ⟨(((KeepsOthers.of_grownBy (J.below_grownN H67.out) (fun j o e => by cases e)).trans HE8.out.1.1).trans q1).from _, J.KpT.t (J.KpT.t ⟨H67.out.mono (Nat.le_of_lt hM), H67.out.block _ (by omega), fun cs t f hc => (H67.out.block z r4).trans hc⟩ HE8.out.1.2) q2, ⟨_, q3, ?_, q5⟩, ⟨hz, ?_⟩, q6⟩
     ·rw [J.bs_snoc, <- List.append_assoc]
      exact q4
     ·rw [J.bs_snoc]
      simp only [List.length_append, List.length_cons, List.length_nil]
      omega
    ·skip
     refine zbo (f := 83) (args := #[.int .i64 P.length]) rfl (by kernel_rfl) (by kernel_rfl) (zpe (P.length : Int) _) ?_
     rintro e w6 ⟨pv, rfl, hpo, hb6⟩
     obtain ⟨pa, pc, rfl, pr, pn, pq⟩ := J.part_of hpo (fun c hc => zn4 hc)
     refine ⟨_, rfl, trivial, ?_⟩
     have hW6 : Below W.heap.size W w6 := (zaa W).trans hb6
     have hv6 : Boxed w6 w3.heap.size 51 v := (hW6.block _ hM).trans HV.out
     have hrow6 := zab HRW.out hW6
     have hs6 := hW6.size
     refine zaf (i := 0) (by kernel_rfl) (zam (v := v) (w' := w6) rfl (by kernel_rfl) (by have d0 := hv6.cell; go_simp) ⟨trivial, ?_⟩)
     refine zaf (i := 4) (by kernel_rfl) (zn1 rfl (by kernel_rfl) _ _ 51 (by rfl) (w3.heap.size + 2) 5 i0 (.int .u8 0) 1 Tryz.underlying51 hi hz0 hz1 hz2 rfl v (J.bs pre).length ((J.bs pre).map (Value.int .u8)) (by kernel_rfl) hrow6 .u8 pa (M.put (P.length : Int)).length pc (M.put (P.length : Int)) (by kernel_rfl) pr rfl pn (by unfold maxLen; omega) (by omega) (by omega) ?_)
     intro v7 w7 hown7 hgrow7 hat7
     refine ⟨trivial, ?_⟩
     have hE := J.app_step hv6 hrow6 HVZ.out hz (Nat.lt_of_lt_of_le r4 hs6) (HBB.out.trans (hW6.mono (Nat.le_of_lt hM))) hown7 hgrow7 hat7
     have hP7 := J.part_step (v' := v7) (HR1.out.below hW6) (fun q hq => ⟨(HR5.out q hq).1, (HR5.out q hq).2 v HV.out⟩) hgrow7
     have x0 : Boxed w7 w3.heap.size 51 v := hv6.kept hgrow7 (fun e => by have := (hrow6.lt _ e.symm).1; omega)
     refine zaf (i := 5) (by kernel_rfl) (zah (w' := w7.setCell ⟨w3.heap.size, 0, none⟩ v7) rfl (by kernel_rfl) (by have d0 := x0.cell; have f0 := x0.frozen; obtain ⟨_, _, rfl⟩ := zm9 hown7; go_simp) ⟨trivial, ?_⟩)
     refine wpAnyH_done (by kernel_rfl) ?_ _
     obtain ⟨w8, hw8⟩ : ∃ V, w7.setCell ⟨w3.heap.size, 0, none⟩ v7 = V := ⟨_, rfl⟩
     rw [hw8] at hE hP7
     rw [hw8]
     have H67 := Zh hW6
     clear hw8 hown7 hgrow7 hat7 x0 hv6 hrow6 pr pn pq hpo hb6 hW6 hs6
     obtain ⟨k1, k2, ⟨hv8, hrow8, hvz8⟩, hb8⟩ := hE
     have hz8 : z < w8.heap.size := Nat.lt_of_lt_of_le r4 (Nat.le_trans H67.out.size k2.1.size)
     have d0 : w8.cell? ⟨w3.heap.size, 0, none⟩ = some v7 := hv8.cell
     have HE8 := Zh (And.intro (And.intro k1 k2) (And.intro (And.intro hv8 hrow8) (And.intro hvz8 hb8)))
     have HP8 := Zh hP7
     clear k1 k2 hv8 hrow8 hvz8 hb8 hP7
     show K9 _ _
     simp only [List.getElem_toArray, List.getElem_cons_succ, List.getElem_cons_zero, zc7, ztx, List.setIfInBounds_toArray, List.set_cons_succ, List.set_cons_zero]
     refine hK9 _ _ ?_
     refine znl (fun ⟨_, _, h⟩ => by have := And.left h; cases this) rfl ?_
     go_wp2_with (at_builtin; refine znp rfl _ _ 51 rfl (w3.heap.size + 2) 5 i0 (.int .u8 0) 1 Tryz.underlying51 hi hz0 hz1 hz2 rfl v7 (J.bs pre ++ M.put (P.length : Int)).length ((J.bs pre ++ M.put (P.length : Int)).map (Value.int .u8)) rfl HE8.out.2.1.2 .u8 a2 P.length c2 P rfl HP8.out rfl HR2.out (by unfold maxLen; simp; omega) (by simp; omega) (by omega) ?_; intro v9 w9 hown9 hgrow9 hat9; have x9 : Boxed w9 w3.heap.size 51 v7 := HE8.out.2.1.1.kept hgrow9 (fun e => by have := (HE8.out.2.1.2.lt _ e.symm).1; omega); have d9 := x9.cell; have f9 := x9.frozen; have HF9 := Zh (J.app_step HE8.out.2.1.1 HE8.out.2.1.2 HE8.out.2.2.1 hz hz8 HE8.out.2.2.2 hown9 hgrow9 hat9); obtain ⟨a9, c9, rfl⟩ := zm9 hown9; clear x9 hown9 hgrow9 hat9)
     have hF := HF9.out
     rw [show (J.bs pre ++ M.put (P.length : Int)).length = (J.bs pre).length + (M.put (P.length : Int)).length from List.length_append] at hF
     obtain ⟨q1, q2, ⟨q3, q4, q5⟩, q6⟩ := hF
     refine ⟨(((KeepsOthers.of_grownBy (J.below_grownN H67.out) (fun j o e => by cases e)).trans HE8.out.1.1).trans q1).from _, J.KpT.t (J.KpT.t ⟨H67.out.mono (Nat.le_of_lt hM), H67.out.block _ (by omega), fun cs t f hc => (H67.out.block z r4).trans hc⟩ HE8.out.1.2) q2, ⟨_, q3, ?_, q5⟩, ⟨hz, ?_⟩, q6⟩
     ·rw [J.bs_snoc, <- List.append_assoc]
      exact q4
     ·rw [J.bs_snoc]
      simp only [List.length_append, List.length_cons, List.length_nil]
      omega
   case done =>
    rintro z D ys W hD hS ⟨⟨v, hv, hrow, hvz⟩, hz, hB⟩ hK
    have c0 : W.cell? ⟨w3.heap.size, 0, none⟩ = some v := hv.cell
    have hbs : J.bs ys = J.bytes s := by unfold J.bs J.bytes; rw [<- hS, List.flatMap_map]
    rw [hbs] at hrow
    obtain ⟨a1, c1, rfl⟩ := zm9 hrow
    have HRo := Zh hrow
    have HBB := Zh hB
    clear hv hrow hvz hB
    gi_wp2
    refine ⟨by simp, .inl ⟨_, _, rfl, run_takeDeferred hK, ?_⟩⟩
    refine ⟨_, results_tmp2 rfl _ _ _, ?_⟩
    have q1 := ownsRow_putObj HRo.out (.deferred none) hK rfl
    obtain ⟨a2, c2, e2, q2, qn, _⟩ := J.part_of q1 (J.bytes_byte s)
    cases e2
    exact ⟨a1, c1, by rw [J.put_yes HK.out]; rfl, by rw [J.put_yes HK.out]; exact Zh q2, HX3.out.trans ((HBB.out.trans (belowK_b (w := w3) (Nat.le_refl _) W D _ _ (by omega) hK rfl rfl)).mono HX3.out.size), by rw [J.put_yes HK.out]; exact qn⟩
theorem zn9 (s : Y.St) (A : Y.A9) (w : World) (h : Y.SIn w A s) (hf : Y.Fits A s) : Calls Tryz.prog 38 #[Y.val s A] w fun e w' => ∃ a c, e = .returned (.tuple #[.slice a ((J.put s).getD []).length c, .bool (J.put s).isSome]) /\ Hid (zfv .u8 w' a c ((J.put s).getD [])) /\ Below w.heap.size w w' /\ (a = none -> ((J.put s).getD []).length = 0 /\ c = 0) :=
 (callsIn_wide (n := 5)).1 (ztq 5 (by omega) s A w h hf)
end Go.Proofs.YtnbkkjcmblfhpaaGreat
