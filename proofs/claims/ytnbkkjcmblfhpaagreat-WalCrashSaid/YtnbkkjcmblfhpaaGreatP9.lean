import Derived.Deep.RegionWith
import Derived.Shelf.Spec.SlicesInsertGrow
import Derived.Test.YtnbkkjcmblfhpaaGreatProg
import Derived.Test.YtnbkkjcmblfhpaaGreatP1
namespace Go.Proofs.YtnbkkjcmblfhpaaGreat
set_option maxHeartbeats 1000000
set_option maxRecDepth 100000
open Go.RowKit Go.Shelf
attribute [local go_sem] Oper.semAt_some
theorem KpL.book {H X : Nat} {w : World} (hH : H <= w.heap.size) (W : World) (l : Nat) (o o' : Obj) (hl : w.heap.size <= l) (hW : W.heap[l]? = some o) : KpL H X W (W.putObj l o') :=
 ⟨(Below.refl _ W).grown (grownBy_putObj' W l o') (Nat.zero_le _) (fun k e => Nat.zero_le _), fun i hi hx => (grownBy_putObj' W l o').block _ (by have := (Array.getElem?_eq_some_iff.1 hW).1; omega) (fun e => by cases e; omega)⟩
def L.hd {m : Nat} (ys : List (Fin m)) (d : Int) : Int := match ys with | [] => d | k :: _ => (k.val : Int)
theorem zdm.on {F : FuncId} {lb : Array Value} {H X m : Nat} {ys : List (Fin m)} {w w' : World} (h : zdm F lb H X m ys w) (hb : Below w.heap.size w w') : zdm F lb H X m ys w' :=
 fun n hn l J Jx W hW => h n hn l J Jx W (hb.trans (hW.mono hb.size))
theorem zid (n : Nat) (hn : 6 <= n) (F : FuncId) (hE : Enters Tryz.prog F) (lb : Array Value) (H X m : Nat) (ys : List (Fin m)) (d : Int) (w : World) (hG : zdm F lb H X m ys w) (hH : H <= w.heap.size) :
  CallsIn Fence.wide n Tryz.prog 260 #[.func (.func F) #[] lb, .int .i64 d] w fun e w' => e = .returned (.int .i64 (L.hd ys d)) /\ Below w.heap.size w w' := by
 have h1 : 1 <= n := by omega
 have hro : Fence.wide.round = none := rfl
 have hf1 : Fence.wide.fn 260 := trivial
 have hfF : Fence.wide.fn F := trivial
 refine callsIn_of_wp_marks Tryz.func260 rfl hf1 ?_ hro
 simp only [Tryz.ntmps260, List.size_toArray, List.length_cons, List.length_nil, Nat.reduceAdd, Nat.reduceSub, Array.replicate_succ, Array.replicate_zero, List.push_toArray, List.append_toArray, List.nil_append, List.cons_append]
 gi_wp2_with fail
 obtain ⟨w5, hw5⟩ : ∃ w5, w.alloc (.cells #[.int .i64 0] 3) = w5 := ⟨_, rfl⟩
 have hb : Below w.heap.size w w5 := by rw [<- hw5]; exact (Below.refl _ w).alloc (Nat.le_refl _) _
 have hsz : w5.heap.size = w.heap.size + 1 := by rw [<- hw5]; simp
 have b1 : Boxed w5 w.heap.size 3 (.int .i64 0) := by rw [<- hw5]; exact Boxed.new w 3 (.int .i64 0)
 rw [hw5]
 clear hw5
 refine wpIn_rangeFunc_ownG hro h1 (gf := F) (lb := lb) rfl hfF hE
  ((hG.on hb) (n - 1) (by omega)) KpL.t (fun W l o o' hl hW _ _ => KpL.book (w := w5) (by omega) W l o o' hl hW) (Below.refl _ _) (fun _ => rfl)
  (fun pre W => pre = [] /\ Boxed W w.heap.size 3 (.int .i64 0) /\ Below w.heap.size w W)
  (fun c pre W => c = .ret /\ (∃ x, pre = [x]) /\ Boxed W w.heap.size 3 (.int .i64 (L.hd pre d)) /\ Below w.heap.size w W)
  (OwnFrom.and (ownFrom_pure _ _) (OwnFrom.and (Own.from (boxed_own _ _ (fun _ => .int .i64 0)) _) (ownFrom_below (Nat.le_refl _) (by omega))))
  (fun c => OwnFrom.and (ownFrom_pure _ _) (OwnFrom.and (ownFrom_pure _ _) (OwnFrom.and (Own.from (boxed_own _ _ (fun pre => .int .i64 (L.hd pre d))) _) (ownFrom_below (Nat.le_refl _) (by omega)))))
  ⟨rfl, b1, hb⟩
  (fun x => { tmps := #[.func (.func F) #[] lb, .int .i64 d, undef, undef, .pointer (some ⟨w.heap.size, 0, none⟩), .int .i64 (x.val : Int), .func (.func F) #[] lb, .int .i64 (x.val : Int), undef, undef], defers := [] }) ?assign ?body ?done ?stop
 case assign =>
  intro l x W K hK
  gi_wp2
  exact hK
 case body =>
  rintro l pre x W ⟨rfl, hbx, hB⟩ hlt
  have c1 := hbx.cell
  have f1 := hbx.frozen
  have HX := Zh hbx
  have HB := Zh hB
  clear hbx hB hlt b1
  gi_wp2
  refine ⟨(KeepsOthers.setCell _ _ _).from _, rfl, ⟨x, rfl⟩, HX.out.set _, HB.out.setCell (p := ⟨w.heap.size, 0, none⟩) (Nat.le_refl _) _⟩
 case done =>
  rintro D ys' W hD rfl ⟨hne, hbx, hB⟩ hK
  subst hne
  have c1 := hbx.cell
  have f1 := hbx.frozen
  have HX := Zh hbx
  clear hbx b1
  gi_wp2
  have hK' := (KeepsOthers.setCell W ⟨w.heap.size, 0, none⟩ (.int .i64 d)).same D _ hK rfl
  refine ⟨by simp, .inl ⟨_, _, rfl, run_takeDeferred hK', ?_⟩⟩
  have d1 := (cell_kept (HX.out.set (.int .i64 d)).cell (grownBy_putObj' _ D (.deferred none)) (fun r e => by cases e; exact ⟨_, hK', rfl⟩))
  refine ⟨.int .i64 d, ?_, ?_⟩
  ·simp [results, Tryz.f260, go_sem, d1]
  ·exact ⟨rfl, (hB.setCell (p := ⟨w.heap.size, 0, none⟩) (Nat.le_refl _) _).trans (belowK_b (w := w) (Nat.le_refl _) _ D _ _ (by omega) hK' rfl rfl)⟩
 case stop =>
  rintro D c pre W hD hP ⟨rfl, ⟨x, rfl⟩, b1, hB⟩ hK
  have HN : Hid (L.hd ys d = (x.val : Int)) := Zh (by
   obtain ⟨t, rfl⟩ := hP; rfl)
  have b1' : Boxed W w.heap.size 3 (.int .i64 (x.val : Int)) := b1
  gi_wp2
  refine ⟨by simp, .inl ⟨_, _, rfl, run_takeDeferred hK, ?_⟩⟩
  have c1 := (cell_kept b1'.cell (grownBy_putObj' _ D (.deferred none)) (fun r e => by cases e; exact ⟨_, hK, rfl⟩))
  refine ⟨.int .i64 (x.val : Int), ?_, ?_⟩
  ·simp [results, Tryz.f260, go_sem, c1]
  ·exact ⟨by rw [HN.out], hB.trans (belowK_b (w := w) (Nat.le_refl _) W D _ _ (by omega) hK rfl rfl)⟩
theorem L.hd_pl {α : Type} (p : α -> Bool) (l : List α) (d : Int) : L.hd (L.pl p l) d = L.at1 p l d := by
 cases h : L.pl p l with
 | nil => rw [L.at1_none (L.pl_nil h)]; rfl
 | cons k t => rw [L.at1_some (L.pl_head (i := k) (by rw [h]; exact ⟨t, rfl⟩))]; rfl
theorem zcz (F : FuncId) (hE : Enters Tryz.prog F) (lb : Array Value) (H X m : Nat) (ys : List (Fin m)) (d r : Int) (w : World) (hG : zdm F lb H X m ys w) (hH : H <= w.heap.size) (hr : L.hd ys d = r) :
  Calls Tryz.prog 260 #[.func (.func F) #[] lb, .int .i64 d] w fun e w' => e = .returned (.int .i64 r) /\ Below w.heap.size w w' := by
 subst hr; exact (callsIn_wide (n := 6)).1 (zid 6 (by omega) F hE lb H X m ys d w hG hH)
open Go.RowKit Go.Shelf
attribute [local go_sem] Oper.semAt_some
theorem zeo {W w1 : World} {N B k : Nat} {v : Value} {xs : List Value} {tmp : Obj} {t : TypeId} {u : Value} (hrow : W.ownsRow N 135 3 v k xs) (hgrow : (W.alloc tmp).drew.grownBy w1 v.ownBlock) (hb : Boxed W B t u) (hB : B < N) : Boxed w1 B t u :=
 ((hb.alloc tmp).kept (W' := (W.alloc tmp).drew) (row := none) (L.below_none (zaa _)) (by simp)).kept hgrow (fun e => by have := (hrow.lt _ e.symm).1; omega)
open Go.RowKit Go.Shelf
attribute [local go_sem] Oper.semAt_some
theorem zgt {W w1 : World} {N B k : Nat} {v : Value} {xs : List Value} {tmp : Obj} {t : TypeId} {u : Value} (hrow : W.ownsRow N 3 1 v k xs) (hgrow : (W.alloc tmp).grownBy w1 v.ownBlock) (hb : Boxed W B t u) (hB : B < N) : Boxed w1 B t u :=
 (hb.alloc tmp).kept hgrow (fun e => by have := (hrow.lt _ e.symm).1; omega)
theorem zlj {N H X k : Nat} {W w1 : World} {v v' : Value} {xs ys : List Value} {j : Nat} {tmp : Obj} (hv : Boxed W X 74 v) (hrow : W.ownsRow H 3 1 v k xs) (hX : X < H) (hN : N <= X) (hH : H <= W.heap.size)
  (hown' : w1.ownsRow H 3 1 v' j ys) (hgrow : (W.alloc tmp).grownBy w1 v.ownBlock) :
  KeepsOthers W (w1.setCell ⟨X, 0, none⟩ v') /\ KpL H X W (w1.setCell ⟨X, 0, none⟩ v') /\ Boxed (w1.setCell ⟨X, 0, none⟩ v') X 74 v' /\ (w1.setCell ⟨X, 0, none⟩ v').ownsRow H 3 1 v' j ys /\ Below N W (w1.setCell ⟨X, 0, none⟩ v') := by
 have x0 := zgt hrow hgrow hv hX
 have hbH : Below H W w1 := ((Below.refl H W).alloc hH tmp).grown hgrow (by simp; omega) (fun k e => (hrow.lt _ e).1)
 have hbel : Below N W (w1.setCell ⟨X, 0, none⟩ v') := (hbH.mono (by omega)).setCell (p := ⟨X, 0, none⟩) hN v'
 refine ⟨?_, ⟨hbel.mono (Nat.zero_le _), fun i hi hx => ?_⟩, x0.set v', ?_, hbel⟩
 ·refine ((KeepsOthers.alloc W tmp).trans (KeepsOthers.of_grownBy hgrow fun j o ej hj => ?_)).trans (KeepsOthers.setCell _ _ _)
  rcases (hrow.alloc tmp).2 with ⟨rfl, _⟩ | ⟨g, cap, cur, rfl, _, hgb, _⟩
  ·simp [Value.ownBlock] at ej
  ·obtain rfl : g = j := by simpa [Value.ownBlock] using ej
   rw [hgb] at hj; cases hj; rfl
 ·exact (Below.heap_setCell w1 ⟨X, 0, none⟩ v' i hx).trans (hbH.block i hi)
 ·exact hown'.kept (grownBy_setCell' w1 X v') (.inr (by intro e; have := (hown'.lt _ e).1; omega))
theorem ztt (n : Nat) (hn : 6 <= n) (a : Option Addr) (m c : Nat) (l : List L.Ls) (sub : Int) (w : World) (h : RIn w a m c l) (hm : m <= 1000) :
  CallsIn Fence.wide n Tryz.prog 258 #[.slice a m c, .int .i64 sub] w fun e w' => ∃ v, e = .returned v /\ w'.ownsRow w.heap.size 3 1 v (L.of l sub).length ((L.of l sub).map (Value.int .i64)) /\ Below w.heap.size w w' := by
 have h1 : 1 <= n := by omega
 have hro : Fence.wide.round = none := rfl
 have hf1 : Fence.wide.fn 258 := trivial
 have hf2 : Fence.wide.fn 262 := trivial
 have hf3 : Fence.wide.fn 261 := trivial
 have hf4 : Fence.wide.fn 299 := trivial
 obtain ⟨i0, hi, hz0, hz1, hz2⟩ := info_parts zl3
 obtain ⟨W0, hW0⟩ : ∃ W, (w.alloc (.cells #[.int .i64 sub] 3)).alloc (.cells #[.slice none 0 0] 74) = W := ⟨_, rfl⟩
 have B0 : Below w.heap.size w W0 := by rw [<- hW0]; exact ((Below.refl _ w).alloc (Nat.le_refl _) _).alloc (by simp) _
 have s0 : W0.heap.size = w.heap.size + 2 := by rw [<- hW0]; simp
 have K0 : Blok W0 w.heap.size 3 #[.int .i64 sub] := by rw [<- hW0]; exact (Blok.new w 3 #[.int .i64 sub]).alloc _
 have b0 : Boxed W0 (w.heap.size + 1) 74 (.slice none 0 0) := by
  rw [<- hW0]; have := Boxed.new (w.alloc (.cells #[.int .i64 sub] 3)) 74 (.slice none 0 0)
  rwa [World.size_alloc] at this
 have cl := zco a m c l W0 (h.below B0) hm
 have hl1 : l.length = m := h.1
 refine callsIn_of_wp_marks Tryz.func258 rfl hf1 ?_ hro
 simp only [Tryz.ntmps258, List.size_toArray, List.length_cons, List.length_nil, Nat.reduceAdd, Nat.reduceSub, Array.replicate_succ, Array.replicate_zero, List.push_toArray, List.append_toArray, List.nil_append, List.cons_append]
 gi_wp2_with fail
 refine (callsIn_wide.2 cl).mono ?_
 rintro e w2 ⟨a2, c2, rfl, hr2, hb2, hfar2⟩
 have B2 : Below w.heap.size w w2 := B0.trans (hb2.mono B0.size)
 have K2 : Blok w2 w.heap.size 3 #[.int .i64 sub] := K0.below hb2 K0.lt
 have b2 : Boxed w2 (w.heap.size + 1) 74 (.slice none 0 0) := b0.kept (L.below_none hb2) (by simp)
 have s2 : W0.heap.size <= w2.heap.size := hb2.size
 have hA := of1 w.heap.size sub w2 K2 w2.heap.size (w.heap.size + 1) K2.lt (by omega)
 have cp := zgd (w.heap.size + 1) a2 m c2 (l.map L.had) 296 (enters_of Tryz.func296 (by kernel_rfl) rfl) #[.pointer (some ⟨w.heap.size, 0, none⟩)] _ w2 hr2.out hA ⟨by omega, by omega⟩ (.inr fun x hx => by have := hfar2.out x hx; omega)
 clear cl hW0 b0 K0
 gi_wp2_with fail
 refine (callsIn_wide.2 cp).mono ?_
 rintro e w5 ⟨bl, rfl, hG, hb5, hs5⟩
 have hb : Below w.heap.size w w5 := B2.trans (hb5.mono B2.size)
 have b1 : Boxed w5 (w.heap.size + 1) 74 (.slice none 0 0) := b2.kept (L.below_none hb5) (by simp)
 rw [<- hs5] at hG
 have hlen : (l.map L.had).length = m := by rw [List.length_map]; exact hl1
 clear cp hA b2 K2
 gi_wp2_with fail
 refine wpIn_rangeFunc_ownG hro h1 (gf := 299) (lb := bl) rfl hf4 (enters_of Tryz.func299 (by kernel_rfl) rfl)
  (hG (n - 1) (by omega)) KpL.t (fun W l o o' hl hW _ _ => KpL.book (w := w5) (Nat.le_refl _) W l o o' hl hW) (Below.refl _ _) (fun _ => rfl)
  (fun pre W => (∃ v, Boxed W (w.heap.size + 1) 74 v /\ W.ownsRow w5.heap.size 3 1 v pre.length (pre.map (fun x => Value.int .i64 (x.val : Int))) /\ True) /\ pre.length <= m + 1 /\ Below w.heap.size w W /\ w5.heap.size <= W.heap.size)
  (fun c pre W => False)
  (OwnFrom.and (Own.from (holdsRow_own w5.heap.size (w.heap.size + 1) 74 3 1 (fun pre : List (Fin (l.map L.had).length) => pre.length) (fun pre => pre.map (fun x => Value.int .i64 (x.val : Int))) (fun _ _ => True)) _)
   (OwnFrom.and (ownFrom_pure _ (fun pre : List (Fin (l.map L.had).length) => pre.length <= m + 1)) (OwnFrom.and (ownFrom_below (Nat.le_refl _) (by omega)) (fun s W W' row h hg hr => Nat.le_trans h hg.size))))
  (fun c => ownFrom_pure _ _)
  ⟨⟨_, b1, World.ownsRow_nil _ _ _ _, trivial⟩, by simp, hb, Nat.le_refl _⟩
  (fun x => { tmps := #[.slice a m c, .int .i64 sub, undef, .pointer (some ⟨w.heap.size, 0, none⟩), .slice none 0 0, .pointer (some ⟨w.heap.size + 1, 0, none⟩), .int .i64 (x.val : Int), .slice a m c, .slice a2 m c2, .func (.func 296) #[] #[.pointer (some ⟨w.heap.size, 0, none⟩)], .func (.func 299) #[] bl, .int .i64 (x.val : Int), undef, undef, undef, undef, undef], defers := [] }) ?assign ?body ?done ?stop
 case assign =>
  intro l x W K hK
  gi_wp2
  exact hK
 case body =>
  rintro r pre x W ⟨⟨v, hv, hrow, -⟩, h9, hB, hsW⟩ hlt
  have c1 := hv.cell
  have f1 := hv.frozen
  have HV := Zh hv
  have HB := Zh hB
  clear hv hB b1 hb
  gi_wp2_with (gi_at_builtin; refine wpListIn_append_own _ rfl _ _ 74 rfl w5.heap.size 3 i0 (.int .i64 0) 1 8 Tryz.underlying74 hi hz0 hz1 hz2 rfl (by decide) v pre.length _ rfl (hrow.alloc _) ⟨W.heap.size, 0, none⟩ 1 1 [.int .i64 (x.val : Int)] rfl rfl (cell_one_new _ _ _) (by simp [Value.oneCell']) (by unfold maxLen; omega) (by omega) (by simp; omega) ?_; intro v' w1 hown' hgrow _; obtain ⟨g', cap', rfl⟩ := ownsRow_succ hown'; have x2 := zgt hrow hgrow HV.out (by omega); have d2 : w1.cell? ⟨w.heap.size + 1, 0, none⟩ = some _ := x2.cell; have f2 : w1.frozen? ⟨w.heap.size + 1, 0, none⟩ = false := x2.frozen; clear x2)
  have hE := zlj (N := w.heap.size) HV.out hrow (by omega) (by omega) hsW hown' hgrow
  refine ⟨hE.1.from _, hE.2.1, ⟨_, hE.2.2.1, ?_, trivial⟩, by simp; omega, HB.out.trans hE.2.2.2.2, Nat.le_trans hsW hE.2.1.1.size⟩
  rw [List.length_append, List.map_append]
  simpa using hE.2.2.2.1
 case done =>
  rintro D ys' W hD rfl ⟨⟨v, hv, hrow, -⟩, h9, hB, hsW⟩ hK
  have c1 := hv.cell
  have f1 := hv.frozen
  clear hv b1
  gi_wp2
  refine ⟨by simp, .inl ⟨_, _, rfl, run_takeDeferred hK, ?_⟩⟩
  refine ⟨v, ?_, ?_⟩
  ·simp [results, Tryz.f258, go_sem]
  ·refine ⟨v, rfl, ?_, hB.trans (belowK_b (w := w) (Nat.le_refl _) W D _ _ (by omega) hK rfl rfl)⟩
   have := zan (ownsRow_putObj hrow (.deferred none) hK rfl) (show w.heap.size <= w5.heap.size from hb.size)
   unfold L.of
   rw [List.length_map, List.map_map]
   exact this
 case stop =>
  rintro D c pre W hD hP h hK
  exact h.elim
theorem L.of_wf (l : List L.Ls) (s : Int) (hl : l.length <= 1000) : ∀ x ∈ L.of l s, (Lit.int .i64 x).wf = true := by
 intro x hx
 unfold L.of at hx
 obtain ⟨i, _, rfl⟩ := List.mem_map.1 hx
 have := i.2
 have h2 : (l.map L.had).length = l.length := List.length_map _
 simp [Lit.wf, IntKind.min, IntKind.max, IntKind.bits, IntKind.signed]; omega
theorem zcp (a : Option Addr) (m c : Nat) (l : List L.Ls) (sub : Int) (k : List Int) (hk : L.of l sub = k) (w : World) (h : RIn w a m c l) (hm : m <= 1000) :
  Calls Tryz.prog 258 #[.slice a m c, .int .i64 sub] w fun e w' => ∃ a2 c2 n2, e = .returned (.slice a2 n2 c2) /\ Hid (k.length = n2) /\ Hid (zfv .i64 w' a2 c2 k) /\ Below w.heap.size w w' :=
 ((callsIn_wide (n := 6)).1 (ztt 6 (by omega) a m c l sub w h hm)).mono fun e w' ⟨v, he, ho, hb⟩ => by
  rw [hk] at ho
  obtain ⟨a2, c2, rfl, _, hr⟩ := zex ho (by rw [<- hk]; exact L.of_wf l sub (by rw [h.1]; exact hm))
  exact ⟨a2, c2, _, he, rfl, hr, hb⟩
open Go.RowKit
theorem zep : Enters Tryz.prog 299 := enters_of Tryz.func299 (by kernel_rfl) rfl
theorem zni (a : Option Addr) (n c : Nat) (l : List L.Ls) (at' blk r : Int) (hr : L.find l at' blk = r) (w : World) (h : RIn w a n c l) (hn : n <= 1000) :
  Calls Tryz.prog 213 #[.slice a n c, .int .i64 at', .int .i64 blk] w fun e w' => e = .returned (.int .i64 r) /\ Below w.heap.size w w' := by
 obtain ⟨W0, hW0⟩ : ∃ W, w.alloc (.cells #[.int .i64 at', .int .i64 blk] 183) = W := ⟨_, rfl⟩
 have B0 : Below w.heap.size w W0 := by rw [<- hW0]; exact (Below.refl _ w).alloc (Nat.le_refl _) _
 have K0 : Blok W0 w.heap.size 183 #[.int .i64 at', .int .i64 blk] := by rw [<- hW0]; exact Blok.new w _ _
 have cl := zco a n c l W0 (h.below B0) hn
 have HR := Zh hr
 clear h hr
 go_enter Tryz.func213, Tryz.ntmps213
 go_wp2_with fail
 refine cl.mono ?_
 rintro e w2 ⟨a2, c2, rfl, hr2, hb2, -⟩
 have HB2 := Zh (B0.trans (hb2.mono B0.size))
 have K2 : Blok w2 w.heap.size 183 #[.int .i64 at', .int .i64 blk] := K0.below hb2 K0.lt
 have cp := zgd (w2.heap.size + 2) a2 n c2 (l.map L.had) 263 (enters_of Tryz.func263 (by kernel_rfl) rfl) #[.pointer (some ⟨w.heap.size, 0, none⟩)] _ w2 hr2.out (zmw w.heap.size at' blk w2 K2 w2.heap.size (w2.heap.size + 2) K2.lt (by have := K2.lt; omega)) ⟨by omega, by omega⟩ (hr2.out.off (by omega))
 clear cl hW0 B0 K0 hb2 K2
 go_wp2_with fail
 refine cp.mono ?_
 rintro e w3 ⟨bl, rfl, hG, hb3, hs3⟩
 have HB3 := Zt HB2 hb3
 have cf := zcz 299 zep bl _ _ _ _ (-1) r w3 hG (by omega) (by rw [L.hd_pl]; exact HR.out)
 clear cp hG hb3
 go_wp2_with fail
 refine cf.mono ?_
 rintro e w4 ⟨rfl, hb4⟩
 have HB4 := Zt HB3 hb4
 clear cf hb4
 go_wp2
 go_ret
 exact ⟨rfl, HB4.out⟩
open Go.RowKit
end Go.Proofs.YtnbkkjcmblfhpaaGreat
namespace Go.Proofs.YtnbkkjcmblfhpaaGreat
open Go.RowKit Go.Shelf Go.Lib
open Go.RowKit Go.Shelf Go.Lib
open Go.RowKit Go.Shelf Go.Lib
end Go.Proofs.YtnbkkjcmblfhpaaGreat
namespace Go.Proofs.YtnbkkjcmblfhpaaGreat
theorem L.same_step {α : Type} {l k : List α} {i : Nat} {x : α} (hx : l[i]? = some x) (hy : k[i]? = some x) (h : l.take i = k.take i) : l.take (i + 1) = k.take (i + 1) := by
 obtain ⟨h0, h1⟩ := List.getElem?_eq_some_iff.1 hx
 obtain ⟨h2, h3⟩ := List.getElem?_eq_some_iff.1 hy
 rw [List.take_succ_eq_append_getElem h0, List.take_succ_eq_append_getElem h2, h, h1, h3]
theorem L.same_bad {α : Type} [DecidableEq α] {l k : List α} {i : Nat} {x y : α} (hx : l[i]? = some x) (hy : k[i]? = some y) (h : ¬ x = y) : decide (l = k) = false := by
 refine decide_eq_false fun e => h ?_
 rw [e, hy] at hx; exact (Option.some.inj hx).symm
end Go.Proofs.YtnbkkjcmblfhpaaGreat
namespace Go.Proofs.YtnbkkjcmblfhpaaGreat
set_option maxHeartbeats 800000
set_option maxRecDepth 100000
open Go.RowKit
open Go.RowKit
open Go.RowKit
theorem zhc (a a' : Option Addr) (n m c c' : Nat) (l k : List L.Ls) (w : World) (h : RIn w a n c l) (h' : RIn w a' m c' k) (hn : n <= 1000000) (p : Bool) (hp : decide (l = k) = p) :
  Calls Tryz.prog 146 #[.slice a n c, .slice a' m c'] w fun e w' => e = .returned (.bool p) /\ Below w.heap.size w w' := by
 by_cases hnm : n = m
 ·subst hnm
  have HT := Zh h
  have HK := Zh h'
  have HP := Zh hp
  have dn : ((n : Int) != n) = false := by simp
  clear h h' hp
  go_enter Tryz.func146, Tryz.ntmps146
  go_wp2_with fail
  go_loopw [13] (fun i wr => ∃ k' : Nat, i = .int .i64 k' /\ k' <= n /\ Hid (l.take k' = k.take k') /\ Hid (Below w.heap.size w wr)) (fun i _ => n - (intOf i).toNat)
  case atStart => exact ⟨0, rfl, by omega, Zh (by simp), Zh (Below.refl _ _)⟩
  case round =>
   obtain ⟨i, rfl, hin, HA, HB⟩ := hrel
   by_cases hlt : i < n
   ·have d1 : decide ((i : Int) < n) = true := by simp; omega
    obtain ⟨b, off, x, rfl, hb, hx, p0, p1, p2, p3, p4⟩ := (HT.out.below HB.out).at5 hlt
    obtain ⟨b2, off2, y, rfl, hb2, hy, q0, q1, q2, q3, q4⟩ := (HK.out.below HB.out).at5 hlt
    have k0 : (0 : Int) <= i := by omega
    have k1 : (i : Int) < n := by omega
    have HX := Zh hx
    have HY := Zh hy
    clear hx hy
    by_cases hxy : x = y
    ·subst hxy
     have HE := Zh (L.same_step HX.out HY.out HA.out)
     go_wp2_with fail
     go_quiet (fail)
     go_wp2
     go_roundw
     case rel => exact ⟨i + 1, by go_num, by omega, HE, Zh (HB.out.trans (zad _ _ _))⟩
     case measure => simp [intOf] <;> omega
    ·have HE : Hid (p = false) := Zh (by rw [<- HP.out]; exact L.same_bad HX.out HY.out hxy)
     obtain ⟨x0, x1, x2, x3, x4⟩ := x
     obtain ⟨y0, y1, y2, y3, y4⟩ := y
     by_cases h0 : x0 = y0
     ·subst h0
      by_cases h1 : x1 = y1
      ·subst h1
       by_cases h2 : x2 = y2
       ·subst h2
        by_cases h3 : x3 = y3
        ·subst h3
         have h4 : ¬ x4 = y4 := fun e => hxy (by rw [e])
         have g4 : (x4 == y4) = false := by simpa using h4
         go_wp2_with fail
         go_quiet (fail)
         go_wp2
         go_ret
         exact ⟨by rw [HE.out]; rfl, HB.out.trans (zad _ _ _)⟩
        ·go_wp2_with fail
         go_quiet (fail)
         go_wp2
         go_ret
         exact ⟨by rw [HE.out]; rfl, HB.out.trans (zad _ _ _)⟩
       ·go_wp2_with fail
        go_quiet (fail)
        go_wp2
        go_ret
        exact ⟨by rw [HE.out]; rfl, HB.out.trans (zad _ _ _)⟩
      ·go_wp2_with fail
       go_quiet (fail)
       go_wp2
       go_ret
       exact ⟨by rw [HE.out]; rfl, HB.out.trans (zad _ _ _)⟩
     ·go_wp2_with fail
      go_quiet (fail)
      go_wp2
      go_ret
      exact ⟨by rw [HE.out]; rfl, HB.out.trans (zad _ _ _)⟩
   ·have d1 : decide ((i : Int) < n) = false := by simp; omega
    have HE : Hid (p = true) := Zh (by
     have h1 := HA.out
     rw [List.take_of_length_le (by rw [HT.out.1]; omega), List.take_of_length_le (by rw [HK.out.1]; omega)] at h1
     rw [<- HP.out]; exact decide_eq_true h1)
    go_wp2
    go_ret
    exact ⟨by rw [HE.out]; rfl, HB.out⟩
 ·have HE : Hid (p = false) := Zh (by
   rw [<- hp]
   refine decide_eq_false fun e => hnm ?_
   rw [<- h.1, <- h'.1, e])
  have dn : ((n : Int) != m) = true := by simp; omega
  clear h h' hp hnm
  go_enter Tryz.func146, Tryz.ntmps146
  go_wp2
  go_ret
  exact ⟨by rw [HE.out]; rfl, Below.refl _ _⟩
theorem zhd (a a' : Option Addr) (n m c c' : Nat) (l k : List L.T3) (w : World) (h : RIn w a n c l) (h' : RIn w a' m c' k) (hn : n <= 1000000) (p : Bool) (hp : decide (l = k) = p) :
  Calls Tryz.prog 147 #[.slice a n c, .slice a' m c'] w fun e w' => e = .returned (.bool p) /\ Below w.heap.size w w' := by
 by_cases hnm : n = m
 ·subst hnm
  have HT := Zh h
  have HK := Zh h'
  have HP := Zh hp
  have dn : ((n : Int) != n) = false := by simp
  clear h h' hp
  go_enter Tryz.func147, Tryz.ntmps147
  go_wp2_with fail
  go_loopw [13] (fun i wr => ∃ k' : Nat, i = .int .i64 k' /\ k' <= n /\ Hid (l.take k' = k.take k') /\ Hid (Below w.heap.size w wr)) (fun i _ => n - (intOf i).toNat)
  case atStart => exact ⟨0, rfl, by omega, Zh (by simp), Zh (Below.refl _ _)⟩
  case round =>
   obtain ⟨i, rfl, hin, HA, HB⟩ := hrel
   by_cases hlt : i < n
   ·have d1 : decide ((i : Int) < n) = true := by simp; omega
    obtain ⟨b, off, x, rfl, hb, hx, p0, p1, p2⟩ := (HT.out.below HB.out).at3 hlt
    obtain ⟨b2, off2, y, rfl, hb2, hy, q0, q1, q2⟩ := (HK.out.below HB.out).at3 hlt
    have k0 : (0 : Int) <= i := by omega
    have k1 : (i : Int) < n := by omega
    have HX := Zh hx
    have HY := Zh hy
    clear hx hy
    by_cases hxy : x = y
    ·subst hxy
     have HE := Zh (L.same_step HX.out HY.out HA.out)
     go_wp2_with fail
     go_quiet (fail)
     go_wp2
     go_roundw
     case rel => exact ⟨i + 1, by go_num, by omega, HE, Zh (HB.out.trans (zad _ _ _))⟩
     case measure => simp [intOf] <;> omega
    ·have HE : Hid (p = false) := Zh (by rw [<- HP.out]; exact L.same_bad HX.out HY.out hxy)
     obtain ⟨x0, x1, x2⟩ := x
     obtain ⟨y0, y1, y2⟩ := y
     by_cases h0 : x0 = y0
     ·subst h0
      by_cases h1 : x1 = y1
      ·subst h1
       have h2 : ¬ x2 = y2 := fun e => hxy (by rw [e])
       have g2 : (x2 == y2) = false := by simpa using h2
       go_wp2_with fail
       go_quiet (fail)
       go_wp2
       go_ret
       exact ⟨by rw [HE.out]; rfl, HB.out.trans (zad _ _ _)⟩
      ·go_wp2_with fail
       go_quiet (fail)
       go_wp2
       go_ret
       exact ⟨by rw [HE.out]; rfl, HB.out.trans (zad _ _ _)⟩
     ·go_wp2_with fail
      go_quiet (fail)
      go_wp2
      go_ret
      exact ⟨by rw [HE.out]; rfl, HB.out.trans (zad _ _ _)⟩
   ·have d1 : decide ((i : Int) < n) = false := by simp; omega
    have HE : Hid (p = true) := Zh (by
     have h1 := HA.out
     rw [List.take_of_length_le (by rw [HT.out.1]; omega), List.take_of_length_le (by rw [HK.out.1]; omega)] at h1
     rw [<- HP.out]; exact decide_eq_true h1)
    go_wp2
    go_ret
    exact ⟨by rw [HE.out]; rfl, HB.out⟩
 ·have HE : Hid (p = false) := Zh (by
   rw [<- hp]
   refine decide_eq_false fun e => hnm ?_
   rw [<- h.1, <- h'.1, e])
  have dn : ((n : Int) != m) = true := by simp; omega
  clear h h' hp hnm
  go_enter Tryz.func147, Tryz.ntmps147
  go_wp2
  go_ret
  exact ⟨by rw [HE.out]; rfl, Below.refl _ _⟩
theorem zgv (a a' : Option Addr) (n m c c' : Nat) (l k : List L.Ls) (w : World) (h : RIn w a n c l) (h' : RIn w a' m c' k) (hn : n <= 1000000) (p : Bool) (hp : decide (l = k) = p) :
  Calls Tryz.prog 70 #[.slice a n c, .slice a' m c'] w fun e w' => e = .returned (.bool p) /\ Below w.heap.size w w' := by
 have c1 := zhc a a' n m c c' l k w h h' hn p hp
 clear h h' hp
 go_enter Tryz.func70, Tryz.ntmps70
 go_wp2_with fail
 refine c1.mono ?_
 rintro e w2 ⟨rfl, hb2⟩
 go_wp2
 go_ret
 exact ⟨rfl, hb2⟩
theorem ze9 (a a' : Option Addr) (n m c c' : Nat) (l k : List L.T3) (w : World) (h : RIn w a n c l) (h' : RIn w a' m c' k) (hn : n <= 1000000) (p : Bool) (hp : decide (l = k) = p) :
  Calls Tryz.prog 71 #[.slice a n c, .slice a' m c'] w fun e w' => e = .returned (.bool p) /\ Below w.heap.size w w' := by
 have c1 := zhd a a' n m c c' l k w h h' hn p hp
 clear h h' hp
 go_enter Tryz.func71, Tryz.ntmps71
 go_wp2_with fail
 refine c1.mono ?_
 rintro e w2 ⟨rfl, hb2⟩
 go_wp2
 go_ret
 exact ⟨rfl, hb2⟩
end Go.Proofs.YtnbkkjcmblfhpaaGreat
