import Derived.Deep.RegionWith
import Derived.Test.YtijkbflimbffmaaGreatP1
namespace Go.Proofs.YtijkbflimbffmaaGreat
set_option maxHeartbeats 1000000
set_option maxRecDepth 100000
open Go.RowKit Go.Shelf
attribute [local go_sem] Oper.semAt_some
theorem KpL.book {H X : Nat} {w : World} (hH : H <= w.heap.size) (W : World) (l : Nat) (o o' : Obj) (hl : w.heap.size <= l) (hW : W.heap[l]? = some o) : KpL H X W (W.putObj l o') :=
 ⟨(Below.refl _ W).grown (grownBy_putObj' W l o') (Nat.zero_le _) (fun k e => Nat.zero_le _), fun i hi hx => (grownBy_putObj' W l o').block _ (by have := (Array.getElem?_eq_some_iff.1 hW).1; omega) (fun e => by cases e; omega)⟩
def L.hd {m : Nat} (ys : List (Fin m)) (d : Int) : Int := match ys with | [] => d | k :: _ => (k.val : Int)
theorem zdm.on {F : FuncId} {lb : Array Value} {H X m : Nat} {ys : List (Fin m)} {w w' : World} (h : zdm F lb H X m ys w) (hb : Below w.heap.size w w') : zdm F lb H X m ys w' :=
 fun n hn l J Jx W hW => h n hn l J Jx W (hb.trans (hW.mono hb.size))
theorem zid (n : Nat) (hn : 6 <= n) (F : FuncId) (hE : Enters Tryz.prog F) (lb : Array Value) (H X m : Nat) (ys : List (Fin m)) (d : Int) (w : World) (hG : zdm F lb H X m ys w) (hH : H <= w.heap.size) :
  CallsIn Fence.wide n Tryz.prog 204 #[.func (.func F) #[] lb, .int .i64 d] w fun e w' => e = .returned (.int .i64 (L.hd ys d)) /\ Below w.heap.size w w' := by
 have h1 : 1 <= n := by omega
 have hro : Fence.wide.round = none := rfl
 have hf1 : Fence.wide.fn 204 := trivial
 have hfF : Fence.wide.fn F := trivial
 refine callsIn_of_wp_marks Tryz.func204 rfl hf1 ?_ hro
 simp only [Tryz.ntmps204, List.size_toArray, List.length_cons, List.length_nil, Nat.reduceAdd, Nat.reduceSub, Array.replicate_succ, Array.replicate_zero, List.push_toArray, List.append_toArray, List.nil_append, List.cons_append]
 gi_wp2_with fail
 obtain ⟨w5, hw5⟩ : ∃ w5, w.alloc (.cells #[.int .i64 0] 3) = w5 := ⟨_, rfl⟩
 have hb : Below w.heap.size w w5 := by rw [<- hw5]; exact (Below.refl _ w).alloc (Nat.le_refl _) _
 have hsz : w5.heap.size = w.heap.size + 1 := by rw [<- hw5]; simp
 have b1 : Boxed w5 w.heap.size 3 (.int .i64 0) := by rw [<- hw5]; exact Boxed.new w 3 (.int .i64 0)
 rw [hw5]
 clear hw5
 refine wpIn_rangeFunc_ownG hro h1 (gf := F) (lb := lb) rfl hfF hE
  ((hG.on hb) (n - 1) (by omega)) KpL.t (fun W l o o' hl hW _ _ => KpL.book (w := w5) (by omega) W l o o' hl hW) (Below.refl _ _) (fun _ => rfl)
  (fun pre W => pre = [] /\ Boxed W w.heap.size 3 (.int .i64 0) /\ Below w.heap.size w W)
  (fun c pre W => c = .ret /\ (∃ x, pre = [x]) /\ Boxed W w.heap.size 3 (.int .i64 (L.hd pre d)) /\ Below w.heap.size w W)
  (OwnFrom.and (ownFrom_pure _ _) (OwnFrom.and (Own.from (boxed_own _ _ (fun _ => .int .i64 0)) _) (ownFrom_below (Nat.le_refl _) (by omega))))
  (fun c => OwnFrom.and (ownFrom_pure _ _) (OwnFrom.and (ownFrom_pure _ _) (OwnFrom.and (Own.from (boxed_own _ _ (fun pre => .int .i64 (L.hd pre d))) _) (ownFrom_below (Nat.le_refl _) (by omega)))))
  ⟨rfl, b1, hb⟩
  (fun x => { tmps := #[.func (.func F) #[] lb, .int .i64 d, undef, undef, .pointer (some ⟨w.heap.size, 0, none⟩), .int .i64 (x.val : Int), .func (.func F) #[] lb, .int .i64 (x.val : Int), undef, undef], defers := [] }) ?assign ?body ?done ?stop
 case assign =>
  intro l x W K hK
  gi_wp2
  exact hK
 case body =>
  rintro l pre x W ⟨rfl, hbx, hB⟩ hlt
  have c1 := hbx.cell
  have f1 := hbx.frozen
  have HX := Zh hbx
  have HB := Zh hB
  clear hbx hB hlt b1
  gi_wp2
  refine ⟨(KeepsOthers.setCell _ _ _).from _, rfl, ⟨x, rfl⟩, HX.out.set _, HB.out.setCell (p := ⟨w.heap.size, 0, none⟩) (Nat.le_refl _) _⟩
 case done =>
  rintro D ys' W hD rfl ⟨hne, hbx, hB⟩ hK
  subst hne
  have c1 := hbx.cell
  have f1 := hbx.frozen
  have HX := Zh hbx
  clear hbx b1
  gi_wp2
  have hK' := (KeepsOthers.setCell W ⟨w.heap.size, 0, none⟩ (.int .i64 d)).same D _ hK rfl
  refine ⟨by simp, .inl ⟨_, _, rfl, run_takeDeferred hK', ?_⟩⟩
  have d1 := (cell_kept (HX.out.set (.int .i64 d)).cell (grownBy_putObj' _ D (.deferred none)) (fun r e => by cases e; exact ⟨_, hK', rfl⟩))
  refine ⟨.int .i64 d, ?_, ?_⟩
  ·simp [results, Tryz.f204, go_sem, d1]
  ·exact ⟨rfl, (hB.setCell (p := ⟨w.heap.size, 0, none⟩) (Nat.le_refl _) _).trans (belowK_b (w := w) (Nat.le_refl _) _ D _ _ (by omega) hK' rfl rfl)⟩
 case stop =>
  rintro D c pre W hD hP ⟨rfl, ⟨x, rfl⟩, b1, hB⟩ hK
  have HN : Hid (L.hd ys d = (x.val : Int)) := Zh (by
   obtain ⟨t, rfl⟩ := hP; rfl)
  have b1' : Boxed W w.heap.size 3 (.int .i64 (x.val : Int)) := b1
  gi_wp2
  refine ⟨by simp, .inl ⟨_, _, rfl, run_takeDeferred hK, ?_⟩⟩
  have c1 := (cell_kept b1'.cell (grownBy_putObj' _ D (.deferred none)) (fun r e => by cases e; exact ⟨_, hK, rfl⟩))
  refine ⟨.int .i64 (x.val : Int), ?_, ?_⟩
  ·simp [results, Tryz.f204, go_sem, c1]
  ·exact ⟨by rw [HN.out], hB.trans (belowK_b (w := w) (Nat.le_refl _) W D _ _ (by omega) hK rfl rfl)⟩
theorem L.hd_pl {α : Type} (p : α -> Bool) (l : List α) (d : Int) : L.hd (L.pl p l) d = L.at1 p l d := by
 cases h : L.pl p l with
 | nil => rw [L.at1_none (L.pl_nil h)]; rfl
 | cons k t => rw [L.at1_some (L.pl_head (i := k) (by rw [h]; exact ⟨t, rfl⟩))]; rfl
theorem zcz (F : FuncId) (hE : Enters Tryz.prog F) (lb : Array Value) (H X m : Nat) (ys : List (Fin m)) (d r : Int) (w : World) (hG : zdm F lb H X m ys w) (hH : H <= w.heap.size) (hr : L.hd ys d = r) :
  Calls Tryz.prog 204 #[.func (.func F) #[] lb, .int .i64 d] w fun e w' => e = .returned (.int .i64 r) /\ Below w.heap.size w w' := by
 subst hr; exact (callsIn_wide (n := 6)).1 (zid 6 (by omega) F hE lb H X m ys d w hG hH)
open Go.RowKit Go.Shelf
attribute [local go_sem] Oper.semAt_some
def L.picks {α : Type} (l : List α) (ys : List (Fin l.length)) : List α := ys.map fun i => l[i]
theorem L.picks_snoc {α : Type} (l : List α) (ys : List (Fin l.length)) (k : Fin l.length) : L.picks l (ys ++ [k]) = L.picks l ys ++ [l[k]] := by simp [L.picks]
theorem L.picks_len {α : Type} (l : List α) (ys : List (Fin l.length)) : (L.picks l ys).length = ys.length := by simp [L.picks]
theorem zec {α : Type} [L.Rec α] {F : Fence} {n : Nat} {w : World} {ops : Array Oper} {o : Oper} {a : Act} {K : Act -> World -> Prop} {Q : Exit -> Act -> World -> Prop} {E : Prop} (hgd : o.guard = none) (s x : Operand) (ts t : TypeId)
  (ho : o.op = .call { callee := .builtin .append, args := #[s, x], argTypes := #[ts, ts] }) (z : Value) (by' : Nat) (hts : Tryz.prog.underlying ts = some (.slice t)) (hp : ∃ i, Tryz.prog.info? t = some i /\ i.zero = some z /\ i.size = L.Rec.k α /\ i.bytes = by') (hz : z.cells.size = L.Rec.k α) (hby : 0 < by' /\ by' <= 40)
  (B : Nat) (v : Value) (p : Nat) (l : List α) (tm : α) (hs : a.eval s = v) (hown : w.ownsRow B t (L.Rec.k α) v p (L.flat l)) (nb : Nat) (t' : TypeId) (hx : a.eval x = .slice (some ⟨nb, 0, none⟩) 1 1) (hb : L.Bx w nb t' tm) (hpn : p <= 10000) (hB : B <= w.heap.size)
  (hK : ∀ g cap w', w'.ownsRow B t (L.Rec.k α) (.slice (some ⟨g, 0, none⟩) (p + 1) cap) (p + 1) (L.flat (l ++ [tm])) -> w.grownBy w' v.ownBlock -> K (a.put o.dst (.slice (some ⟨g, 0, none⟩) (p + 1) cap)) w') :
  if Region.wanted o (yielded ops a.tmps) = true then Oper.wpIn F n Tryz.prog o a w K Q else E := by
 obtain ⟨i0, hi, hz0, hz1, hz2⟩ := hp
 have hk := L.Rec.pos (α := α)
 have hw : Region.wanted o (yielded ops a.tmps) = true := by simp [Region.wanted, hgd]
 rw [if_pos hw]
 obtain ⟨v', w', hrun, r1, r2, r3⟩ := run_append_own (P := Tryz.prog) w B ts o.type t i0 z (L.Rec.k α) by' hts hi hz0 hz1 hz2 hz hk v p (L.flat l) hown ⟨nb, 0, none⟩ 1 1 (L.cells tm) (by rw [L.cells_len, Nat.one_mul]) (L.cell_one hb) (L.cells_one tm) (by unfold maxLen; omega) (by have : (p + 1) * by' <= 10001 * 40 := Nat.mul_le_mul (by omega) hby.2; omega) hB
 have hf : L.flat (l ++ [tm]) = L.flat l ++ L.cells tm := by rw [L.flat_append, L.flat_cons, L.flat_nil, List.append_nil]
 rw [<- hf] at r1
 obtain ⟨g, cap, rfl⟩ : ∃ g cap, v' = .slice (some ⟨g, 0, none⟩) (p + 1) cap := by
  rcases r1.2 with ⟨rfl, h0⟩ | ⟨g, cap, _, rfl, _⟩
  ·omega
  ·exact ⟨g, cap, rfl⟩
 unfold Oper.wpIn
 refine ⟨?_, ?_⟩
 ·simp [Oper.about, ho, resolve, Target.leads, Sem.run_pure]
 ·rw [Oper.semAt_plain F _ _ (by rw [ho]; intro c hc'; cases hc')]
  simp [execOp, ho, resolve, invoke, builtin, hs, hx, hrun, Result.andThen]
  exact hK g cap w' r1 r2
theorem zeo {W w1 : World} {N B k : Nat} {v : Value} {xs : List Value} {tmp : Obj} {t : TypeId} {u : Value} (hrow : W.ownsRow N 77 3 v k xs) (hgrow : (W.alloc tmp).drew.grownBy w1 v.ownBlock) (hb : Boxed W B t u) (hB : B < N) : Boxed w1 B t u :=
 ((hb.alloc tmp).kept (W' := (W.alloc tmp).drew) (row := none) (L.below_none (zaa _)) (by simp)).kept hgrow (fun e => by have := (hrow.lt _ e.symm).1; omega)
theorem zie {N H X k : Nat} {W w1 : World} {v v' sl : Value} {xs ys : List Value} {j : Nat} {tmp : Obj} (hv : Boxed W (N + 1) 30 v) (hrow : W.ownsRow (N + 2) 77 3 v k xs) (hBn : Blok W N 30 #[sl]) (hH : H <= N)
  (hown' : w1.ownsRow (N + 2) 77 3 v' j ys) (hgrow : (W.alloc tmp).drew.grownBy w1 v.ownBlock) :
  KeepsOthers W (w1.setCell ⟨N + 1, 0, none⟩ v') /\ KpL H X W (w1.setCell ⟨N + 1, 0, none⟩ v') /\ Boxed (w1.setCell ⟨N + 1, 0, none⟩ v') (N + 1) 30 v' /\ (w1.setCell ⟨N + 1, 0, none⟩ v').ownsRow (N + 2) 77 3 v' j ys /\ Below N W (w1.setCell ⟨N + 1, 0, none⟩ v') /\ Blok (w1.setCell ⟨N + 1, 0, none⟩ v') N 30 #[sl] := by
 have x0 := zeo hrow hgrow hv (by omega)
 have hws := hBn.lt
 have hwv := hv.lt
 have hbel : Below N W (w1.setCell ⟨N + 1, 0, none⟩ v') :=
  ((((Below.refl N W).alloc (by omega) tmp).drew).grown hgrow (by simp; omega) (fun k e => by have := (hrow.lt _ e).1; omega)).setCell (p := ⟨N + 1, 0, none⟩) (by simp) v'
 have z1 : Blok (w1.setCell ⟨N + 1, 0, none⟩ v') N 30 #[sl] := (((hBn.alloc tmp).drew).grown hgrow (fun e => by have := (hrow.lt _ e.symm).1; omega)).far (by simp) _
 refine ⟨?_, KpL.of_below hbel hH, x0.set v', ?_, hbel, z1⟩
 ·refine (((KeepsOthers.alloc W tmp).trans (KeepsOthers.drew _)).trans (KeepsOthers.of_grownBy hgrow fun j o ej hj => ?_)).trans (KeepsOthers.setCell _ _ _)
  rcases (hrow.alloc tmp).2 with ⟨rfl, _⟩ | ⟨g, cap, cur, rfl, _, hgb, _⟩
  ·simp [Value.ownBlock] at ej
  ·obtain rfl : g = j := by simpa [Value.ownBlock] using ej
   rw [show (W.alloc tmp).drew.heap[g]? = (W.alloc tmp).heap[g]? from rfl, hgb] at hj; cases hj; rfl
 ·exact hown'.kept (grownBy_setCell' w1 (N + 1) v') (.inr (by intro e; have := (hown'.lt _ e).1; omega))
theorem zj5 {F : Fence} {n : Nat} {P : Program} {md : Region.Mode} {ops : Array Oper} {Q : Exit -> Act -> World -> Prop} {as00000000 as10000000 as01000000 as00100000 as11000000 as10100000 as01100000 as11100000 as01110000 as11110000 as01111000 as11111000 as01111100 as11111100 : Act} {ws00000000 ws10000000 ws01000000 ws00100000 ws11000000 ws10100000 ws01100000 ws11100000 ws01110000 ws11110000 ws01111000 ws11111000 ws01111100 ws11111100 : World}
  (rs00000000 : Region.ready md ops #[false, false, false, false, false, false, false, false] = [0, 1, 2])
  (rs10000000 : Region.ready md ops #[true, false, false, false, false, false, false, false] = [1, 2])
  (rs01000000 : Region.ready md ops #[false, true, false, false, false, false, false, false] = [0, 2])
  (rs00100000 : Region.ready md ops #[false, false, true, false, false, false, false, false] = [0, 1])
  (rs11000000 : Region.ready md ops #[true, true, false, false, false, false, false, false] = [2])
  (rs10100000 : Region.ready md ops #[true, false, true, false, false, false, false, false] = [1])
  (rs01100000 : Region.ready md ops #[false, true, true, false, false, false, false, false] = [0, 3])
  (rs11100000 : Region.ready md ops #[true, true, true, false, false, false, false, false] = [3])
  (rs01110000 : Region.ready md ops #[false, true, true, true, false, false, false, false] = [0, 4])
  (rs11110000 : Region.ready md ops #[true, true, true, true, false, false, false, false] = [4])
  (rs01111000 : Region.ready md ops #[false, true, true, true, true, false, false, false] = [0, 5])
  (rs11111000 : Region.ready md ops #[true, true, true, true, true, false, false, false] = [5])
  (rs01111100 : Region.ready md ops #[false, true, true, true, true, true, false, false] = [0])
  (es00000000_0 : ∀ K : Act -> World -> Prop, K as10000000 ws10000000 -> wpOpIn F n P ops Q 0 K as00000000 ws00000000)
  (es00000000_1 : ∀ K : Act -> World -> Prop, K as01000000 ws01000000 -> wpOpIn F n P ops Q 1 K as00000000 ws00000000)
  (es00000000_2 : ∀ K : Act -> World -> Prop, K as00100000 ws00100000 -> wpOpIn F n P ops Q 2 K as00000000 ws00000000)
  (es10000000_1 : ∀ K : Act -> World -> Prop, K as11000000 ws11000000 -> wpOpIn F n P ops Q 1 K as10000000 ws10000000)
  (es10000000_2 : ∀ K : Act -> World -> Prop, K as10100000 ws10100000 -> wpOpIn F n P ops Q 2 K as10000000 ws10000000)
  (es01000000_0 : ∀ K : Act -> World -> Prop, K as11000000 ws11000000 -> wpOpIn F n P ops Q 0 K as01000000 ws01000000)
  (es01000000_2 : ∀ K : Act -> World -> Prop, K as01100000 ws01100000 -> wpOpIn F n P ops Q 2 K as01000000 ws01000000)
  (es00100000_0 : ∀ K : Act -> World -> Prop, K as10100000 ws10100000 -> wpOpIn F n P ops Q 0 K as00100000 ws00100000)
  (es00100000_1 : ∀ K : Act -> World -> Prop, K as01100000 ws01100000 -> wpOpIn F n P ops Q 1 K as00100000 ws00100000)
  (es11000000_2 : ∀ K : Act -> World -> Prop, K as11100000 ws11100000 -> wpOpIn F n P ops Q 2 K as11000000 ws11000000)
  (es10100000_1 : ∀ K : Act -> World -> Prop, K as11100000 ws11100000 -> wpOpIn F n P ops Q 1 K as10100000 ws10100000)
  (es01100000_0 : ∀ K : Act -> World -> Prop, K as11100000 ws11100000 -> wpOpIn F n P ops Q 0 K as01100000 ws01100000)
  (es01100000_3 : ∀ K : Act -> World -> Prop, K as01110000 ws01110000 -> wpOpIn F n P ops Q 3 K as01100000 ws01100000)
  (es11100000_3 : ∀ K : Act -> World -> Prop, K as11110000 ws11110000 -> wpOpIn F n P ops Q 3 K as11100000 ws11100000)
  (es01110000_0 : ∀ K : Act -> World -> Prop, K as11110000 ws11110000 -> wpOpIn F n P ops Q 0 K as01110000 ws01110000)
  (es01110000_4 : ∀ K : Act -> World -> Prop, K as01111000 ws01111000 -> wpOpIn F n P ops Q 4 K as01110000 ws01110000)
  (es11110000_4 : ∀ K : Act -> World -> Prop, K as11111000 ws11111000 -> wpOpIn F n P ops Q 4 K as11110000 ws11110000)
  (es01111000_0 : ∀ K : Act -> World -> Prop, K as11111000 ws11111000 -> wpOpIn F n P ops Q 0 K as01111000 ws01111000)
  (es01111000_5 : ∀ K : Act -> World -> Prop, K as01111100 ws01111100 -> wpOpIn F n P ops Q 5 K as01111000 ws01111000)
  (es11111000_5 : ∀ K : Act -> World -> Prop, K as11111100 ws11111100 -> wpOpIn F n P ops Q 5 K as11111000 ws11111000)
  (es01111100_0 : ∀ K : Act -> World -> Prop, K as11111100 ws11111100 -> wpOpIn F n P ops Q 0 K as01111100 ws01111100)
  (hfin : wpAnyIn F n P md ops Q 2 #[true, true, true, true, true, true, false, false] as11111100 ws11111100) : wpAnyIn F n P md ops Q 8 #[false, false, false, false, false, false, false, false] as00000000 ws00000000 := by
 have hs11111100 := hfin
 have hs01111100 : wpAnyIn F n P md ops Q 3 #[false, true, true, true, true, true, false, false] as01111100 ws01111100 := wpAnyIn_all rs01111100 (by simp) (fun i hi => by
  simp only [List.mem_cons, List.not_mem_nil, or_false] at hi
  subst hi
  exact es01111100_0 _ hs11111100)
 have hs11111000 : wpAnyIn F n P md ops Q 3 #[true, true, true, true, true, false, false, false] as11111000 ws11111000 := wpAnyIn_all rs11111000 (by simp) (fun i hi => by
  simp only [List.mem_cons, List.not_mem_nil, or_false] at hi
  subst hi
  exact es11111000_5 _ hs11111100)
 have hs01111000 : wpAnyIn F n P md ops Q 4 #[false, true, true, true, true, false, false, false] as01111000 ws01111000 := wpAnyIn_all rs01111000 (by simp) (fun i hi => by
  simp only [List.mem_cons, List.not_mem_nil, or_false] at hi
  rcases hi with rfl | rfl
  ·exact es01111000_0 _ hs11111000
  ·exact es01111000_5 _ hs01111100)
 have hs11110000 : wpAnyIn F n P md ops Q 4 #[true, true, true, true, false, false, false, false] as11110000 ws11110000 := wpAnyIn_all rs11110000 (by simp) (fun i hi => by
  simp only [List.mem_cons, List.not_mem_nil, or_false] at hi
  subst hi
  exact es11110000_4 _ hs11111000)
 have hs01110000 : wpAnyIn F n P md ops Q 5 #[false, true, true, true, false, false, false, false] as01110000 ws01110000 := wpAnyIn_all rs01110000 (by simp) (fun i hi => by
  simp only [List.mem_cons, List.not_mem_nil, or_false] at hi
  rcases hi with rfl | rfl
  ·exact es01110000_0 _ hs11110000
  ·exact es01110000_4 _ hs01111000)
 have hs11100000 : wpAnyIn F n P md ops Q 5 #[true, true, true, false, false, false, false, false] as11100000 ws11100000 := wpAnyIn_all rs11100000 (by simp) (fun i hi => by
  simp only [List.mem_cons, List.not_mem_nil, or_false] at hi
  subst hi
  exact es11100000_3 _ hs11110000)
 have hs01100000 : wpAnyIn F n P md ops Q 6 #[false, true, true, false, false, false, false, false] as01100000 ws01100000 := wpAnyIn_all rs01100000 (by simp) (fun i hi => by
  simp only [List.mem_cons, List.not_mem_nil, or_false] at hi
  rcases hi with rfl | rfl
  ·exact es01100000_0 _ hs11100000
  ·exact es01100000_3 _ hs01110000)
 have hs10100000 : wpAnyIn F n P md ops Q 6 #[true, false, true, false, false, false, false, false] as10100000 ws10100000 := wpAnyIn_all rs10100000 (by simp) (fun i hi => by
  simp only [List.mem_cons, List.not_mem_nil, or_false] at hi
  subst hi
  exact es10100000_1 _ hs11100000)
 have hs11000000 : wpAnyIn F n P md ops Q 6 #[true, true, false, false, false, false, false, false] as11000000 ws11000000 := wpAnyIn_all rs11000000 (by simp) (fun i hi => by
  simp only [List.mem_cons, List.not_mem_nil, or_false] at hi
  subst hi
  exact es11000000_2 _ hs11100000)
 have hs00100000 : wpAnyIn F n P md ops Q 7 #[false, false, true, false, false, false, false, false] as00100000 ws00100000 := wpAnyIn_all rs00100000 (by simp) (fun i hi => by
  simp only [List.mem_cons, List.not_mem_nil, or_false] at hi
  rcases hi with rfl | rfl
  ·exact es00100000_0 _ hs10100000
  ·exact es00100000_1 _ hs01100000)
 have hs01000000 : wpAnyIn F n P md ops Q 7 #[false, true, false, false, false, false, false, false] as01000000 ws01000000 := wpAnyIn_all rs01000000 (by simp) (fun i hi => by
  simp only [List.mem_cons, List.not_mem_nil, or_false] at hi
  rcases hi with rfl | rfl
  ·exact es01000000_0 _ hs11000000
  ·exact es01000000_2 _ hs01100000)
 have hs10000000 : wpAnyIn F n P md ops Q 7 #[true, false, false, false, false, false, false, false] as10000000 ws10000000 := wpAnyIn_all rs10000000 (by simp) (fun i hi => by
  simp only [List.mem_cons, List.not_mem_nil, or_false] at hi
  rcases hi with rfl | rfl
  ·exact es10000000_1 _ hs11000000
  ·exact es10000000_2 _ hs10100000)
 have hs00000000 : wpAnyIn F n P md ops Q 8 #[false, false, false, false, false, false, false, false] as00000000 ws00000000 := wpAnyIn_all rs00000000 (by simp) (fun i hi => by
  simp only [List.mem_cons, List.not_mem_nil, or_false] at hi
  rcases hi with rfl | rfl | rfl
  ·exact es00000000_0 _ hs10000000
  ·exact es00000000_1 _ hs01000000
  ·exact es00000000_2 _ hs00100000)
 exact hs00000000
theorem zif (n : Nat) (hn : 6 <= n) (a : Option Addr) (m c : Nat) (l : List L.T3) (F : FuncId) (hE : Enters Tryz.prog F) (lb : Array Value) (H X : Nat) (ys : List (Fin l.length)) (w : World) (h : RIn w a m c l) (hG : zdm F lb H X l.length ys w) (hH : H <= w.heap.size) (hm : m <= 1000) :
  CallsIn Fence.wide n Tryz.prog 74 #[.slice a m c, .func (.func F) #[] lb] w fun e w' => ∃ v, e = .returned v /\ w'.ownsRow w.heap.size 77 3 v ys.length (L.flat (L.picks l ys)) /\ Below w.heap.size w w' := by
 have h1 : 1 <= n := by omega
 have hro : Fence.wide.round = none := rfl
 have hf1 : Fence.wide.fn 74 := trivial
 have hfF : Fence.wide.fn F := trivial
 have HT := Zh h
 obtain ⟨i0, hi, hz0, hz1, hz2⟩ := zbh
 clear h
 refine callsIn_of_wp_marks Tryz.func74 rfl hf1 ?_ hro
 simp only [Tryz.ntmps74, List.size_toArray, List.length_cons, List.length_nil, Nat.reduceAdd, Nat.reduceSub, Array.replicate_succ, Array.replicate_zero, List.push_toArray, List.append_toArray, List.nil_append, List.cons_append]
 gi_wp2_with fail
 obtain ⟨w5, hw5⟩ : ∃ w5, (w.alloc (.cells #[.slice a m c] 30)).alloc (.cells #[.slice none 0 0] 30) = w5 := ⟨_, rfl⟩
 have hb : Below w.heap.size w w5 := by rw [<- hw5]; exact ((Below.refl _ w).alloc (Nat.le_refl _) _).alloc (by simp) _
 have hsz : w5.heap.size = w.heap.size + 2 := by rw [<- hw5]; simp
 have b1 : Boxed w5 (w.heap.size + 1) 30 (.slice none 0 0) := by
  rw [<- hw5]; have := Boxed.new (w.alloc (.cells #[.slice a m c] 30)) 30 (.slice none 0 0)
  rwa [World.size_alloc] at this
 have b2 : Blok w5 w.heap.size 30 #[.slice a m c] := by
  rw [<- hw5]; exact (Blok.new w 30 #[.slice a m c]).alloc _
 rw [hw5]
 clear hw5
 refine wpIn_rangeFunc_ownG hro h1 (gf := F) (lb := lb) rfl hfF hE
  ((hG.on hb) (n - 1) (by omega)) KpL.t (fun W l o o' hl hW _ _ => KpL.book (w := w5) (by omega) W l o o' hl hW) (Below.refl _ _) (fun _ => rfl)
  (fun pre W => (∃ v, Boxed W (w.heap.size + 1) 30 v /\ W.ownsRow (w.heap.size + 2) 77 3 v pre.length (L.flat (L.picks l pre)) /\ True) /\ pre.length <= m + 1 /\ Blok W w.heap.size 30 #[.slice a m c] /\ Below w.heap.size w W)
  (fun c pre W => False)
  (OwnFrom.and (Own.from (holdsRow_own (w.heap.size + 2) (w.heap.size + 1) 30 77 3 (fun pre : List (Fin l.length) => pre.length) (fun pre => L.flat (L.picks l pre)) (fun _ _ => True)) _)
   (OwnFrom.and (ownFrom_pure _ (fun pre : List (Fin l.length) => pre.length <= m + 1)) (OwnFrom.and (fun s W W' row h hg hr => h.grown hg (fun e => by obtain ⟨_, o, ho, hc⟩ := hr _ e.symm; rw [show W.heap[_]? = _ from h] at ho; cases ho; cases hc)) (ownFrom_below (Nat.le_refl _) (by omega)))))
  (fun c => ownFrom_pure _ _)
  ⟨⟨_, b1, World.ownsRow_nil _ _ _ _, trivial⟩, by simp, b2, hb⟩
  (fun x => { tmps := #[.slice a m c, .func (.func F) #[] lb, .pointer (some ⟨w.heap.size, 0, none⟩), undef, .slice none 0 0, .pointer (some ⟨w.heap.size + 1, 0, none⟩), .int .i64 (x.val : Int), .func (.func F) #[] lb, .int .i64 (x.val : Int), undef, undef, undef, undef, undef, undef, undef, undef], defers := [] }) ?assign ?body ?done ?stop
 case assign =>
  intro l x W K hK
  gi_wp2
  exact hK
 case body =>
  rintro r pre x W ⟨⟨v, hv, hrow, -⟩, h9, hbn, hB⟩ hlt
  have c1 := hv.cell
  have f1 := hv.frozen
  have HV := Zh hv
  have HB := Zh hB
  have HN := Zh hbn
  have hws := hbn.lt
  have c2 := Zv hbn 0 (.slice a m c)
  have hxm : x.val < m := by rw [<- HT.out.1]; exact x.2
  obtain ⟨b, off, y, rfl, hbl, hy, p0, p1, p2⟩ := (HT.out.below hB).at3 hxm
  have hye : l[x] = y := (List.getElem?_eq_some_iff.1 hy).2
  have k0 : (0 : Int) <= (x.val : Int) := by omega
  have k1 : (x.val : Int) < m := by omega
  have c3 : ((W.alloc (.cells #[.int .i64 y.a, .int .i64 y.b, .int .i64 y.x] 77))).cell? ⟨w.heap.size + 1, 0, none⟩ = some v := (hv.alloc _).cell
  have HY := Zh hye
  clear hv hbn hB b1 b2 hy hye
  have hmix : Tryz.prog.follows .mixedOrders = true := by kernel_rfl
  gi_wp2_with fail
  refine wpIn_region_any hmix ?_
  change wpAnyIn _ _ _ _ _ _ _ _ _ (World.drew _)
  apply zj5
  case rs00000000 => kernel_rfl
  case rs10000000 => kernel_rfl
  case rs01000000 => kernel_rfl
  case rs00100000 => kernel_rfl
  case rs11000000 => kernel_rfl
  case rs10100000 => kernel_rfl
  case rs01100000 => kernel_rfl
  case rs11100000 => kernel_rfl
  case rs01110000 => kernel_rfl
  case rs11110000 => kernel_rfl
  case rs01111000 => kernel_rfl
  case rs11111000 => kernel_rfl
  case rs01111100 => kernel_rfl
  case es00000000_0 => intro K hK; refine wpOpIn_step rfl (fun K2 hK2 => ?_); go_simp; exact hK2 _ _ hK
  case es00000000_1 => intro K hK; refine wpOpIn_step rfl (fun K2 hK2 => ?_); go_simp; exact hK2 _ _ hK
  case es00000000_2 => intro K hK; refine wpOpIn_step rfl (fun K2 hK2 => ?_); go_simp; exact hK2 _ _ hK
  case es10000000_1 => intro K hK; refine wpOpIn_step rfl (fun K2 hK2 => ?_); go_simp; exact hK2 _ _ hK
  case es10000000_2 => intro K hK; refine wpOpIn_step rfl (fun K2 hK2 => ?_); go_simp; exact hK2 _ _ hK
  case es01000000_0 => intro K hK; refine wpOpIn_step rfl (fun K2 hK2 => ?_); go_simp; exact hK2 _ _ hK
  case es01000000_2 => intro K hK; refine wpOpIn_step rfl (fun K2 hK2 => ?_); go_simp; exact hK2 _ _ hK
  case es00100000_0 => intro K hK; refine wpOpIn_step rfl (fun K2 hK2 => ?_); go_simp; exact hK2 _ _ hK
  case es00100000_1 => intro K hK; refine wpOpIn_step rfl (fun K2 hK2 => ?_); go_simp; exact hK2 _ _ hK
  case es11000000_2 => intro K hK; refine wpOpIn_step rfl (fun K2 hK2 => ?_); go_simp; exact hK2 _ _ hK
  case es10100000_1 => intro K hK; refine wpOpIn_step rfl (fun K2 hK2 => ?_); go_simp; exact hK2 _ _ hK
  case es01100000_0 => intro K hK; refine wpOpIn_step rfl (fun K2 hK2 => ?_); go_simp; exact hK2 _ _ hK
  case es01100000_3 => intro K hK; refine wpOpIn_step rfl (fun K2 hK2 => ?_); go_simp; exact hK2 _ _ hK
  case es11100000_3 => intro K hK; refine wpOpIn_step rfl (fun K2 hK2 => ?_); go_simp; exact hK2 _ _ hK
  case es01110000_0 => intro K hK; refine wpOpIn_step rfl (fun K2 hK2 => ?_); go_simp; exact hK2 _ _ hK
  case es01110000_4 => intro K hK; refine wpOpIn_step rfl (fun K2 hK2 => ?_); go_simp; exact hK2 _ _ hK
  case es11110000_4 => intro K hK; refine wpOpIn_step rfl (fun K2 hK2 => ?_); go_simp; exact hK2 _ _ hK
  case es01111000_0 => intro K hK; refine wpOpIn_step rfl (fun K2 hK2 => ?_); go_simp; exact hK2 _ _ hK
  case es01111000_5 => intro K hK; refine wpOpIn_step rfl (fun K2 hK2 => ?_); go_simp; exact hK2 _ _ hK
  case es11111000_5 => intro K hK; refine wpOpIn_step rfl (fun K2 hK2 => ?_); go_simp; exact hK2 _ _ hK
  case es01111100_0 => intro K hK; refine wpOpIn_step rfl (fun K2 hK2 => ?_); go_simp; exact hK2 _ _ hK
  refine wpAnyIn_all (rs := [6]) (by kernel_rfl) (by simp) (fun i hi => ?_)
  obtain rfl : i = 6 := by simpa using hi
  refine wpOpIn_step rfl (fun K2 hK2 => ?_)
  refine zec (α := L.T3) rfl _ _ _ _ rfl _ 24 Tryz.underlying30 zbh rfl (by decide) (w.heap.size + 2) v pre.length (L.picks l pre) y (by simp [Act.eval]) (zab hrow (((Below.refl _ W).alloc (Nat.le_refl _) _).drew)) W.heap.size 77 (by simp [Act.eval]) (Blok.drew (Blok.new W _ _)) (by omega) (by simp; omega) ?_
  intro g cap w1 hown' hgrow
  refine hK2 _ _ ?_
  have x2 := zeo hrow hgrow HV.out (by omega)
  have d2 : w1.cell? ⟨w.heap.size + 1, 0, none⟩ = some _ := x2.cell
  have f2 : w1.frozen? ⟨w.heap.size + 1, 0, none⟩ = false := x2.frozen
  clear x2 hi
  refine wpAnyIn_all (rs := [7]) (by kernel_rfl) (by simp) (fun i hi => ?_)
  obtain rfl : i = 7 := by simpa using hi
  refine wpOpIn_step rfl (fun K3 hK3 => ?_)
  go_simp
  refine hK3 _ _ ?_
  refine wpAnyIn_done (by kernel_rfl) ?_ _
  have hlm := HT.out.1
  have hE := zie (H := H) (X := X) HV.out hrow HN.out hH hown' hgrow
  refine ⟨hE.1.from _, hE.2.1, ⟨_, hE.2.2.1, ?_, trivial⟩, by simp; omega, hE.2.2.2.2.2, HB.out.trans hE.2.2.2.2.1⟩
  rw [L.picks_snoc, HY.out, List.length_append]
  simpa using hE.2.2.2.1
 case done =>
  rintro D ys' W hD rfl ⟨⟨v, hv, hrow, -⟩, h9, hbn, hB⟩ hK
  have c1 := hv.cell
  have f1 := hv.frozen
  clear hv hbn b1 b2
  gi_wp2
  refine ⟨by simp, .inl ⟨_, _, rfl, run_takeDeferred hK, ?_⟩⟩
  refine ⟨v, ?_, ?_⟩
  ·simp [results, Tryz.f74, go_sem]
  ·exact ⟨v, rfl, zan (ownsRow_putObj hrow (.deferred none) hK rfl) (by omega), hB.trans (belowK_b (w := w) (Nat.le_refl _) W D _ _ (by omega) hK rfl rfl)⟩
 case stop =>
  rintro D c pre W hD hP h hK
  exact h.elim
open Go.RowKit Go.Shelf
attribute [local go_sem] Oper.semAt_some
theorem zgt {W w1 : World} {N B k : Nat} {v : Value} {xs : List Value} {tmp : Obj} {t : TypeId} {u : Value} (hrow : W.ownsRow N 3 1 v k xs) (hgrow : (W.alloc tmp).grownBy w1 v.ownBlock) (hb : Boxed W B t u) (hB : B < N) : Boxed w1 B t u :=
 (hb.alloc tmp).kept hgrow (fun e => by have := (hrow.lt _ e.symm).1; omega)
theorem zlj {N H X k : Nat} {W w1 : World} {v v' : Value} {xs ys : List Value} {j : Nat} {tmp : Obj} (hv : Boxed W X 75 v) (hrow : W.ownsRow H 3 1 v k xs) (hX : X < H) (hN : N <= X) (hH : H <= W.heap.size)
  (hown' : w1.ownsRow H 3 1 v' j ys) (hgrow : (W.alloc tmp).grownBy w1 v.ownBlock) :
  KeepsOthers W (w1.setCell ⟨X, 0, none⟩ v') /\ KpL H X W (w1.setCell ⟨X, 0, none⟩ v') /\ Boxed (w1.setCell ⟨X, 0, none⟩ v') X 75 v' /\ (w1.setCell ⟨X, 0, none⟩ v').ownsRow H 3 1 v' j ys /\ Below N W (w1.setCell ⟨X, 0, none⟩ v') := by
 have x0 := zgt hrow hgrow hv hX
 have hbH : Below H W w1 := ((Below.refl H W).alloc hH tmp).grown hgrow (by simp; omega) (fun k e => (hrow.lt _ e).1)
 have hbel : Below N W (w1.setCell ⟨X, 0, none⟩ v') := (hbH.mono (by omega)).setCell (p := ⟨X, 0, none⟩) hN v'
 refine ⟨?_, ⟨hbel.mono (Nat.zero_le _), fun i hi hx => ?_⟩, x0.set v', ?_, hbel⟩
 ·refine ((KeepsOthers.alloc W tmp).trans (KeepsOthers.of_grownBy hgrow fun j o ej hj => ?_)).trans (KeepsOthers.setCell _ _ _)
  rcases (hrow.alloc tmp).2 with ⟨rfl, _⟩ | ⟨g, cap, cur, rfl, _, hgb, _⟩
  ·simp [Value.ownBlock] at ej
  ·obtain rfl : g = j := by simpa [Value.ownBlock] using ej
   rw [hgb] at hj; cases hj; rfl
 ·exact (Below.heap_setCell w1 ⟨X, 0, none⟩ v' i hx).trans (hbH.block i hi)
 ·exact hown'.kept (grownBy_setCell' w1 X v') (.inr (by intro e; have := (hown'.lt _ e).1; omega))
theorem ztt (n : Nat) (hn : 6 <= n) (a : Option Addr) (m c : Nat) (l : List L.Ls) (sub : Int) (w : World) (h : RIn w a m c l) (hm : m <= 1000) :
  CallsIn Fence.wide n Tryz.prog 202 #[.slice a m c, .int .i64 sub] w fun e w' => ∃ v, e = .returned v /\ w'.ownsRow w.heap.size 3 1 v (L.of l sub).length ((L.of l sub).map (Value.int .i64)) /\ Below w.heap.size w w' := by
 have h1 : 1 <= n := by omega
 have hro : Fence.wide.round = none := rfl
 have hf1 : Fence.wide.fn 202 := trivial
 have hf2 : Fence.wide.fn 206 := trivial
 have hf3 : Fence.wide.fn 205 := trivial
 have hf4 : Fence.wide.fn 245 := trivial
 obtain ⟨i0, hi, hz0, hz1, hz2⟩ := info_parts zl3
 obtain ⟨W0, hW0⟩ : ∃ W, (w.alloc (.cells #[.int .i64 sub] 3)).alloc (.cells #[.slice none 0 0] 75) = W := ⟨_, rfl⟩
 have B0 : Below w.heap.size w W0 := by rw [<- hW0]; exact ((Below.refl _ w).alloc (Nat.le_refl _) _).alloc (by simp) _
 have s0 : W0.heap.size = w.heap.size + 2 := by rw [<- hW0]; simp
 have K0 : Blok W0 w.heap.size 3 #[.int .i64 sub] := by rw [<- hW0]; exact (Blok.new w 3 #[.int .i64 sub]).alloc _
 have b0 : Boxed W0 (w.heap.size + 1) 75 (.slice none 0 0) := by
  rw [<- hW0]; have := Boxed.new (w.alloc (.cells #[.int .i64 sub] 3)) 75 (.slice none 0 0)
  rwa [World.size_alloc] at this
 have cl := zco a m c l W0 (h.below B0) hm
 have hl1 : l.length = m := h.1
 refine callsIn_of_wp_marks Tryz.func202 rfl hf1 ?_ hro
 simp only [Tryz.ntmps202, List.size_toArray, List.length_cons, List.length_nil, Nat.reduceAdd, Nat.reduceSub, Array.replicate_succ, Array.replicate_zero, List.push_toArray, List.append_toArray, List.nil_append, List.cons_append]
 gi_wp2_with fail
 refine (callsIn_wide.2 cl).mono ?_
 rintro e w2 ⟨a2, c2, rfl, hr2, hb2, hfar2⟩
 have B2 : Below w.heap.size w w2 := B0.trans (hb2.mono B0.size)
 have K2 : Blok w2 w.heap.size 3 #[.int .i64 sub] := K0.below hb2 K0.lt
 have b2 : Boxed w2 (w.heap.size + 1) 75 (.slice none 0 0) := b0.kept (L.below_none hb2) (by simp)
 have s2 : W0.heap.size <= w2.heap.size := hb2.size
 have hA := of1 w.heap.size sub w2 K2 w2.heap.size (w.heap.size + 1) K2.lt (by omega)
 have cp := zgd (w.heap.size + 1) a2 m c2 (l.map L.had) 242 (enters_of Tryz.func242 (by kernel_rfl) rfl) #[.pointer (some ⟨w.heap.size, 0, none⟩)] _ w2 hr2.out hA ⟨by omega, by omega⟩ (.inr fun x hx => by have := hfar2.out x hx; omega)
 clear cl hW0 b0 K0
 gi_wp2_with fail
 refine (callsIn_wide.2 cp).mono ?_
 rintro e w5 ⟨bl, rfl, hG, hb5, hs5⟩
 have hb : Below w.heap.size w w5 := B2.trans (hb5.mono B2.size)
 have b1 : Boxed w5 (w.heap.size + 1) 75 (.slice none 0 0) := b2.kept (L.below_none hb5) (by simp)
 rw [<- hs5] at hG
 have hlen : (l.map L.had).length = m := by rw [List.length_map]; exact hl1
 clear cp hA b2 K2
 gi_wp2_with fail
 refine wpIn_rangeFunc_ownG hro h1 (gf := 245) (lb := bl) rfl hf4 (enters_of Tryz.func245 (by kernel_rfl) rfl)
  (hG (n - 1) (by omega)) KpL.t (fun W l o o' hl hW _ _ => KpL.book (w := w5) (Nat.le_refl _) W l o o' hl hW) (Below.refl _ _) (fun _ => rfl)
  (fun pre W => (∃ v, Boxed W (w.heap.size + 1) 75 v /\ W.ownsRow w5.heap.size 3 1 v pre.length (pre.map (fun x => Value.int .i64 (x.val : Int))) /\ True) /\ pre.length <= m + 1 /\ Below w.heap.size w W /\ w5.heap.size <= W.heap.size)
  (fun c pre W => False)
  (OwnFrom.and (Own.from (holdsRow_own w5.heap.size (w.heap.size + 1) 75 3 1 (fun pre : List (Fin (l.map L.had).length) => pre.length) (fun pre => pre.map (fun x => Value.int .i64 (x.val : Int))) (fun _ _ => True)) _)
   (OwnFrom.and (ownFrom_pure _ (fun pre : List (Fin (l.map L.had).length) => pre.length <= m + 1)) (OwnFrom.and (ownFrom_below (Nat.le_refl _) (by omega)) (fun s W W' row h hg hr => Nat.le_trans h hg.size))))
  (fun c => ownFrom_pure _ _)
  ⟨⟨_, b1, World.ownsRow_nil _ _ _ _, trivial⟩, by simp, hb, Nat.le_refl _⟩
  (fun x => { tmps := #[.slice a m c, .int .i64 sub, undef, .pointer (some ⟨w.heap.size, 0, none⟩), .slice none 0 0, .pointer (some ⟨w.heap.size + 1, 0, none⟩), .int .i64 (x.val : Int), .slice a m c, .slice a2 m c2, .func (.func 242) #[] #[.pointer (some ⟨w.heap.size, 0, none⟩)], .func (.func 245) #[] bl, .int .i64 (x.val : Int), undef, undef, undef, undef, undef], defers := [] }) ?assign ?body ?done ?stop
 case assign =>
  intro l x W K hK
  gi_wp2
  exact hK
 case body =>
  rintro r pre x W ⟨⟨v, hv, hrow, -⟩, h9, hB, hsW⟩ hlt
  have c1 := hv.cell
  have f1 := hv.frozen
  have HV := Zh hv
  have HB := Zh hB
  clear hv hB b1 hb
  gi_wp2_with (gi_at_builtin; refine wpListIn_append_own _ rfl _ _ 75 rfl w5.heap.size 3 i0 (.int .i64 0) 1 8 Tryz.underlying75 hi hz0 hz1 hz2 rfl (by decide) v pre.length _ rfl (hrow.alloc _) ⟨W.heap.size, 0, none⟩ 1 1 [.int .i64 (x.val : Int)] rfl rfl (cell_one_new _ _ _) (by simp [Value.oneCell']) (by unfold maxLen; omega) (by omega) (by simp; omega) ?_; intro v' w1 hown' hgrow _; obtain ⟨g', cap', rfl⟩ := ownsRow_succ hown'; have x2 := zgt hrow hgrow HV.out (by omega); have d2 : w1.cell? ⟨w.heap.size + 1, 0, none⟩ = some _ := x2.cell; have f2 : w1.frozen? ⟨w.heap.size + 1, 0, none⟩ = false := x2.frozen; clear x2)
  have hE := zlj (N := w.heap.size) HV.out hrow (by omega) (by omega) hsW hown' hgrow
  refine ⟨hE.1.from _, hE.2.1, ⟨_, hE.2.2.1, ?_, trivial⟩, by simp; omega, HB.out.trans hE.2.2.2.2, Nat.le_trans hsW hE.2.1.1.size⟩
  rw [List.length_append, List.map_append]
  simpa using hE.2.2.2.1
 case done =>
  rintro D ys' W hD rfl ⟨⟨v, hv, hrow, -⟩, h9, hB, hsW⟩ hK
  have c1 := hv.cell
  have f1 := hv.frozen
  clear hv b1
  gi_wp2
  refine ⟨by simp, .inl ⟨_, _, rfl, run_takeDeferred hK, ?_⟩⟩
  refine ⟨v, ?_, ?_⟩
  ·simp [results, Tryz.f202, go_sem]
  ·refine ⟨v, rfl, ?_, hB.trans (belowK_b (w := w) (Nat.le_refl _) W D _ _ (by omega) hK rfl rfl)⟩
   have := zan (ownsRow_putObj hrow (.deferred none) hK rfl) (show w.heap.size <= w5.heap.size from hb.size)
   unfold L.of
   rw [List.length_map, List.map_map]
   exact this
 case stop =>
  rintro D c pre W hD hP h hK
  exact h.elim
theorem L.of_wf (l : List L.Ls) (s : Int) (hl : l.length <= 1000) : ∀ x ∈ L.of l s, (Lit.int .i64 x).wf = true := by
 intro x hx
 unfold L.of at hx
 obtain ⟨i, _, rfl⟩ := List.mem_map.1 hx
 have := i.2
 have h2 : (l.map L.had).length = l.length := List.length_map _
 simp [Lit.wf, IntKind.min, IntKind.max, IntKind.bits, IntKind.signed]; omega
theorem zcp (a : Option Addr) (m c : Nat) (l : List L.Ls) (sub : Int) (k : List Int) (hk : L.of l sub = k) (w : World) (h : RIn w a m c l) (hm : m <= 1000) :
  Calls Tryz.prog 202 #[.slice a m c, .int .i64 sub] w fun e w' => ∃ a2 c2 n2, e = .returned (.slice a2 n2 c2) /\ Hid (k.length = n2) /\ Hid (zfv .i64 w' a2 c2 k) /\ Below w.heap.size w w' :=
 ((callsIn_wide (n := 6)).1 (ztt 6 (by omega) a m c l sub w h hm)).mono fun e w' ⟨v, he, ho, hb⟩ => by
  rw [hk] at ho
  obtain ⟨a2, c2, rfl, _, hr⟩ := zex ho (by rw [<- hk]; exact L.of_wf l sub (by rw [h.1]; exact hm))
  exact ⟨a2, c2, _, he, rfl, hr, hb⟩
open Go.RowKit
theorem zep : Enters Tryz.prog 245 := enters_of Tryz.func245 (by kernel_rfl) rfl
theorem zcg : Enters Tryz.prog 158 := enters_of Tryz.func158 (by kernel_rfl) rfl
theorem zni (a : Option Addr) (n c : Nat) (l : List L.Ls) (at' blk r : Int) (hr : L.find l at' blk = r) (w : World) (h : RIn w a n c l) (hn : n <= 1000) :
  Calls Tryz.prog 153 #[.slice a n c, .int .i64 at', .int .i64 blk] w fun e w' => e = .returned (.int .i64 r) /\ Below w.heap.size w w' := by
 obtain ⟨W0, hW0⟩ : ∃ W, w.alloc (.cells #[.int .i64 at', .int .i64 blk] 119) = W := ⟨_, rfl⟩
 have B0 : Below w.heap.size w W0 := by rw [<- hW0]; exact (Below.refl _ w).alloc (Nat.le_refl _) _
 have K0 : Blok W0 w.heap.size 119 #[.int .i64 at', .int .i64 blk] := by rw [<- hW0]; exact Blok.new w _ _
 have cl := zco a n c l W0 (h.below B0) hn
 have HR := Zh hr
 clear h hr
 go_enter Tryz.func153, Tryz.ntmps153
 go_wp2_with fail
 refine cl.mono ?_
 rintro e w2 ⟨a2, c2, rfl, hr2, hb2, -⟩
 have HB2 := Zh (B0.trans (hb2.mono B0.size))
 have K2 : Blok w2 w.heap.size 119 #[.int .i64 at', .int .i64 blk] := K0.below hb2 K0.lt
 have cp := zgd (w2.heap.size + 2) a2 n c2 (l.map L.had) 207 (enters_of Tryz.func207 (by kernel_rfl) rfl) #[.pointer (some ⟨w.heap.size, 0, none⟩)] _ w2 hr2.out (zmw w.heap.size at' blk w2 K2 w2.heap.size (w2.heap.size + 2) K2.lt (by have := K2.lt; omega)) ⟨by omega, by omega⟩ (hr2.out.off (by omega))
 clear cl hW0 B0 K0 hb2 K2
 go_wp2_with fail
 refine cp.mono ?_
 rintro e w3 ⟨bl, rfl, hG, hb3, hs3⟩
 have HB3 := Zt HB2 hb3
 have cf := zcz 245 zep bl _ _ _ _ (-1) r w3 hG (by omega) (by rw [L.hd_pl]; exact HR.out)
 clear cp hG hb3
 go_wp2_with fail
 refine cf.mono ?_
 rintro e w4 ⟨rfl, hb4⟩
 have HB4 := Zt HB3 hb4
 clear cf hb4
 go_wp2
 go_ret
 exact ⟨rfl, HB4.out⟩
theorem L.picks_pl {α : Type} (p : α -> Bool) (l : List α) : L.picks l (L.pl p l) = l.filter p := L.pl_map p l
theorem zeq (a : Option Addr) (m c : Nat) (l k : List L.T3) (F : FuncId) (hE : Enters Tryz.prog F) (lb : Array Value) (H X : Nat) (p : L.T3 -> Bool) (hk : l.filter p = k) (w : World) (h : RIn w a m c l) (hG : zdm F lb H X l.length (L.pl p l) w) (hH : H <= w.heap.size) (hm : m <= 1000) :
  Calls Tryz.prog 74 #[.slice a m c, .func (.func F) #[] lb] w fun e w' => ∃ v, e = .returned v /\ Hid (w'.ownsRow w.heap.size 77 3 v k.length (L.flat k)) /\ Below w.heap.size w w' :=
 ((callsIn_wide (n := 6)).1 (zif 6 (by omega) a m c l F hE lb H X _ w h hG hH hm)).mono fun e w' ⟨v, he, ho, hb⟩ => by
  refine ⟨v, he, Zh ?_, hb⟩
  rw [<- L.picks_len, L.picks_pl, hk] at ho
  exact ho
theorem zig (a : Option Addr) (n c : Nat) (l k : List L.T3) (now : Int) (hk : L.clean l now = k) (w : World) (h : RIn w a n c l) (hn : n <= 1000) :
  Calls Tryz.prog 30 #[.slice a n c, .int .i64 now] w fun e w' => ∃ v, e = .returned v /\ Hid (w'.ownsRow w.heap.size 77 3 v k.length (L.flat k)) /\ Below w.heap.size w w' := by
 obtain ⟨W0, hW0⟩ : ∃ W, w.alloc (.cells #[.int .i64 now] 3) = W := ⟨_, rfl⟩
 have B0 : Below w.heap.size w W0 := by rw [<- hW0]; exact (Below.refl _ w).alloc (Nat.le_refl _) _
 have K0 : Blok W0 w.heap.size 3 #[.int .i64 now] := by rw [<- hW0]; exact Blok.new w _ _
 have cl := zc9 a n c l W0 (h.below B0) hn
 have HR := Zh hk
 have HT := Zh h
 clear h hk
 go_enter Tryz.func30, Tryz.ntmps30
 go_wp2_with fail
 refine cl.mono ?_
 rintro e w2 ⟨a2, c2, rfl, hr2, hb2, -⟩
 have HB2 := Zh (B0.trans (hb2.mono B0.size))
 have K2 : Blok w2 w.heap.size 3 #[.int .i64 now] := K0.below hb2 K0.lt
 have cp := zez (w2.heap.size + 2) a2 n c2 l 77 (enters_of Tryz.func77 (by kernel_rfl) rfl) #[.pointer (some ⟨w.heap.size, 0, none⟩)] _ w2 hr2.out (zmf w.heap.size now w2 K2 w2.heap.size (w2.heap.size + 2) K2.lt (by have := K2.lt; omega)) ⟨by omega, by omega⟩ (hr2.out.off (by omega))
 clear cl hW0 B0 K0 hb2 K2
 go_wp2_with fail
 refine cp.mono ?_
 rintro e w3 ⟨bl, rfl, hG, hb3, hs3⟩
 have HB3 := Zt HB2 hb3
 have cf := zeq a n c l k 158 zcg bl _ _ _ HR.out w3 (HT.out.below HB3.out) hG (by omega) hn
 clear cp hG hb3
 go_wp2_with fail
 refine cf.mono ?_
 rintro e w4 ⟨v, rfl, ho, hb4⟩
 have HB4 := Zt HB3 hb4
 have HO : Hid (w4.ownsRow w.heap.size 77 3 v k.length (L.flat k)) := Zh (zan ho.out HB3.out.size)
 clear cf hb4 ho
 go_wp2
 go_ret
 exact ⟨_, rfl, HO, HB4.out⟩
open Go.RowKit
theorem Blok.cellsAt {t : TypeId} {g : Nat} : ∀ (Y X A C : List Value) (V : World), Blok V g t (A ++ X ++ C).toArray -> X.length = Y.length -> Blok (V.setCells g A.length Y) g t (A ++ Y ++ C).toArray
 | [], [], A, C, V, h, _ => h
 | [], _ :: _, _, _, _, _, h => by simp at h
 | _ :: _, [], _, _, _, _, h => by simp at h
 | y :: Y, x :: X, A, C, V, h, hl => by
  have h1 := h.set A.length y
  have e : (A ++ (x :: X) ++ C).toArray.setIfInBounds A.length y = ((A ++ [y]) ++ X ++ C).toArray := by simp
  rw [e] at h1
  have h2 := Blok.cellsAt Y X (A ++ [y]) C _ h1 (by simpa using hl)
  rw [List.length_append] at h2
  have e2 : A ++ [y] ++ Y ++ C = A ++ (y :: Y) ++ C := by simp
  rw [e2] at h2
  exact h2
theorem zas {g : Nat} : ∀ (Y : List Value) (o : Nat) (V : World), V.grownBy (V.setCells g o Y) (some g)
 | [], _, V => World.grownBy.refl V _
 | y :: Y, o, V => (grown_set V g o y).trans (zas Y (o + 1) _)
theorem zih {V : World} {g o c : Nat} (ty : TypeId) (hc : ∀ j, j < 5 -> (V.cell? ⟨g, o + j, none⟩).isSome = true) (hf : ∀ j, j < 5 -> V.frozen? ⟨g, o + j, none⟩ = false) :
  (Builtin.clear_ #[29] ty #[.slice (some ⟨g, o, none⟩) 1 c]).run Tryz.prog V = .ok (.tuple #[]) (V.setCells g o [.int .i64 0, .int .i64 0, .int .i64 0, .int .i64 0, .int .i64 0]) := by
 have hzc : (Builtin.zeroCells (Value.agg #[.int .i64 0, .int .i64 0, .int .i64 0, .int .i64 0, .int .i64 0]).cells 1).toList = [.int .i64 0, .int .i64 0, .int .i64 0, .int .i64 0, .int .i64 0] := by simp [Builtin.zeroCells, Value.cells]; rfl
 have hv : ∀ w, (zeroValue 60).run Tryz.prog w = .ok (.agg #[.int .i64 0, .int .i64 0, .int .i64 0, .int .i64 0, .int .i64 0]) w := Tryz.zeroValue60
 have hst := run_storeCells_cells (P := Tryz.prog) g o [.int .i64 0, .int .i64 0, .int .i64 0, .int .i64 0, .int .i64 0] 0 V (by simpa using hc) (by simpa using hf) (by intro v hv'; simp at hv'; rw [hv']; rfl)
 simp only [Nat.add_zero] at hst
 simp [Builtin.clear_, run_underlying Tryz.underlying29, hv, hzc, hst]
theorem zhb (g n c i J B : Nat) (l : List L.Ls) (w : World) (h : w.ownsRow B 60 5 (.slice (some ⟨g, 0, none⟩) n c) n (L.flat l)) (hl : l.length = n) (hi : i < n) (hJ : i + 1 = J) (hn : n <= 1000) :
  Calls Tryz.prog 227 #[.slice (some ⟨g, 0, none⟩) n c, .int .i64 i, .int .i64 J] w fun e w' => e = .returned (.slice (some ⟨g, 0, none⟩) (n - 1) c) /\ Hid (w'.ownsRow B 60 5 (.slice (some ⟨g, 0, none⟩) (n - 1) c) (n - 1) (L.flat (l.take i ++ l.drop (i + 1)))) /\ Hid (w.grownBy w' (some g)) := by
 obtain ⟨cur, hB, hgg, hle, hm, hs, ht⟩ : ∃ cur, B <= g /\ w.heap[g]? = some (.cells cur 60 (0, 0)) /\ n <= c /\ c <= maxLen /\ cur.size = c * 5 /\ cur.toList.take (n * 5) = L.flat l := by
  rcases h.2 with ⟨h0, _⟩ | ⟨g', cap, cur, he, hB, hg, h1, h2, h3, h4⟩
  ·simp at h0
  ·simp only [Value.slice.injEq, Option.some.injEq, Addr.mk.injEq, and_true, true_and] at he
   obtain ⟨rfl, rfl⟩ := he
   exact ⟨cur, hB, hg, h1, h2, h3, h4⟩
 obtain ⟨rest, hrest⟩ : ∃ rest, cur.toList.drop (n * 5) = rest := ⟨_, rfl⟩
 have hcur : cur = (L.flat l ++ rest).toArray := by rw [<- ht, <- hrest, List.take_append_drop]
 have hrl : rest.length = c * 5 - n * 5 := by rw [<- hrest]; simp [hs]
 obtain ⟨m, hm'⟩ : ∃ m, n = i + 1 + m := ⟨n - (i + 1), by omega⟩
 -- the row in its parts
 obtain ⟨x, hx⟩ : ∃ x, l[i]? = some x := ⟨_, List.getElem?_eq_getElem (by omega)⟩
 have hparts : l = l.take i ++ ([x] ++ l.drop (i + 1)) := by
  obtain ⟨h1, h2⟩ := List.getElem?_eq_some_iff.1 hx
  rw [<- h2, List.singleton_append, <- List.drop_eq_getElem_cons h1, List.take_append_drop]
 obtain ⟨P, hP⟩ : ∃ P, l.take i = P := ⟨_, rfl⟩
 obtain ⟨Q, hQ⟩ : ∃ Q, l.drop (i + 1) = Q := ⟨_, rfl⟩
 rw [hP, hQ] at hparts ⊢
 have hPl : P.length = i := by rw [<- hP]; simp; omega
 have hQl : Q.length = m := by rw [<- hQ]; simp; omega
 have K0 : Blok w g 60 (L.flat P ++ (L.cells x ++ L.flat Q) ++ rest).toArray := by
  show w.heap[g]? = _
  rw [hgg, hcur, hparts, L.flat_append, L.flat_append]; rfl
 have fP : (L.flat P).length = i * 5 := by rw [L.flat_len5, hPl]
 have fQ : (L.flat Q).length = m * 5 := by rw [L.flat_len5, hQl]
 -- the cells of what stands behind
 obtain ⟨two, tail, htl, htwo⟩ : ∃ two tail : List Value, L.cells x ++ L.flat Q = two ++ tail /\ two.length = m * 5 /\ tail.length = 5 := ⟨(L.cells x ++ L.flat Q).take (m * 5), (L.cells x ++ L.flat Q).drop (m * 5), (List.take_append_drop _ _).symm, by rw [List.length_take, List.length_append, fQ, L.cells_len5]; omega, by rw [List.length_drop, List.length_append, fQ, L.cells_len5]; omega⟩
 have K1 : Blok (w.drew.setCells g (i * 5) (L.flat Q)) g 60 (L.flat P ++ L.flat Q ++ (tail ++ rest)).toArray := by
  have := Blok.cellsAt (L.flat Q) two (L.flat P) (tail ++ rest) w.drew (by rw [htl] at K0; simpa using K0.drew) (by rw [htwo.1, fQ])
  rw [fP] at this; exact this
 obtain ⟨W1, hW1⟩ : ∃ W1, w.drew.setCells g (i * 5) (L.flat Q) = W1 := ⟨_, rfl⟩
 have G1 : Hid (w.grownBy W1 (some g)) := Zh (by rw [<- hW1]; exact (zbx (L.below_none (zaa w))).trans (zas _ _ _))
 rw [hW1] at K1
 have K2 : Blok (W1.setCells g ((i + m) * 5) [.int .i64 0, .int .i64 0, .int .i64 0, .int .i64 0, .int .i64 0]) g 60 (L.flat (P ++ Q) ++ ([.int .i64 0, .int .i64 0, .int .i64 0, .int .i64 0, .int .i64 0] : List Value) ++ rest).toArray := by
  have := Blok.cellsAt [.int .i64 0, .int .i64 0, .int .i64 0, .int .i64 0, .int .i64 0] tail (L.flat P ++ L.flat Q) rest W1 (by simpa using K1) (by rw [htwo.2]; rfl)
  rw [List.length_append, fP, fQ, <- Nat.add_mul] at this
  rw [L.flat_append]; exact this
 obtain ⟨W2, hW2⟩ : ∃ W2, W1.setCells g ((i + m) * 5) [.int .i64 0, .int .i64 0, .int .i64 0, .int .i64 0, .int .i64 0] = W2 := ⟨_, rfl⟩
 have G2 : Hid (w.grownBy W2 (some g)) := Zh (by rw [<- hW2]; exact G1.out.trans (zas _ _ _))
 rw [hW2] at K2
 have hsome : ∀ j, j < 5 -> (W1.cell? ⟨g, (i + m) * 5 + j, none⟩).isSome = true := fun j hj => by
  rw [K1.cell]
  rw [Array.getElem?_eq_getElem (by simp [fP, fQ, htwo.2]; omega)]; rfl
 have hcl := fun ty => zih (V := W1) (g := g) (o := (i + m) * 5) (c := c - (i + m)) ty hsome (fun j _ => K1.frozen _)
 rw [hW2] at hcl
 have HK2 := Zh K2
 have hspare : Hid (∀ j, j < (L.flat Q).length -> (w.drew.cell? ⟨g, 0 + i * 5 + j, none⟩).isSome = true /\ w.drew.frozen? ⟨g, 0 + i * 5 + j, none⟩ = false) := Zh (fun j hj => by
  rw [Nat.zero_add]
  refine ⟨?_, K0.drew.frozen _⟩
  rw [K0.drew.cell, Array.getElem?_eq_getElem (by rw [fQ] at hj; simp [fP, fQ, L.cells_len5]; omega)]; rfl)
 have hrd : ∀ j u, (L.flat Q)[j]? = some u -> w.drew.cell? ⟨g, (i + 1) * 5 + j, none⟩ = some u := fun j u hu => by
  have h1 := (List.getElem?_eq_some_iff.1 hu).1
  rw [K0.drew.cell, List.getElem?_toArray, List.append_assoc, List.getElem?_append_right (by rw [fP]; omega), fP, List.append_assoc, List.getElem?_append_right (by rw [L.cells_len5]; omega), List.getElem?_append_left (by rw [L.cells_len5]; omega)]
  rw [L.cells_len5]
  rw [<- hu]; congr 1; omega
 have HFIN : Hid (W2.ownsRow B 60 5 (.slice (some ⟨g, 0, none⟩) (n - 1) c) (n - 1) (L.flat (P ++ Q))) := Zh (by
  have hln : (L.flat (P ++ Q)).length = (n - 1) * 5 := by rw [L.flat_len5, List.length_append, hPl, hQl]; omega
  refine ⟨hln, .inr ⟨g, c, _, rfl, hB, HK2.out, by omega, hm, by simp only [List.size_toArray, List.length_append, hln, hrl, List.length_cons, List.length_nil]; omega, ?_⟩⟩
  show List.take _ (L.flat (P ++ Q) ++ ([.int .i64 0, .int .i64 0, .int .i64 0, .int .i64 0, .int .i64 0] : List Value) ++ rest) = _
  rw [List.append_assoc, List.take_append_of_le_length (by rw [hln]; exact Nat.le_refl _), List.take_of_length_le (by rw [hln]; exact Nat.le_refl _)])
 have HOQ := Zh (L.flat_one Q)
 have HfQ := Zh fQ
 have hic : i <= c := by omega
 have hjc : J <= c := by omega
 have hjn : J <= n := by omega
 have hij : i <= J := by omega
 have hin : i <= n := by omega
 have hji : J - i = 1 := by omega
 have HRD := Zh hrd
 have HM := Zh hm'
 have eW1 : Hid (W1 = w.drew.setCells g (0 + i * 5) (L.flat Q)) := Zh (by rw [Nat.zero_add]; exact hW1.symm)
 clear h hx hparts hP hQ hPl hQl K0 K1 K2 fP fQ htl htwo hW1 hW2 hsome hrd hgg hs ht hrest hcur hrl
 have hmc : i + m <= c := by omega
 obtain ⟨q, hq⟩ : ∃ q, n - 1 = q := ⟨_, rfl⟩
 have hqm : q = i + m := by omega
 have hqn : (q : Int) + 1 = (n : Int) := by omega
 rw [hq] at HFIN ⊢
 rw [<- hqm] at hcl hmc
 have ne1 : ((i : Int) == (J : Int)) = false := by simp; omega
 have i0 : (0 : Int) <= (i : Int) := by omega
 have i1 : (i : Int) <= (J : Int) := by omega
 have j0 : (0 : Int) <= (J : Int) := by omega
 have i2 : (J : Int) <= (n : Int) := by omega
 have i3 : (i : Int) <= (c : Int) := by omega
 have i4 : (n : Int) <= (c : Int) := by omega
 have HQM := Zh hqm
 go_enter Tryz.func227, Tryz.ntmps227
 obtain ⟨A, hA, hsrc⟩ : ∃ A : Addr, (if c = J then some (⟨g, 0, none⟩ : Addr) else some ⟨g, J * 5, none⟩) = some A /\ Hid (∀ t u, (L.flat Q)[t]? = some u -> w.drew.cell? (A.add t) = some u) := by
  by_cases hci : c = J
  ·refine ⟨⟨g, 0, none⟩, by rw [if_pos hci], Zh fun t u hu => ?_⟩
   have := (List.getElem?_eq_some_iff.1 hu).1
   rw [HfQ.out] at this
   omega
  ·refine ⟨⟨g, J * 5, none⟩, by rw [if_neg hci], Zh fun t u hu => ?_⟩
   rw [WideShapes.add_plain]; exact (by rw [<- hJ]; exact HRD.out t u hu)
 have hnm : n - J = m := by omega
 have him : i + m = q := by omega
 have hq1 : n - q = 1 := by omega
 clear hm' hqm hq hJ
 go_wp2_with fail
 go_region_law (refine step_append_room rfl (.tmp 22) (.tmp 25) 29 rfl 60 (zay.choose) 5 Tryz.underlying29 zay.choose_spec.1 zay.choose_spec.2.2.1 g 0 i c (by simp [Act.eval, Act.put]) A m (c - J) (L.flat Q) (by simp [Act.eval, Act.put]) HfQ.out hsrc.out HOQ.out (by omega) hspare.out ?_; rw [<- eW1.out])
 have hqn2 : q <= n := by omega
 have hcq : ¬ c = q := by omega
 have hqn3 : (q : Int) <= (n : Int) := by omega
 go_wp2
 go_ret
 exact ⟨rfl, HFIN, G2⟩
end Go.Proofs.YtijkbflimbffmaaGreat
