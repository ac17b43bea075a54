/-
  lease.picked, over whatever gives places.
-/
import Derived.Test.YtbnhaoimdponkaaLFirst
namespace Go.Proofs.Ytbnhaoimdponkaa
open Go.RowKit Go.Shelf
attribute [local go_sem] Oper.semAt_some

/-- What places pick. -/
def L.picks {α : Type} (l : List α) (ys : List (Fin l.length)) : List α := ys.map fun i => l[i]
theorem L.picks_snoc {α : Type} (l : List α) (ys : List (Fin l.length)) (k : Fin l.length) : L.picks l (ys ++ [k]) = L.picks l ys ++ [l[k]] := by simp [L.picks]
theorem L.picks_len {α : Type} (l : List α) (ys : List (Fin l.length)) : (L.picks l ys).length = ys.length := by simp [L.picks]

theorem stepIn_appendR {α : Type} [L.Rec α] {F : Fence} {n : Nat} {w : World} {ops : Array Oper} {o : Oper} {a : Act} {K : Act → World → Prop} {Q : Exit → Act → World → Prop} {E : Prop} (hgd : o.guard = none) (s x : Operand) (ts t : TypeId)
    (ho : o.op = .call { callee := .builtin .append, args := #[s, x], argTypes := #[ts, ts] }) (z : Value) (by' : Nat) (hts : Try.prog.underlying ts = some (.slice t)) (hp : ∃ i, Try.prog.info? t = some i ∧ i.zero = some z ∧ i.size = L.Rec.k α ∧ i.bytes = by') (hz : z.cells.size = L.Rec.k α) (hby : 0 < by' ∧ by' ≤ 40)
    (B : Nat) (v : Value) (p : Nat) (l : List α) (tm : α) (hs : a.eval s = v) (hown : w.ownsRow B t (L.Rec.k α) v p (L.flat l)) (nb : Nat) (t' : TypeId) (hx : a.eval x = .slice (some ⟨nb, 0, none⟩) 1 1) (hb : L.Bx w nb t' tm) (hpn : p ≤ 10000) (hB : B ≤ w.heap.size)
    (hK : ∀ g cap w', w'.ownsRow B t (L.Rec.k α) (.slice (some ⟨g, 0, none⟩) (p + 1) cap) (p + 1) (L.flat (l ++ [tm])) → w.grownBy w' v.ownBlock → K (a.put o.dst (.slice (some ⟨g, 0, none⟩) (p + 1) cap)) w') :
    if Region.wanted o (yielded ops a.tmps) = true then Oper.wpIn F n Try.prog o a w K Q else E := by
  obtain ⟨i0, hi, hz0, hz1, hz2⟩ := hp
  have hk := L.Rec.pos (α := α)
  have hw : Region.wanted o (yielded ops a.tmps) = true := by simp [Region.wanted, hgd]
  rw [if_pos hw]
  obtain ⟨v', w', hrun, r1, r2, r3⟩ := run_append_own (P := Try.prog) w B ts o.type t i0 z (L.Rec.k α) by' hts hi hz0 hz1 hz2 hz hk v p (L.flat l) hown ⟨nb, 0, none⟩ 1 1 (L.cells tm) (by rw [L.cells_len, Nat.one_mul]) (L.cell_one hb) (L.cells_one tm) (by unfold maxLen; omega) (by have : (p + 1) * by' ≤ 10001 * 40 := Nat.mul_le_mul (by omega) hby.2; omega) hB
  have hf : L.flat (l ++ [tm]) = L.flat l ++ L.cells tm := by rw [L.flat_append, L.flat_cons, L.flat_nil, List.append_nil]
  rw [← hf] at r1
  obtain ⟨g, cap, rfl⟩ : ∃ g cap, v' = .slice (some ⟨g, 0, none⟩) (p + 1) cap := by
    rcases r1.2 with ⟨rfl, h0⟩ | ⟨g, cap, _, rfl, _⟩
    · omega
    · exact ⟨g, cap, rfl⟩
  unfold Oper.wpIn
  refine ⟨?_, ?_⟩
  · simp [Oper.about, ho, resolve, Target.leads, Sem.run_pure]
  · rw [Oper.semAt_plain F _ _ (by rw [ho]; intro c hc'; cases hc')]
    simp [execOp, ho, resolve, invoke, builtin, hs, hx, hrun, Result.andThen]
    exact hK g cap w' r1 r2

theorem pick_after {W w1 : World} {N B k : Nat} {v : Value} {xs : List Value} {tmp : Obj} {t : TypeId} {u : Value} (hrow : W.ownsRow N 45 3 v k xs) (hgrow : (W.alloc tmp).drew.grownBy w1 v.ownBlock) (hb : Boxed W B t u) (hB : B < N) : Boxed w1 B t u :=
  ((hb.alloc tmp).kept (W' := (W.alloc tmp).drew) (row := none) (L.below_none (below_drew _)) (by simp)).kept hgrow (fun e => by have := (hrow.lt _ e.symm).1; omega)
theorem pick_body {N H X k : Nat} {W w1 : World} {v v' sl : Value} {xs ys : List Value} {j : Nat} {tmp : Obj} (hv : Boxed W (N + 1) 23 v) (hrow : W.ownsRow (N + 2) 45 3 v k xs) (hBn : Blok W N 23 #[sl]) (hH : H ≤ N)
    (hown' : w1.ownsRow (N + 2) 45 3 v' j ys) (hgrow : (W.alloc tmp).drew.grownBy w1 v.ownBlock) :
    KeepsOthers W (w1.setCell ⟨N + 1, 0, none⟩ v') ∧ KpL H X W (w1.setCell ⟨N + 1, 0, none⟩ v') ∧ Boxed (w1.setCell ⟨N + 1, 0, none⟩ v') (N + 1) 23 v' ∧ (w1.setCell ⟨N + 1, 0, none⟩ v').ownsRow (N + 2) 45 3 v' j ys ∧ Below N W (w1.setCell ⟨N + 1, 0, none⟩ v') ∧ Blok (w1.setCell ⟨N + 1, 0, none⟩ v') N 23 #[sl] := by
  have x0 := pick_after hrow hgrow hv (by omega)
  have hws := hBn.lt
  have hwv := hv.lt
  have hbel : Below N W (w1.setCell ⟨N + 1, 0, none⟩ v') :=
    ((((Below.refl N W).alloc (by omega) tmp).drew).grown hgrow (by simp; omega) (fun k e => by have := (hrow.lt _ e).1; omega)).setCell (p := ⟨N + 1, 0, none⟩) (by simp) v'
  have z1 : Blok (w1.setCell ⟨N + 1, 0, none⟩ v') N 23 #[sl] := (((hBn.alloc tmp).drew).grown hgrow (fun e => by have := (hrow.lt _ e.symm).1; omega)).far (by simp) _
  refine ⟨?_, KpL.of_below hbel hH, x0.set v', ?_, hbel, z1⟩
  · refine (((KeepsOthers.alloc W tmp).trans (KeepsOthers.drew _)).trans (KeepsOthers.of_grownBy hgrow fun j o ej hj => ?_)).trans (KeepsOthers.setCell _ _ _)
    rcases (hrow.alloc tmp).2 with ⟨rfl, _⟩ | ⟨g, cap, cur, rfl, _, hgb, _⟩
    · simp [Value.ownBlock] at ej
    · obtain rfl : g = j := by simpa [Value.ownBlock] using ej
      rw [show (W.alloc tmp).drew.heap[g]? = (W.alloc tmp).heap[g]? from rfl, hgb] at hj; cases hj; rfl
  · exact hown'.kept (grownBy_setCell' w1 (N + 1) v') (.inr (by intro e; have := (hown'.lt _ e).1; omega))

theorem lat_pick {F : Fence} {n : Nat} {P : Program} {md : Region.Mode} {ops : Array Oper} {Q : Exit → Act → World → Prop} {as00000000 as10000000 as01000000 as00100000 as11000000 as10100000 as01100000 as11100000 as01110000 as11110000 as01111000 as11111000 as01111100 as11111100 : Act} {ws00000000 ws10000000 ws01000000 ws00100000 ws11000000 ws10100000 ws01100000 ws11100000 ws01110000 ws11110000 ws01111000 ws11111000 ws01111100 ws11111100 : World}
    (rs00000000 : Region.ready md ops #[false, false, false, false, false, false, false, false] = [0, 1, 2])
    (rs10000000 : Region.ready md ops #[true, false, false, false, false, false, false, false] = [1, 2])
    (rs01000000 : Region.ready md ops #[false, true, false, false, false, false, false, false] = [0, 2])
    (rs00100000 : Region.ready md ops #[false, false, true, false, false, false, false, false] = [0, 1])
    (rs11000000 : Region.ready md ops #[true, true, false, false, false, false, false, false] = [2])
    (rs10100000 : Region.ready md ops #[true, false, true, false, false, false, false, false] = [1])
    (rs01100000 : Region.ready md ops #[false, true, true, false, false, false, false, false] = [0, 3])
    (rs11100000 : Region.ready md ops #[true, true, true, false, false, false, false, false] = [3])
    (rs01110000 : Region.ready md ops #[false, true, true, true, false, false, false, false] = [0, 4])
    (rs11110000 : Region.ready md ops #[true, true, true, true, false, false, false, false] = [4])
    (rs01111000 : Region.ready md ops #[false, true, true, true, true, false, false, false] = [0, 5])
    (rs11111000 : Region.ready md ops #[true, true, true, true, true, false, false, false] = [5])
    (rs01111100 : Region.ready md ops #[false, true, true, true, true, true, false, false] = [0])
    (es00000000_0 : ∀ K : Act → World → Prop, K as10000000 ws10000000 → wpOpIn F n P ops Q 0 K as00000000 ws00000000)
    (es00000000_1 : ∀ K : Act → World → Prop, K as01000000 ws01000000 → wpOpIn F n P ops Q 1 K as00000000 ws00000000)
    (es00000000_2 : ∀ K : Act → World → Prop, K as00100000 ws00100000 → wpOpIn F n P ops Q 2 K as00000000 ws00000000)
    (es10000000_1 : ∀ K : Act → World → Prop, K as11000000 ws11000000 → wpOpIn F n P ops Q 1 K as10000000 ws10000000)
    (es10000000_2 : ∀ K : Act → World → Prop, K as10100000 ws10100000 → wpOpIn F n P ops Q 2 K as10000000 ws10000000)
    (es01000000_0 : ∀ K : Act → World → Prop, K as11000000 ws11000000 → wpOpIn F n P ops Q 0 K as01000000 ws01000000)
    (es01000000_2 : ∀ K : Act → World → Prop, K as01100000 ws01100000 → wpOpIn F n P ops Q 2 K as01000000 ws01000000)
    (es00100000_0 : ∀ K : Act → World → Prop, K as10100000 ws10100000 → wpOpIn F n P ops Q 0 K as00100000 ws00100000)
    (es00100000_1 : ∀ K : Act → World → Prop, K as01100000 ws01100000 → wpOpIn F n P ops Q 1 K as00100000 ws00100000)
    (es11000000_2 : ∀ K : Act → World → Prop, K as11100000 ws11100000 → wpOpIn F n P ops Q 2 K as11000000 ws11000000)
    (es10100000_1 : ∀ K : Act → World → Prop, K as11100000 ws11100000 → wpOpIn F n P ops Q 1 K as10100000 ws10100000)
    (es01100000_0 : ∀ K : Act → World → Prop, K as11100000 ws11100000 → wpOpIn F n P ops Q 0 K as01100000 ws01100000)
    (es01100000_3 : ∀ K : Act → World → Prop, K as01110000 ws01110000 → wpOpIn F n P ops Q 3 K as01100000 ws01100000)
    (es11100000_3 : ∀ K : Act → World → Prop, K as11110000 ws11110000 → wpOpIn F n P ops Q 3 K as11100000 ws11100000)
    (es01110000_0 : ∀ K : Act → World → Prop, K as11110000 ws11110000 → wpOpIn F n P ops Q 0 K as01110000 ws01110000)
    (es01110000_4 : ∀ K : Act → World → Prop, K as01111000 ws01111000 → wpOpIn F n P ops Q 4 K as01110000 ws01110000)
    (es11110000_4 : ∀ K : Act → World → Prop, K as11111000 ws11111000 → wpOpIn F n P ops Q 4 K as11110000 ws11110000)
    (es01111000_0 : ∀ K : Act → World → Prop, K as11111000 ws11111000 → wpOpIn F n P ops Q 0 K as01111000 ws01111000)
    (es01111000_5 : ∀ K : Act → World → Prop, K as01111100 ws01111100 → wpOpIn F n P ops Q 5 K as01111000 ws01111000)
    (es11111000_5 : ∀ K : Act → World → Prop, K as11111100 ws11111100 → wpOpIn F n P ops Q 5 K as11111000 ws11111000)
    (es01111100_0 : ∀ K : Act → World → Prop, K as11111100 ws11111100 → wpOpIn F n P ops Q 0 K as01111100 ws01111100)
    (hfin : wpAnyIn F n P md ops Q 2 #[true, true, true, true, true, true, false, false] as11111100 ws11111100) : wpAnyIn F n P md ops Q 8 #[false, false, false, false, false, false, false, false] as00000000 ws00000000 := by
  have hs11111100 := hfin
  have hs01111100 : wpAnyIn F n P md ops Q 3 #[false, true, true, true, true, true, false, false] as01111100 ws01111100 := wpAnyIn_all rs01111100 (by simp) (fun i hi => by
    simp only [List.mem_cons, List.not_mem_nil, or_false] at hi
    subst hi
    exact es01111100_0 _ hs11111100)
  have hs11111000 : wpAnyIn F n P md ops Q 3 #[true, true, true, true, true, false, false, false] as11111000 ws11111000 := wpAnyIn_all rs11111000 (by simp) (fun i hi => by
    simp only [List.mem_cons, List.not_mem_nil, or_false] at hi
    subst hi
    exact es11111000_5 _ hs11111100)
  have hs01111000 : wpAnyIn F n P md ops Q 4 #[false, true, true, true, true, false, false, false] as01111000 ws01111000 := wpAnyIn_all rs01111000 (by simp) (fun i hi => by
    simp only [List.mem_cons, List.not_mem_nil, or_false] at hi
    rcases hi with rfl | rfl
    · exact es01111000_0 _ hs11111000
    · exact es01111000_5 _ hs01111100)
  have hs11110000 : wpAnyIn F n P md ops Q 4 #[true, true, true, true, false, false, false, false] as11110000 ws11110000 := wpAnyIn_all rs11110000 (by simp) (fun i hi => by
    simp only [List.mem_cons, List.not_mem_nil, or_false] at hi
    subst hi
    exact es11110000_4 _ hs11111000)
  have hs01110000 : wpAnyIn F n P md ops Q 5 #[false, true, true, true, false, false, false, false] as01110000 ws01110000 := wpAnyIn_all rs01110000 (by simp) (fun i hi => by
    simp only [List.mem_cons, List.not_mem_nil, or_false] at hi
    rcases hi with rfl | rfl
    · exact es01110000_0 _ hs11110000
    · exact es01110000_4 _ hs01111000)
  have hs11100000 : wpAnyIn F n P md ops Q 5 #[true, true, true, false, false, false, false, false] as11100000 ws11100000 := wpAnyIn_all rs11100000 (by simp) (fun i hi => by
    simp only [List.mem_cons, List.not_mem_nil, or_false] at hi
    subst hi
    exact es11100000_3 _ hs11110000)
  have hs01100000 : wpAnyIn F n P md ops Q 6 #[false, true, true, false, false, false, false, false] as01100000 ws01100000 := wpAnyIn_all rs01100000 (by simp) (fun i hi => by
    simp only [List.mem_cons, List.not_mem_nil, or_false] at hi
    rcases hi with rfl | rfl
    · exact es01100000_0 _ hs11100000
    · exact es01100000_3 _ hs01110000)
  have hs10100000 : wpAnyIn F n P md ops Q 6 #[true, false, true, false, false, false, false, false] as10100000 ws10100000 := wpAnyIn_all rs10100000 (by simp) (fun i hi => by
    simp only [List.mem_cons, List.not_mem_nil, or_false] at hi
    subst hi
    exact es10100000_1 _ hs11100000)
  have hs11000000 : wpAnyIn F n P md ops Q 6 #[true, true, false, false, false, false, false, false] as11000000 ws11000000 := wpAnyIn_all rs11000000 (by simp) (fun i hi => by
    simp only [List.mem_cons, List.not_mem_nil, or_false] at hi
    subst hi
    exact es11000000_2 _ hs11100000)
  have hs00100000 : wpAnyIn F n P md ops Q 7 #[false, false, true, false, false, false, false, false] as00100000 ws00100000 := wpAnyIn_all rs00100000 (by simp) (fun i hi => by
    simp only [List.mem_cons, List.not_mem_nil, or_false] at hi
    rcases hi with rfl | rfl
    · exact es00100000_0 _ hs10100000
    · exact es00100000_1 _ hs01100000)
  have hs01000000 : wpAnyIn F n P md ops Q 7 #[false, true, false, false, false, false, false, false] as01000000 ws01000000 := wpAnyIn_all rs01000000 (by simp) (fun i hi => by
    simp only [List.mem_cons, List.not_mem_nil, or_false] at hi
    rcases hi with rfl | rfl
    · exact es01000000_0 _ hs11000000
    · exact es01000000_2 _ hs01100000)
  have hs10000000 : wpAnyIn F n P md ops Q 7 #[true, false, false, false, false, false, false, false] as10000000 ws10000000 := wpAnyIn_all rs10000000 (by simp) (fun i hi => by
    simp only [List.mem_cons, List.not_mem_nil, or_false] at hi
    rcases hi with rfl | rfl
    · exact es10000000_1 _ hs11000000
    · exact es10000000_2 _ hs10100000)
  have hs00000000 : wpAnyIn F n P md ops Q 8 #[false, false, false, false, false, false, false, false] as00000000 ws00000000 := wpAnyIn_all rs00000000 (by simp) (fun i hi => by
    simp only [List.mem_cons, List.not_mem_nil, or_false] at hi
    rcases hi with rfl | rfl | rfl
    · exact es00000000_0 _ hs10000000
    · exact es00000000_1 _ hs01000000
    · exact es00000000_2 _ hs00100000)
  exact hs00000000

set_option maxRecDepth 100000 in
set_option maxHeartbeats 1000000 in
theorem picked_in (n : Nat) (hn : 6 ≤ n) (a : Option Addr) (m c : Nat) (l : List L.T3) (F : FuncId) (hE : Enters Try.prog F) (lb : Array Value) (H X : Nat) (ys : List (Fin l.length)) (w : World) (h : RIn w a m c l) (hG : Gives F lb H X l.length ys w) (hH : H ≤ w.heap.size) (hm : m ≤ 1000) :
    CallsIn Fence.wide n Try.prog 48 #[.slice a m c, .func (.func F) #[] lb] w fun e w' => ∃ v, e = .returned v ∧ w'.ownsRow w.heap.size 45 3 v ys.length (L.flat (L.picks l ys)) ∧ Below w.heap.size w w' := by
  have h1 : 1 ≤ n := by omega
  have hro : Fence.wide.round = none := rfl
  have hf1 : Fence.wide.fn 48 := trivial
  have hfF : Fence.wide.fn F := trivial
  have HT := Lib.hid h
  obtain ⟨i0, hi, hz0, hz1, hz2⟩ := held_parts
  clear h
  refine callsIn_of_wp_marks Try.func48 rfl hf1 ?_ hro
  simp only [Try.ntmps48, List.size_toArray, List.length_cons, List.length_nil, Nat.reduceAdd, Nat.reduceSub, Array.replicate_succ, Array.replicate_zero, List.push_toArray, List.append_toArray, List.nil_append, List.cons_append]
  gi_wp2_with fail
  obtain ⟨w5, hw5⟩ : ∃ w5, (w.alloc (.cells #[.slice a m c] 23)).alloc (.cells #[.slice none 0 0] 23) = w5 := ⟨_, rfl⟩
  have hb : Below w.heap.size w w5 := by rw [← hw5]; exact ((Below.refl _ w).alloc (Nat.le_refl _) _).alloc (by simp) _
  have hsz : w5.heap.size = w.heap.size + 2 := by rw [← hw5]; simp
  have b1 : Boxed w5 (w.heap.size + 1) 23 (.slice none 0 0) := by
    rw [← hw5]; have := Boxed.new (w.alloc (.cells #[.slice a m c] 23)) 23 (.slice none 0 0)
    rwa [World.size_alloc] at this
  have b2 : Blok w5 w.heap.size 23 #[.slice a m c] := by
    rw [← hw5]; exact (Blok.new w 23 #[.slice a m c]).alloc _
  rw [hw5]
  clear hw5
  refine wpIn_rangeFunc_ownG hro h1 (gf := F) (lb := lb) rfl hfF hE
    ((hG.on hb) (n - 1) (by omega)) KpL.t (fun W l o o' hl hW _ _ => KpL.book (w := w5) (by omega) W l o o' hl hW) (Below.refl _ _) (fun _ => rfl)
    (fun pre W => (∃ v, Boxed W (w.heap.size + 1) 23 v ∧ W.ownsRow (w.heap.size + 2) 45 3 v pre.length (L.flat (L.picks l pre)) ∧ True) ∧ pre.length ≤ m + 1 ∧ Blok W w.heap.size 23 #[.slice a m c] ∧ Below w.heap.size w W)
    (fun c pre W => False)
    (OwnFrom.and (Own.from (holdsRow_own (w.heap.size + 2) (w.heap.size + 1) 23 45 3 (fun pre : List (Fin l.length) => pre.length) (fun pre => L.flat (L.picks l pre)) (fun _ _ => True)) _)
      (OwnFrom.and (ownFrom_pure _ (fun pre : List (Fin l.length) => pre.length ≤ m + 1)) (OwnFrom.and (fun s W W' row h hg hr => h.grown hg (fun e => by obtain ⟨_, o, ho, hc⟩ := hr _ e.symm; rw [show W.heap[_]? = _ from h] at ho; cases ho; cases hc)) (ownFrom_below (Nat.le_refl _) (by omega)))))
    (fun c => ownFrom_pure _ _)
    ⟨⟨_, b1, World.ownsRow_nil _ _ _ _, trivial⟩, by simp, b2, hb⟩
    (fun x => { tmps := #[.slice a m c, .func (.func F) #[] lb, .pointer (some ⟨w.heap.size, 0, none⟩), undef, .slice none 0 0, .pointer (some ⟨w.heap.size + 1, 0, none⟩), .int .i64 (x.val : Int), .func (.func F) #[] lb, .int .i64 (x.val : Int), undef, undef, undef, undef, undef, undef, undef, undef], defers := [] }) ?assign ?body ?done ?stop
  case assign =>
    intro l x W K hK
    gi_wp2
    exact hK
  case body =>
    rintro r pre x W ⟨⟨v, hv, hrow, -⟩, h9, hbn, hB⟩ hlt
    have c1 := hv.cell
    have f1 := hv.frozen
    have HV := Lib.hid hv
    have HB := Lib.hid hB
    have HN := Lib.hid hbn
    have hws := hbn.lt
    have c2 : W.cell? ⟨w.heap.size, 0, none⟩ = some (.slice a m c) := Blok.cell hbn 0
    have hxm : x.val < m := by rw [← HT.out.1]; exact x.2
    obtain ⟨b, off, y, rfl, hbl, hy, p0, p1, p2⟩ := (HT.out.below hB).at3 hxm
    have hye : l[x] = y := (List.getElem?_eq_some_iff.1 hy).2
    have k0 : (0 : Int) ≤ (x.val : Int) := by omega
    have k1 : (x.val : Int) < m := by omega
    have c3 : ((W.alloc (.cells #[.int .i64 y.a, .int .i64 y.b, .int .i64 y.x] 45))).cell? ⟨w.heap.size + 1, 0, none⟩ = some v := (hv.alloc _).cell
    have HY := Lib.hid hye
    clear hv hbn hB b1 b2 hy hye
    have hmix : Try.prog.follows .mixedOrders = true := by kernel_rfl
    gi_wp2_with fail
    refine wpIn_region_any hmix ?_
    change wpAnyIn _ _ _ _ _ _ _ _ _ (World.drew _)
    apply lat_pick
    case rs00000000 => kernel_rfl
    case rs10000000 => kernel_rfl
    case rs01000000 => kernel_rfl
    case rs00100000 => kernel_rfl
    case rs11000000 => kernel_rfl
    case rs10100000 => kernel_rfl
    case rs01100000 => kernel_rfl
    case rs11100000 => kernel_rfl
    case rs01110000 => kernel_rfl
    case rs11110000 => kernel_rfl
    case rs01111000 => kernel_rfl
    case rs11111000 => kernel_rfl
    case rs01111100 => kernel_rfl
    case es00000000_0 => intro K hK; refine wpOpIn_step rfl (fun K2 hK2 => ?_); go_simp; exact hK2 _ _ hK
    case es00000000_1 => intro K hK; refine wpOpIn_step rfl (fun K2 hK2 => ?_); go_simp; exact hK2 _ _ hK
    case es00000000_2 => intro K hK; refine wpOpIn_step rfl (fun K2 hK2 => ?_); go_simp; exact hK2 _ _ hK
    case es10000000_1 => intro K hK; refine wpOpIn_step rfl (fun K2 hK2 => ?_); go_simp; exact hK2 _ _ hK
    case es10000000_2 => intro K hK; refine wpOpIn_step rfl (fun K2 hK2 => ?_); go_simp; exact hK2 _ _ hK
    case es01000000_0 => intro K hK; refine wpOpIn_step rfl (fun K2 hK2 => ?_); go_simp; exact hK2 _ _ hK
    case es01000000_2 => intro K hK; refine wpOpIn_step rfl (fun K2 hK2 => ?_); go_simp; exact hK2 _ _ hK
    case es00100000_0 => intro K hK; refine wpOpIn_step rfl (fun K2 hK2 => ?_); go_simp; exact hK2 _ _ hK
    case es00100000_1 => intro K hK; refine wpOpIn_step rfl (fun K2 hK2 => ?_); go_simp; exact hK2 _ _ hK
    case es11000000_2 => intro K hK; refine wpOpIn_step rfl (fun K2 hK2 => ?_); go_simp; exact hK2 _ _ hK
    case es10100000_1 => intro K hK; refine wpOpIn_step rfl (fun K2 hK2 => ?_); go_simp; exact hK2 _ _ hK
    case es01100000_0 => intro K hK; refine wpOpIn_step rfl (fun K2 hK2 => ?_); go_simp; exact hK2 _ _ hK
    case es01100000_3 => intro K hK; refine wpOpIn_step rfl (fun K2 hK2 => ?_); go_simp; exact hK2 _ _ hK
    case es11100000_3 => intro K hK; refine wpOpIn_step rfl (fun K2 hK2 => ?_); go_simp; exact hK2 _ _ hK
    case es01110000_0 => intro K hK; refine wpOpIn_step rfl (fun K2 hK2 => ?_); go_simp; exact hK2 _ _ hK
    case es01110000_4 => intro K hK; refine wpOpIn_step rfl (fun K2 hK2 => ?_); go_simp; exact hK2 _ _ hK
    case es11110000_4 => intro K hK; refine wpOpIn_step rfl (fun K2 hK2 => ?_); go_simp; exact hK2 _ _ hK
    case es01111000_0 => intro K hK; refine wpOpIn_step rfl (fun K2 hK2 => ?_); go_simp; exact hK2 _ _ hK
    case es01111000_5 => intro K hK; refine wpOpIn_step rfl (fun K2 hK2 => ?_); go_simp; exact hK2 _ _ hK
    case es11111000_5 => intro K hK; refine wpOpIn_step rfl (fun K2 hK2 => ?_); go_simp; exact hK2 _ _ hK
    case es01111100_0 => intro K hK; refine wpOpIn_step rfl (fun K2 hK2 => ?_); go_simp; exact hK2 _ _ hK
    refine wpAnyIn_all (rs := [6]) (by kernel_rfl) (by simp) (fun i hi => ?_)
    obtain rfl : i = 6 := by simpa using hi
    refine wpOpIn_step rfl (fun K2 hK2 => ?_)
    refine stepIn_appendR (α := L.T3) rfl _ _ _ _ rfl _ 24 Try.underlying23 held_parts rfl (by decide) (w.heap.size + 2) v pre.length (L.picks l pre) y (by simp [Act.eval]) (ownsRow_below hrow (((Below.refl _ W).alloc (Nat.le_refl _) _).drew)) W.heap.size 45 (by simp [Act.eval]) (Blok.drew (Blok.new W _ _)) (by omega) (by simp; omega) ?_
    intro g cap w1 hown' hgrow
    refine hK2 _ _ ?_
    have x2 := pick_after hrow hgrow HV.out (by omega)
    have d2 : w1.cell? ⟨w.heap.size + 1, 0, none⟩ = some _ := x2.cell
    have f2 : w1.frozen? ⟨w.heap.size + 1, 0, none⟩ = false := x2.frozen
    clear x2 hi
    refine wpAnyIn_all (rs := [7]) (by kernel_rfl) (by simp) (fun i hi => ?_)
    obtain rfl : i = 7 := by simpa using hi
    refine wpOpIn_step rfl (fun K3 hK3 => ?_)
    go_simp
    refine hK3 _ _ ?_
    refine wpAnyIn_done (by kernel_rfl) ?_ _
    have hlm := HT.out.1
    have hE := pick_body (H := H) (X := X) HV.out hrow HN.out hH hown' hgrow
    refine ⟨hE.1.from _, hE.2.1, ⟨_, hE.2.2.1, ?_, trivial⟩, by simp; omega, hE.2.2.2.2.2, HB.out.trans hE.2.2.2.2.1⟩
    rw [L.picks_snoc, HY.out, List.length_append]
    simpa using hE.2.2.2.1
  case done =>
    rintro D ys' W hD rfl ⟨⟨v, hv, hrow, -⟩, h9, hbn, hB⟩ hK
    have c1 := hv.cell
    have f1 := hv.frozen
    clear hv hbn b1 b2
    gi_wp2
    refine ⟨by simp, .inl ⟨_, _, rfl, run_takeDeferred hK, ?_⟩⟩
    refine ⟨v, ?_, ?_⟩
    · simp [results, Try.f48, go_sem]
    · exact ⟨v, rfl, ownsRow_base (ownsRow_putObj hrow (.deferred none) hK rfl) (by omega), hB.trans (belowK_b (w := w) (Nat.le_refl _) W D _ _ (by omega) hK rfl rfl)⟩
  case stop =>
    rintro D c pre W hD hP h hK
    exact h.elim
end Go.Proofs.Ytbnhaoimdponkaa
