/-
  lease.Of, over the places.
-/
import Derived.Test.YtbnhaoimdponkaaLPick
namespace Go.Proofs.Ytbnhaoimdponkaa
open Go.RowKit Go.Shelf
attribute [local go_sem] Oper.semAt_some

theorem of_after {W w1 : World} {N B k : Nat} {v : Value} {xs : List Value} {tmp : Obj} {t : TypeId} {u : Value} (hrow : W.ownsRow N 3 1 v k xs) (hgrow : (W.alloc tmp).grownBy w1 v.ownBlock) (hb : Boxed W B t u) (hB : B < N) : Boxed w1 B t u :=
  (hb.alloc tmp).kept hgrow (fun e => by have := (hrow.lt _ e.symm).1; omega)
theorem of_body {N H X k : Nat} {W w1 : World} {v v' : Value} {xs ys : List Value} {j : Nat} {tmp : Obj} (hv : Boxed W X 50 v) (hrow : W.ownsRow H 3 1 v k xs) (hX : X < H) (hN : N ≤ X) (hH : H ≤ W.heap.size)
    (hown' : w1.ownsRow H 3 1 v' j ys) (hgrow : (W.alloc tmp).grownBy w1 v.ownBlock) :
    KeepsOthers W (w1.setCell ⟨X, 0, none⟩ v') ∧ KpL H X W (w1.setCell ⟨X, 0, none⟩ v') ∧ Boxed (w1.setCell ⟨X, 0, none⟩ v') X 50 v' ∧ (w1.setCell ⟨X, 0, none⟩ v').ownsRow H 3 1 v' j ys ∧ Below N W (w1.setCell ⟨X, 0, none⟩ v') := by
  have x0 := of_after hrow hgrow hv hX
  have hbH : Below H W w1 := ((Below.refl H W).alloc hH tmp).grown hgrow (by simp; omega) (fun k e => (hrow.lt _ e).1)
  have hbel : Below N W (w1.setCell ⟨X, 0, none⟩ v') := (hbH.mono (by omega)).setCell (p := ⟨X, 0, none⟩) hN v'
  refine ⟨?_, ⟨hbel.mono (Nat.zero_le _), fun i hi hx => ?_⟩, x0.set v', ?_, hbel⟩
  · refine ((KeepsOthers.alloc W tmp).trans (KeepsOthers.of_grownBy hgrow fun j o ej hj => ?_)).trans (KeepsOthers.setCell _ _ _)
    rcases (hrow.alloc tmp).2 with ⟨rfl, _⟩ | ⟨g, cap, cur, rfl, _, hgb, _⟩
    · simp [Value.ownBlock] at ej
    · obtain rfl : g = j := by simpa [Value.ownBlock] using ej
      rw [hgb] at hj; cases hj; rfl
  · exact (Below.heap_setCell w1 ⟨X, 0, none⟩ v' i hx).trans (hbH.block i hi)
  · exact hown'.kept (grownBy_setCell' w1 X v') (.inr (by intro e; have := (hown'.lt _ e).1; omega))

set_option maxRecDepth 100000 in
set_option maxHeartbeats 1000000 in
theorem of_in (n : Nat) (hn : 6 ≤ n) (a : Option Addr) (m c : Nat) (l : List L.Ls) (sub : Int) (w : World) (h : RIn w a m c l) (hm : m ≤ 1000) :
    CallsIn Fence.wide n Try.prog 24 #[.slice a m c, .int .i64 sub] w fun e w' => ∃ v, e = .returned v ∧ w'.ownsRow w.heap.size 3 1 v (L.of l sub).length ((L.of l sub).map (Value.int .i64)) ∧ Below w.heap.size w w' := by
  have h1 : 1 ≤ n := by omega
  have hro : Fence.wide.round = none := rfl
  have hf1 : Fence.wide.fn 24 := trivial
  have hf2 : Fence.wide.fn 32 := trivial
  have hf3 : Fence.wide.fn 31 := trivial
  have hf4 : Fence.wide.fn 54 := trivial
  obtain ⟨i0, hi, hz0, hz1, hz2⟩ := info_parts info3
  obtain ⟨W0, hW0⟩ : ∃ W, (w.alloc (.cells #[.int .i64 sub] 3)).alloc (.cells #[.slice none 0 0] 50) = W := ⟨_, rfl⟩
  have B0 : Below w.heap.size w W0 := by rw [← hW0]; exact ((Below.refl _ w).alloc (Nat.le_refl _) _).alloc (by simp) _
  have s0 : W0.heap.size = w.heap.size + 2 := by rw [← hW0]; simp
  have K0 : Blok W0 w.heap.size 3 #[.int .i64 sub] := by rw [← hW0]; exact (Blok.new w 3 #[.int .i64 sub]).alloc _
  have b0 : Boxed W0 (w.heap.size + 1) 50 (.slice none 0 0) := by
    rw [← hW0]; have := Boxed.new (w.alloc (.cells #[.int .i64 sub] 3)) 50 (.slice none 0 0)
    rwa [World.size_alloc] at this
  have cl := leases_is a m c l W0 (h.below B0) hm
  have hl1 : l.length = m := h.1
  refine callsIn_of_wp_marks Try.func24 rfl hf1 ?_ hro
  simp only [Try.ntmps24, List.size_toArray, List.length_cons, List.length_nil, Nat.reduceAdd, Nat.reduceSub, Array.replicate_succ, Array.replicate_zero, List.push_toArray, List.append_toArray, List.nil_append, List.cons_append]
  gi_wp2_with fail
  refine (callsIn_wide.2 cl).mono ?_
  rintro e w2 ⟨a2, c2, rfl, hr2, hb2, hfar2⟩
  have B2 : Below w.heap.size w w2 := B0.trans (hb2.mono B0.size)
  have K2 : Blok w2 w.heap.size 3 #[.int .i64 sub] := K0.below hb2 K0.lt
  have b2 : Boxed w2 (w.heap.size + 1) 50 (.slice none 0 0) := b0.kept (L.below_none hb2) (by simp)
  have s2 : W0.heap.size ≤ w2.heap.size := hb2.size
  have hA := of1 w.heap.size sub w2 K2 w2.heap.size (w.heap.size + 1) K2.lt (by omega)
  have cp := had_any (w.heap.size + 1) a2 m c2 (l.map L.had) 47 (enters_of Try.func47 (by kernel_rfl) rfl) #[.pointer (some ⟨w.heap.size, 0, none⟩)] _ w2 hr2.out hA ⟨by omega, by omega⟩ (.inr fun x hx => by have := hfar2.out x hx; omega)
  clear cl hW0 b0 K0
  gi_wp2_with fail
  refine (callsIn_wide.2 cp).mono ?_
  rintro e w5 ⟨bl, rfl, hG, hb5, hs5⟩
  have hb : Below w.heap.size w w5 := B2.trans (hb5.mono B2.size)
  have b1 : Boxed w5 (w.heap.size + 1) 50 (.slice none 0 0) := b2.kept (L.below_none hb5) (by simp)
  rw [← hs5] at hG
  have hlen : (l.map L.had).length = m := by rw [List.length_map]; exact hl1
  clear cp hA b2 K2
  gi_wp2_with fail
  refine wpIn_rangeFunc_ownG hro h1 (gf := 54) (lb := bl) rfl hf4 (enters_of Try.func54 (by kernel_rfl) rfl)
    (hG (n - 1) (by omega)) KpL.t (fun W l o o' hl hW _ _ => KpL.book (w := w5) (Nat.le_refl _) W l o o' hl hW) (Below.refl _ _) (fun _ => rfl)
    (fun pre W => (∃ v, Boxed W (w.heap.size + 1) 50 v ∧ W.ownsRow w5.heap.size 3 1 v pre.length (pre.map (fun x => Value.int .i64 (x.val : Int))) ∧ True) ∧ pre.length ≤ m + 1 ∧ Below w.heap.size w W ∧ w5.heap.size ≤ W.heap.size)
    (fun c pre W => False)
    (OwnFrom.and (Own.from (holdsRow_own w5.heap.size (w.heap.size + 1) 50 3 1 (fun pre : List (Fin (l.map L.had).length) => pre.length) (fun pre => pre.map (fun x => Value.int .i64 (x.val : Int))) (fun _ _ => True)) _)
      (OwnFrom.and (ownFrom_pure _ (fun pre : List (Fin (l.map L.had).length) => pre.length ≤ m + 1)) (OwnFrom.and (ownFrom_below (Nat.le_refl _) (by omega)) (fun s W W' row h hg hr => Nat.le_trans h hg.size))))
    (fun c => ownFrom_pure _ _)
    ⟨⟨_, b1, World.ownsRow_nil _ _ _ _, trivial⟩, by simp, hb, Nat.le_refl _⟩
    (fun x => { tmps := #[.slice a m c, .int .i64 sub, undef, .pointer (some ⟨w.heap.size, 0, none⟩), .slice none 0 0, .pointer (some ⟨w.heap.size + 1, 0, none⟩), .int .i64 (x.val : Int), .slice a m c, .slice a2 m c2, .func (.func 47) #[] #[.pointer (some ⟨w.heap.size, 0, none⟩)], .func (.func 54) #[] bl, .int .i64 (x.val : Int), undef, undef, undef, undef, undef], defers := [] }) ?assign ?body ?done ?stop
  case assign =>
    intro l x W K hK
    gi_wp2
    exact hK
  case body =>
    rintro r pre x W ⟨⟨v, hv, hrow, -⟩, h9, hB, hsW⟩ hlt
    have c1 := hv.cell
    have f1 := hv.frozen
    have HV := Lib.hid hv
    have HB := Lib.hid hB
    clear hv hB b1 hb
    gi_wp2_with (gi_at_builtin; refine wpListIn_append_own _ rfl _ _ 50 rfl w5.heap.size 3 i0 (.int .i64 0) 1 8 Try.underlying50 hi hz0 hz1 hz2 rfl (by decide) v pre.length _ rfl (hrow.alloc _) ⟨W.heap.size, 0, none⟩ 1 1 [.int .i64 (x.val : Int)] rfl rfl (cell_one_new _ _ _) (by simp [Value.oneCell']) (by unfold maxLen; omega) (by omega) (by simp; omega) ?_; intro v' w1 hown' hgrow _; obtain ⟨g', cap', rfl⟩ := ownsRow_succ hown'; have x2 := of_after hrow hgrow HV.out (by omega); have d2 : w1.cell? ⟨w.heap.size + 1, 0, none⟩ = some _ := x2.cell; have f2 : w1.frozen? ⟨w.heap.size + 1, 0, none⟩ = false := x2.frozen; clear x2)
    have hE := of_body (N := w.heap.size) HV.out hrow (by omega) (by omega) hsW hown' hgrow
    refine ⟨hE.1.from _, hE.2.1, ⟨_, hE.2.2.1, ?_, trivial⟩, by simp; omega, HB.out.trans hE.2.2.2.2, Nat.le_trans hsW hE.2.1.1.size⟩
    rw [List.length_append, List.map_append]
    simpa using hE.2.2.2.1
  case done =>
    rintro D ys' W hD rfl ⟨⟨v, hv, hrow, -⟩, h9, hB, hsW⟩ hK
    have c1 := hv.cell
    have f1 := hv.frozen
    clear hv b1
    gi_wp2
    refine ⟨by simp, .inl ⟨_, _, rfl, run_takeDeferred hK, ?_⟩⟩
    refine ⟨v, ?_, ?_⟩
    · simp [results, Try.f24, go_sem]
    · refine ⟨v, rfl, ?_, hB.trans (belowK_b (w := w) (Nat.le_refl _) W D _ _ (by omega) hK rfl rfl)⟩
      have := ownsRow_base (ownsRow_putObj hrow (.deferred none) hK rfl) (show w.heap.size ≤ w5.heap.size from hb.size)
      unfold L.of
      rw [List.length_map, List.map_map]
      exact this
  case stop =>
    rintro D c pre W hD hP h hK
    exact h.elim
theorem L.of_wf (l : List L.Ls) (s : Int) (hl : l.length ≤ 1000) : ∀ x ∈ L.of l s, (Lit.int .i64 x).wf = true := by
  intro x hx
  unfold L.of at hx
  obtain ⟨i, _, rfl⟩ := List.mem_map.1 hx
  have := i.2
  have h2 : (l.map L.had).length = l.length := List.length_map _
  simp [Lit.wf, IntKind.min, IntKind.max, IntKind.bits, IntKind.signed]; omega
/-- **Of**. -/
theorem of_any (a : Option Addr) (m c : Nat) (l : List L.Ls) (sub : Int) (k : List Int) (hk : L.of l sub = k) (w : World) (h : RIn w a m c l) (hm : m ≤ 1000) :
    Calls Try.prog 24 #[.slice a m c, .int .i64 sub] w fun e w' => ∃ a2 c2 n2, e = .returned (.slice a2 n2 c2) ∧ Hid (k.length = n2) ∧ Hid (RowIn .i64 w' a2 c2 k) ∧ Below w.heap.size w w' :=
  ((callsIn_wide (n := 6)).1 (of_in 6 (by omega) a m c l sub w h hm)).mono fun e w' ⟨v, he, ho, hb⟩ => by
    rw [hk] at ho
    obtain ⟨a2, c2, rfl, _, hr⟩ := ownsRow_rowIn ho (by rw [← hk]; exact L.of_wf l sub (by rw [h.1]; exact hm))
    exact ⟨a2, c2, _, he, rfl, hr, hb⟩
end Go.Proofs.Ytbnhaoimdponkaa
