/-
  Walk of moorings/vari.Read, over the iterator's contract: the list whose bytes are given, and true; nothing and false, if there is none. For every slice of bytes (up to a million; the statements ask no more than 3000).
-/
import Derived.Test.YtebiogadkamgcaaVIter
namespace Go.Proofs.Ytebiogadkamgcaa
open Go.RowKit Go.Shelf
attribute [local go_sem] Oper.semAt_some

set_option maxHeartbeats 1000000 in
theorem numbers_in (n : Nat) (a : Option Addr) (len cap : Nat) (w : World) :
    CallsIn Fence.wide n Try.prog 37 #[.slice a len cap] w fun e w' => e = .returned (.func (.func 41) #[] #[.pointer (some ⟨w.heap.size, 0, none⟩)]) ∧ w' = w.alloc (.cells #[.slice a len cap] 23) := by
  have hf20 : Fence.wide.fn 37 := trivial
  refine callsIn_of_wp Try.func37 rfl hf20 ?_ rfl
  simp only [Try.ntmps37, List.size_toArray, List.length_cons, List.length_nil, Nat.reduceAdd, Nat.reduceSub, Array.replicate_succ, Array.replicate_zero, List.push_toArray, List.append_toArray, List.nil_append, List.cons_append]
  gi_wp2
  go_ret
  exact ⟨rfl, rfl⟩

theorem nums_stops (n H Bn : Nat) (hn : 3 ≤ n) (a : Option Addr) (len cap : Nat) (L : List Int) (hlen : L.length = len) (W0 w : World) (hBn : Boxed w Bn 23 (.slice a len cap)) (hH : W0.heap.size ≤ H) (hHw : H ≤ w.heap.size) (hW0 : Below H W0 w) (hL : RowIn .u8 W0 a cap L) :
    SeqStopsK Fence.wide n Try.prog 41 #[.pointer (some ⟨Bn, 0, none⟩)] enc2 (Kp H Bn) (Seen L) (SeenP L) (L.length + 1) w := fun l J Jx W hW _ _ hY h0 =>
  nums1_in n l Bn H hn a len cap L hlen J Jx hY W W0 ((hW.block Bn hBn.lt).trans hBn) hH (hW0.trans (hW.mono hHw)) hL h0

/-- What the loop's cells hold between two rounds. -/
def Inv (w0 : World) (H : Nat) (sl : Value) (pre : List (Int × Int)) (W : World) : Prop :=
  ((∃ v, Boxed W (H + 2) 40 v ∧ W.ownsRow (H + 5) 3 1 v pre.length ((pre.map Prod.fst).map (Value.int .i64)) ∧ True) ∧ Boxed W (H + 3) 3 (.int .i64 (lastE pre)) ∧ Boxed W (H + 4) 23 sl ∧ Boxed W H 40 (.slice none 0 0) ∧ Boxed W (H + 1) 4 (.bool false)) ∧ pre.length ≤ 400 ∧ Below H w0 W

theorem inv_own (w0 : World) (H B : Nat) (sl : Value) (hH : H ≤ w0.heap.size) (hB : H ≤ B) : OwnFrom B (Inv w0 H sl) :=
  OwnFrom.and (OwnFrom.and (Own.from (holdsRow_own (H + 5) (H + 2) 40 3 1 (fun pre : List (Int × Int) => pre.length) (fun pre => (pre.map Prod.fst).map (Value.int .i64)) (fun _ _ => True)) _)
    (OwnFrom.and (Own.from (boxed_own (H + 3) 3 (fun pre : List (Int × Int) => Value.int .i64 (lastE pre))) _) (OwnFrom.and (Own.from (boxed_own (H + 4) 23 (fun _ => sl)) _)
      (OwnFrom.and (Own.from (boxed_own H 40 (fun _ => .slice none 0 0)) _) (Own.from (boxed_own (H + 1) 4 (fun _ => .bool false)) _)))))
    (OwnFrom.and (ownFrom_pure B (fun pre : List (Int × Int) => pre.length ≤ 400)) (ownFrom_below hH hB))

theorem box_after {W w1 : World} {H k B : Nat} {v : Value} {xs : List Value} {tmp : Obj} {t : TypeId} {u : Value} (hrow : W.ownsRow (H + 5) 3 1 v k xs) (hgrow : (W.alloc tmp).grownBy w1 v.ownBlock) (hb : Boxed W B t u) (hB : B < H + 5) : Boxed w1 B t u :=
  (hb.alloc tmp).kept hgrow (fun e => by have := (hrow.lt _ e.symm).1; omega)

theorem body_end {w0 W w1 : World} {H : Nat} {sl v v' : Value} {pre : List (Int × Int)} {x : Int × Int} {tmp : Obj} (hv : Boxed W (H + 2) 40 v) (hrow : W.ownsRow (H + 5) 3 1 v pre.length ((pre.map Prod.fst).map (Value.int .i64)))
    (b3 : Boxed W (H + 3) 3 (.int .i64 (lastE pre))) (b4 : Boxed W (H + 4) 23 sl) (b0 : Boxed W H 40 (.slice none 0 0)) (b1 : Boxed W (H + 1) 4 (.bool false)) (hl : pre.length < 400) (hB : Below H w0 W)
    (hown' : w1.ownsRow (H + 5) 3 1 v' (pre.length + 1) ((pre.map Prod.fst).map (Value.int .i64) ++ [.int .i64 x.1])) (hgrow : (W.alloc tmp).grownBy w1 v.ownBlock) :
    KeepsOthers W ((w1.setCell ⟨H + 2, 0, none⟩ v').setCell ⟨H + 3, 0, none⟩ (.int .i64 x.2)) ∧ Kp H (H + 4) W ((w1.setCell ⟨H + 2, 0, none⟩ v').setCell ⟨H + 3, 0, none⟩ (.int .i64 x.2)) ∧
      Inv w0 H sl (pre ++ [x]) ((w1.setCell ⟨H + 2, 0, none⟩ v').setCell ⟨H + 3, 0, none⟩ (.int .i64 x.2)) := by
  have x0 := box_after hrow hgrow b0 (by omega)
  have x1 := box_after hrow hgrow b1 (by omega)
  have x2 := box_after hrow hgrow hv (by omega)
  have x3 := box_after hrow hgrow b3 (by omega)
  have x4 := box_after hrow hgrow b4 (by omega)
  have hws := b4.lt
  have hbel : Below H W ((w1.setCell ⟨H + 2, 0, none⟩ v').setCell ⟨H + 3, 0, none⟩ (.int .i64 x.2)) :=
    (((Below.refl H W).alloc (by omega) tmp).grown hgrow (by simp; omega) (fun k e => by have := (hrow.lt _ e).1; omega)).setCell (p := ⟨H + 2, 0, none⟩) (by simp) v' |>.setCell (p := ⟨H + 3, 0, none⟩) (by simp) _
  have z4 := (x4.other (B' := H + 2) (by omega) v').other (B' := H + 3) (by omega) (.int .i64 x.2)
  refine ⟨?_, ⟨hbel, ?_⟩, ⟨⟨v', (x2.set v').other (by omega) _, ?_, trivial⟩, ?_, z4, (x0.other (by omega) _).other (by omega) _, (x1.other (by omega) _).other (by omega) _⟩, by simp; omega, hB.trans hbel⟩
  · refine (((KeepsOthers.alloc W tmp).trans (KeepsOthers.of_grownBy hgrow fun j o ej hj => ?_)).trans (KeepsOthers.setCell _ _ _)).trans (KeepsOthers.setCell _ _ _)
    rcases (hrow.alloc tmp).2 with ⟨rfl, _⟩ | ⟨g, cap, cur, rfl, _, hgb, _⟩
    · simp [Value.ownBlock] at ej
    · obtain rfl : g = j := by simpa [Value.ownBlock] using ej
      rw [hgb] at hj; cases hj; rfl
  · exact (show _ = _ from z4).trans (show _ = _ from b4).symm
  · have r1 := (hown'.kept (grownBy_setCell' w1 (H + 2) v') (.inr (by intro e; have := (hown'.lt _ e).1; omega))).kept (grownBy_setCell' _ (H + 3) (.int .i64 x.2)) (.inr (by intro e; have := (hown'.lt _ e).1; omega))
    simpa using r1
  · rw [lastE_snoc]
    exact (x3.other (B' := H + 2) (by omega) v').set _

set_option maxRecDepth 100000 in
set_option maxHeartbeats 2000000 in
theorem read_in (n : Nat) (hn : 5 ≤ n) (a : Option Addr) (len cap : Nat) (L : List Int) (w : World) (hlen : L.length = len) (h : RowIn .u8 w a cap L) :
    CallsIn Fence.wide n Try.prog 24 #[.slice a len cap] w (ReadIs L w.heap.size w) := by
  have h1 : 1 ≤ n := by omega
  have hro : Fence.wide.round = none := rfl
  have hf14 : Fence.wide.fn 24 := trivial
  have hf20 : Fence.wide.fn 37 := trivial
  have hf21 : Fence.wide.fn 41 := trivial
  obtain ⟨i0, hi, hz0, hz1, hz2⟩ := info_parts info3
  have HL := Lib.hid h
  have HE := Lib.hid hlen
  clear h hlen
  refine callsIn_of_wp_marks Try.func24 rfl hf14 ?_ hro
  simp only [Try.ntmps24, List.size_toArray, List.length_cons, List.length_nil, Nat.reduceAdd, Nat.reduceSub, Array.replicate_succ, Array.replicate_zero, List.push_toArray, List.append_toArray, List.nil_append, List.cons_append]
  gi_wp2_with (gi_at_call 37; refine (numbers_in (n - 1) a len cap _).mono ?_; rintro e w' ⟨rfl, rfl⟩)
  obtain ⟨w5, hw5⟩ : ∃ w5, (((((w.alloc (.cells #[.slice none 0 0] 40)).alloc (.cells #[.bool false] 4)).alloc (.cells #[.slice none 0 0] 40)).alloc (.cells #[.int .i64 0] 3)).alloc (.cells #[.slice a len cap] 23)) = w5 := ⟨_, rfl⟩
  have hb : Below w.heap.size w w5 := by rw [← hw5]; exact (((((Below.refl _ w).alloc (Nat.le_refl _) _).alloc (by simp) _).alloc (by simp; omega) _).alloc (by simp; omega) _).alloc (by simp; omega) _
  have hsz : w5.heap.size = w.heap.size + 5 := by rw [← hw5]; simp
  have b0 : Boxed w5 w.heap.size 40 (.slice none 0 0) := by rw [← hw5]; exact ((((Boxed.new w 40 _).alloc _).alloc _).alloc _).alloc _
  have b1 : Boxed w5 (w.heap.size + 1) 4 (.bool false) := by
    rw [← hw5]; have := (((Boxed.new (w.alloc (.cells #[.slice none 0 0] 40)) 4 (.bool false)).alloc (.cells #[.slice none 0 0] 40)).alloc (.cells #[.int .i64 0] 3)).alloc (.cells #[.slice a len cap] 23)
    rwa [World.size_alloc] at this
  have b2 : Boxed w5 (w.heap.size + 2) 40 (.slice none 0 0) := by
    rw [← hw5]; have := ((Boxed.new ((w.alloc (.cells #[.slice none 0 0] 40)).alloc (.cells #[.bool false] 4)) 40 (.slice none 0 0)).alloc (.cells #[.int .i64 0] 3)).alloc (.cells #[.slice a len cap] 23)
    simpa [World.size_alloc] using this
  have b3 : Boxed w5 (w.heap.size + 3) 3 (.int .i64 0) := by
    rw [← hw5]; have := (Boxed.new (((w.alloc (.cells #[.slice none 0 0] 40)).alloc (.cells #[.bool false] 4)).alloc (.cells #[.slice none 0 0] 40)) 3 (.int .i64 0)).alloc (.cells #[.slice a len cap] 23)
    simpa [World.size_alloc] using this
  have b4 : Boxed w5 (w.heap.size + 4) 23 (.slice a len cap) := by
    rw [← hw5]; have := Boxed.new ((((w.alloc (.cells #[.slice none 0 0] 40)).alloc (.cells #[.bool false] 4)).alloc (.cells #[.slice none 0 0] 40)).alloc (.cells #[.int .i64 0] 3)) 23 (.slice a len cap)
    simpa [World.size_alloc] using this
  rw [hw5]
  clear hw5
  refine wpIn_rangeFunc_ownG hro h1 (gf := 41) (lb := #[.pointer (some ⟨w.heap.size + 4, 0, none⟩)]) rfl hf21 (enters_of Try.func41 (by kernel_rfl) rfl)
    (nums_stops (n - 1) w.heap.size (w.heap.size + 4) (by omega) a len cap L HE.out w w5 b4 (Nat.le_refl _) hb.size hb HL.out) Kp.t (fun W l o o' hl hW hc _ => ⟨(Below.refl _ W).grown (grownBy_putObj' W l o') (by have := (Array.getElem?_eq_some_iff.1 hW).1; omega) (fun k e => by cases e; omega), (grownBy_putObj' W l o').block _ (by have := (Array.getElem?_eq_some_iff.1 hW).1; omega) (fun e => by cases e; omega)⟩) (Below.refl _ _) (fun _ => rfl)
    (Inv w w.heap.size (.slice a len cap))
    (fun c pre W => c = .ret ∧ 400 < pre.length ∧ Boxed W w.heap.size 40 (.slice none 0 0) ∧ Boxed W (w.heap.size + 1) 4 (.bool false) ∧ Below w.heap.size w W)
    (inv_own _ _ _ _ (Nat.le_refl _) (by omega))
    (fun c => OwnFrom.and (ownFrom_pure _ _) (OwnFrom.and (ownFrom_pure _ _) (OwnFrom.and (Own.from (boxed_own _ _ (fun _ => .slice none 0 0)) _) (OwnFrom.and (Own.from (boxed_own _ _ (fun _ => .bool false)) _) (ownFrom_below (Nat.le_refl _) (by omega))))))
    ⟨⟨⟨_, b2, World.ownsRow_nil _ _ _ _, trivial⟩, b3, b4, b0, b1⟩, by simp, hb⟩
    (fun x => { tmps := #[.slice a len cap, undef, .pointer (some ⟨w.heap.size, 0, none⟩), .pointer (some ⟨w.heap.size + 1, 0, none⟩), .pointer (some ⟨w.heap.size + 1 + 1, 0, none⟩), .pointer (some ⟨w.heap.size + 1 + 1 + 1, 0, none⟩), .int .i64 x.1, .int .i64 x.2, .slice a len cap, .func (.func 41) #[] #[.pointer (some ⟨w.heap.size + 1 + 1 + 1 + 1, 0, none⟩)], .int .i64 x.1, .int .i64 x.2, undef, undef, undef, undef, undef, undef, undef, undef, undef, undef, undef, undef, undef], defers := [] }) ?assign ?body ?done ?stop
  case assign =>
    intro l x W K hK
    gi_wp2
    exact hK
  case body =>
    rintro l pre x W ⟨⟨⟨v, hv, hrow, -⟩, b3, b4, b0, b1⟩, h400, hB⟩ hlt
    have c2 : W.cell? ⟨w.heap.size + 1 + 1, 0, none⟩ = some v := hv.cell
    have c0 := b0.cell
    have c1 := b1.cell
    have f0 := b0.frozen
    have f1 := b1.frozen
    have hws := b4.lt
    obtain ⟨a1, cap1, rfl⟩ := ownsRow_form hrow
    have HV := Lib.hid hv
    have HBo := Lib.hid (And.intro b0 b1)
    have HB4 := Lib.hid (And.intro b3 b4)
    clear hv b0 b1 b3 b4
    by_cases h4 : pre.length = 400
    · have ht : ((pre.length : Int) == 400) = true := by simp; omega
      have H4 := Lib.hid h4
      clear h4
      gi_wp2
      refine ⟨((KeepsOthers.setCell _ _ _).trans (KeepsOthers.setCell _ _ _)).from _, rfl, by simp [H4.out], (HBo.out.1.set _).other (by omega) _, (HBo.out.2.other (by omega) _).set _, (hB.setCell (p := ⟨w.heap.size, 0, none⟩) (Nat.le_refl _) _).setCell (p := ⟨w.heap.size + 1, 0, none⟩) (by simp) _⟩
    · have ht : ((pre.length : Int) == 400) = false := by simp; omega
      have h4' : pre.length < 400 := by omega
      clear h4
      gi_wp2_with (gi_at_builtin; refine wpListIn_append_own _ rfl _ _ 40 rfl (w.heap.size + 5) 3 i0 (.int .i64 0) 1 8 Try.underlying40 hi hz0 hz1 hz2 rfl (by decide) _ _ _ rfl (hrow.alloc _) ⟨W.heap.size, 0, none⟩ 1 1 [.int .i64 x.1] rfl rfl (cell_one_new _ _ _) (by simp [Value.oneCell']) (by unfold maxLen; omega) (by omega) (by simp; omega) ?_; intro v' w1 hown' hgrow _; obtain ⟨g', cap', rfl⟩ := ownsRow_succ hown'; have x2 := box_after hrow hgrow HV.out (by omega); have x3 := box_after hrow hgrow HB4.out.1 (by omega); have d2 : w1.cell? ⟨w.heap.size + 1 + 1, 0, none⟩ = some _ := x2.cell; have d3 : w1.cell? ⟨w.heap.size + 1 + 1 + 1, 0, none⟩ = some _ := x3.cell; have f2 : w1.frozen? ⟨w.heap.size + 1 + 1, 0, none⟩ = false := x2.frozen; have f3 : w1.frozen? ⟨w.heap.size + 1 + 1 + 1, 0, none⟩ = false := x3.frozen; clear x2 x3)
      have hE := body_end (x := x) HV.out hrow HB4.out.1 HB4.out.2 HBo.out.1 HBo.out.2 h4' hB hown' hgrow
      exact ⟨hE.1.from _, hE.2.1, hE.2.2⟩
  case done =>
    rintro D ys W hD ⟨p, hP, hE, hnone⟩ ⟨⟨⟨v, hv, hrow, -⟩, b3, b4, b0, b1⟩, h400, hB⟩ hK
    have c3 : W.cell? ⟨w.heap.size + 1 + 1 + 1, 0, none⟩ = some (.int .i64 (p : Int)) := by rw [← hE]; exact b3.cell
    have c2 : W.cell? ⟨w.heap.size + 1 + 1, 0, none⟩ = some v := hv.cell
    have c0 := b0.cell
    have c1 := b1.cell
    have f0 := b0.frozen
    have f1 := b1.frozen
    have HV := Lib.hid hv
    have HRo := Lib.hid hrow
    have HBo := Lib.hid (And.intro b0 b1)
    have HP := Lib.hid hP
    have HNo := Lib.hid hnone
    have hpl := hP.1
    rw [HE.out] at hpl
    clear hv hrow b0 b1 b3 b4 hP hnone hE
    by_cases hlt : p < len
    · have HN := Lib.hid (HP.out.fail (by rw [HE.out]; exact hlt) HNo.out)
      gi_wp2
      have b0' := (HBo.out.1.set (.slice none 0 0)).other (B' := w.heap.size + 1) (by omega) (.bool false)
      have b1' := (HBo.out.2.other (B' := w.heap.size) (by omega) (.slice none 0 0)).set (.bool false)
      have hK' := ((KeepsOthers.setCell W ⟨w.heap.size, 0, none⟩ (.slice none 0 0)).trans (KeepsOthers.setCell _ ⟨w.heap.size + 1, 0, none⟩ (.bool false))).same D _ hK rfl
      refine ⟨by simp, .inl ⟨_, _, rfl, run_takeDeferred hK', ?_⟩⟩
      have d0 := (cell_kept b0'.cell (grownBy_putObj' _ D (.deferred none)) (fun r e => by cases e; exact ⟨_, hK', rfl⟩))
      have d1 := (cell_kept b1'.cell (grownBy_putObj' _ D (.deferred none)) (fun r e => by cases e; exact ⟨_, hK', rfl⟩))
      refine ⟨.tuple #[.slice none 0 0, .bool false], ?_, ?_⟩
      · simp [results, Try.f24, go_sem, d0, d1]
      · exact .no HN.out (((hB.setCell (p := ⟨w.heap.size, 0, none⟩) (Nat.le_refl _) _).setCell (p := ⟨w.heap.size + 1, 0, none⟩) (by simp) _).trans (belowK_b (w := w) (Nat.le_refl _) _ D _ _ (by omega) hK' rfl rfl))
    · have HN := Lib.hid (HP.out.done (by rw [HE.out]; omega) (by simpa using h400))
      have hd : decide (p < len) = false := by simp; omega
      obtain ⟨a1, cap1, rfl⟩ := ownsRow_form HRo.out
      gi_wp2
      have b0' := (HBo.out.1.set (.slice a1 ys.length cap1)).other (B' := w.heap.size + 1) (by omega) (.bool true)
      have b1' := (HBo.out.2.other (B' := w.heap.size) (by omega) (.slice a1 ys.length cap1)).set (.bool true)
      have hK' := ((KeepsOthers.setCell W ⟨w.heap.size, 0, none⟩ (.slice a1 ys.length cap1)).trans (KeepsOthers.setCell _ ⟨w.heap.size + 1, 0, none⟩ (.bool true))).same D _ hK rfl
      refine ⟨by simp, .inl ⟨_, _, rfl, run_takeDeferred hK', ?_⟩⟩
      have d0 := (cell_kept b0'.cell (grownBy_putObj' _ D (.deferred none)) (fun r e => by cases e; exact ⟨_, hK', rfl⟩))
      have d1 := (cell_kept b1'.cell (grownBy_putObj' _ D (.deferred none)) (fun r e => by cases e; exact ⟨_, hK', rfl⟩))
      refine ⟨.tuple #[.slice a1 ys.length cap1, .bool true], ?_, ?_⟩
      · simp [results, Try.f24, go_sem, d0, d1]
      · refine .yes HN.out ?_ (((hB.setCell (p := ⟨w.heap.size, 0, none⟩) (Nat.le_refl _) _).setCell (p := ⟨w.heap.size + 1, 0, none⟩) (by simp) _).trans (belowK_b (w := w) (Nat.le_refl _) _ D _ _ (by omega) hK' rfl rfl))
        have r1 := (HRo.out.kept (grownBy_setCell' W w.heap.size (.slice a1 ys.length cap1)) (.inr (by intro e; have := (HRo.out.lt _ e).1; omega))).kept (grownBy_setCell' _ (w.heap.size + 1) (.bool true)) (.inr (by intro e; have := (HRo.out.lt _ e).1; omega))
        have r2 := ownsRow_putObj r1 (.deferred none) hK' rfl
        exact ownsRow_base (by simpa using r2) (by omega)
  case stop =>
    rintro D c pre W hD ⟨p, hP⟩ ⟨rfl, h400, b0, b1, hB⟩ hK
    have HN := Lib.hid (hP.over (by simpa using h400))
    gi_wp2
    refine ⟨by simp, .inl ⟨_, _, rfl, run_takeDeferred hK, ?_⟩⟩
    have c0 := (cell_kept b0.cell (grownBy_putObj' _ D (.deferred none)) (fun r e => by cases e; exact ⟨_, hK, rfl⟩))
    have c1 := (cell_kept b1.cell (grownBy_putObj' _ D (.deferred none)) (fun r e => by cases e; exact ⟨_, hK, rfl⟩))
    refine ⟨.tuple #[.slice none 0 0, .bool false], ?_, ?_⟩
    · simp [results, Try.f24, go_sem, c0, c1]
    · exact .no HN.out (hB.trans (belowK_b (w := w) (Nat.le_refl _) W D _ _ (by omega) hK rfl rfl))

/-- **Read**, at whatever slice of bytes. -/
theorem read_any (a : Option Addr) (len cap : Nat) (L : List Int) (w : World) (hl : L.length = len) (h : RowIn .u8 w a cap L) :
    Calls Try.prog 24 #[.slice a len cap] w (ReadIs L w.heap.size w) := (callsIn_wide (n := 5)).1 (read_in 5 (by omega) a len cap L w hl h)

/-- What Read tells, as a slice. -/
theorem readRow_any (a : Option Addr) (len cap : Nat) (L : List Int) (w : World) (hl : L.length = len) (h : RowIn .u8 w a cap L) : Calls Try.prog 24 #[.slice a len cap] w fun e w' =>
    ∃ a' cap' n', e = .returned (.tuple #[.slice a' n' cap', .bool (M.read L).isSome]) ∧ Hid (((M.read L).getD []).length = n') ∧ Hid (RowIn .i64 w' a' cap' ((M.read L).getD [])) ∧ Below w.heap.size w w' :=
  (read_any a len cap L w hl h).mono fun e w' ⟨v, ok, he, hok, ho, hb⟩ => by
    obtain ⟨a', cap', rfl, _, hr⟩ := ownsRow_rowIn ho (read_wf L)
    exact ⟨a', cap', _, by rw [he, hok], rfl, hr, hb⟩

end Go.Proofs.Ytebiogadkamgcaa
