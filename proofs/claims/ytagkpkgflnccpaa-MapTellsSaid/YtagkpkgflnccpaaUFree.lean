/-
  Walk of moorings/bitmap.Free, over the iterator's contract.
-/
import Derived.Test.YtagkpkgflnccpaaUFirst
namespace Go.Proofs.Ytagkpkgflnccpaa
open Go.RowKit Go.Shelf
attribute [local go_sem] Oper.semAt_some

/-- What Free tells: a slice of its own. -/
def FreeIs (n u : Int) (w : World) (e : Ending) (w' : World) : Prop :=
  ∃ v, e = .returned v ∧ w'.ownsRow w.heap.size 3 1 v (U.free n u).length ((U.free n u).map (Value.int .i64)) ∧ Below w.heap.size w w'

theorem ubox_after {W w1 : World} {N B k : Nat} {v : Value} {xs : List Value} {tmp : Obj} {t : TypeId} {u : Value} (hrow : W.ownsRow N 3 1 v k xs) (hgrow : (W.alloc tmp).grownBy w1 v.ownBlock) (hb : Boxed W B t u) (hB : B < N) : Boxed w1 B t u :=
  (hb.alloc tmp).kept hgrow (fun e => by have := (hrow.lt _ e.symm).1; omega)

theorem free_body {N H k : Nat} {W w1 : World} {v v' : Value} {m u : Int} {xs ys : List Value} {j : Nat} {tmp : Obj} (hv : Boxed W N 29 v) (hrow : W.ownsRow (N + 2) 3 1 v k xs) (hBn : Blok W (N + 1) 23 #[.int .i64 m, .int .i64 u]) (hH : H ≤ N)
    (hown' : w1.ownsRow (N + 2) 3 1 v' j ys) (hgrow : (W.alloc tmp).grownBy w1 v.ownBlock) :
    KeepsOthers W (w1.setCell ⟨N, 0, none⟩ v') ∧ KpU H (N + 1) W (w1.setCell ⟨N, 0, none⟩ v') ∧ Boxed (w1.setCell ⟨N, 0, none⟩ v') N 29 v' ∧ (w1.setCell ⟨N, 0, none⟩ v').ownsRow (N + 2) 3 1 v' j ys ∧ Below H W (w1.setCell ⟨N, 0, none⟩ v') ∧ Blok (w1.setCell ⟨N, 0, none⟩ v') (N + 1) 23 #[.int .i64 m, .int .i64 u] := by
  have x0 := ubox_after hrow hgrow hv (by omega)
  have hws := hBn.lt
  have hbel : Below H W (w1.setCell ⟨N, 0, none⟩ v') :=
    (((Below.refl H W).alloc (by omega) tmp).grown hgrow (by simp; omega) (fun k e => by have := (hrow.lt _ e).1; omega)).setCell (p := ⟨N, 0, none⟩) hH v'
  have z1 : Blok (w1.setCell ⟨N, 0, none⟩ v') (N + 1) 23 #[.int .i64 m, .int .i64 u] := ((hBn.alloc tmp).grown hgrow (fun e => by have := (hrow.lt _ e.symm).1; omega)).far (by simp) _
  refine ⟨?_, ⟨hbel, (show _ = _ from z1).trans (show _ = _ from hBn).symm⟩, x0.set v', ?_, hbel, z1⟩
  · refine ((KeepsOthers.alloc W tmp).trans (KeepsOthers.of_grownBy hgrow fun j o ej hj => ?_)).trans (KeepsOthers.setCell _ _ _)
    rcases (hrow.alloc tmp).2 with ⟨rfl, _⟩ | ⟨g, cap, cur, rfl, _, hgb, _⟩
    · simp [Value.ownBlock] at ej
    · obtain rfl : g = j := by simpa [Value.ownBlock] using ej
      rw [hgb] at hj; cases hj; rfl
  · exact hown'.kept (grownBy_setCell' w1 N v') (.inr (by intro e; have := (hown'.lt _ e).1; omega))

set_option maxRecDepth 100000 in
set_option maxHeartbeats 1000000 in
theorem free_in (n : Nat) (hn : 5 ≤ n) (m u : Int) (w : World) :
    CallsIn Fence.wide n Try.prog 17 #[.agg #[.int .i64 m, .int .i64 u]] w (FreeIs m u w) := by
  have h1 : 1 ≤ n := by omega
  obtain ⟨i0, hi, hz0, hz1, hz2⟩ := info_parts info3
  have hro : Fence.wide.round = none := rfl
  have hf23 : Fence.wide.fn 17 := trivial
  have hf29 : Fence.wide.fn 29 := trivial
  have hf31 : Fence.wide.fn 31 := trivial
  refine callsIn_of_wp_marks Try.func17 rfl hf23 ?_ hro
  simp only [Try.ntmps17, List.size_toArray, List.length_cons, List.length_nil, Nat.reduceAdd, Nat.reduceSub, Array.replicate_succ, Array.replicate_zero, List.push_toArray, List.append_toArray, List.nil_append, List.cons_append]
  gi_wp2_with (gi_at_call 29; refine (bits_in (n - 1) m u _).mono ?_; rintro e w' ⟨rfl, rfl⟩; unfold ubox)
  obtain ⟨w5, hw5⟩ : ∃ w5, (((w.alloc (.cells #[.int .i64 m, .int .i64 u] 23)).alloc (.cells #[.slice none 0 0] 29)).alloc (.cells #[.int .i64 m, .int .i64 u] 23)) = w5 := ⟨_, rfl⟩
  have hb : Below w.heap.size w w5 := by rw [← hw5]; exact (((Below.refl _ w).alloc (Nat.le_refl _) _).alloc (by simp) _).alloc (by simp; omega) _
  have hsz : w5.heap.size = w.heap.size + 3 := by rw [← hw5]; simp
  have b1 : Boxed w5 (w.heap.size + 1) 29 (.slice none 0 0) := by
    rw [← hw5]; have := (Boxed.new (w.alloc (.cells #[.int .i64 m, .int .i64 u] 23)) 29 (.slice none 0 0)).alloc (.cells #[.int .i64 m, .int .i64 u] 23)
    rwa [World.size_alloc] at this
  have b2 : Blok w5 (w.heap.size + 2) 23 #[.int .i64 m, .int .i64 u] := by
    rw [← hw5]; have := Blok.new ((w.alloc (.cells #[.int .i64 m, .int .i64 u] 23)).alloc (.cells #[.slice none 0 0] 29)) 23 #[.int .i64 m, .int .i64 u]
    simpa [World.size_alloc] using this
  rw [hw5]
  clear hw5
  refine wpIn_rangeFunc_ownG hro h1 (gf := 31) (lb := #[.pointer (some ⟨w.heap.size + 2, 0, none⟩)]) rfl hf31 (enters_of Try.func31 (by kernel_rfl) rfl)
    (bits_stops (n - 1) w.heap.size (w.heap.size + 2) (by omega) m u w5 b2) KpU.t (fun W l o o' hl hW _ _ => kpU_book (w := w5) (by omega) (by omega) W l o o' hl hW) (Below.refl _ _) (fun _ => rfl)
    (fun pre W => (∃ v, Boxed W (w.heap.size + 1) 29 v ∧ W.ownsRow (w.heap.size + 3) 3 1 v (U.fr pre).length ((U.fr pre).map (Value.int .i64)) ∧ True) ∧ pre.length ≤ 9 ∧ Blok W (w.heap.size + 2) 23 #[.int .i64 m, .int .i64 u] ∧ Below w.heap.size w W)
    (fun c pre W => False)
    (OwnFrom.and (Own.from (holdsRow_own (w.heap.size + 3) (w.heap.size + 1) 29 3 1 (fun pre : List (Nat × Bool) => (U.fr pre).length) (fun pre => (U.fr pre).map (Value.int .i64)) (fun _ _ => True)) _)
      (OwnFrom.and (ownFrom_pure _ (fun pre : List (Nat × Bool) => pre.length ≤ 9)) (OwnFrom.and (fun s W W' row h hg hr => h.grown hg (fun e => by obtain ⟨_, o, ho, hc⟩ := hr _ e.symm; rw [show W.heap[_]? = _ from h] at ho; cases ho; cases hc)) (ownFrom_below (Nat.le_refl _) (by omega)))))
    (fun c => ownFrom_pure _ _)
    ⟨⟨_, b1, World.ownsRow_nil _ _ _ _, trivial⟩, by simp, b2, hb⟩
    (fun x => { tmps := #[.agg #[.int .i64 m, .int .i64 u], .pointer (some ⟨w.heap.size, 0, none⟩), .slice none 0 0, .pointer (some ⟨w.heap.size + 1, 0, none⟩), .int .i64 x.1, .int .i64 (U.num x.2), .agg #[.int .i64 m, .int .i64 u], .func (.func 31) #[] #[.pointer (some ⟨w.heap.size + 1 + 1, 0, none⟩)], .int .i64 x.1, .int .i64 (U.num x.2), undef, undef, undef, undef, undef, undef, undef], defers := [] }) ?assign ?body ?done ?stop
  case assign =>
    intro l x W K hK
    gi_wp2
    exact hK
  case body =>
    rintro l pre ⟨k, b⟩ W ⟨⟨v, hv, hrow, -⟩, h9, hbn, hB⟩ hlt
    have c1 := hv.cell
    have f1 := hv.frozen
    have HV := Lib.hid hv
    have HB := Lib.hid hB
    have HN := Lib.hid hbn
    have hct := U.fr_len pre
    have hws := hbn.lt
    clear hv hbn hB b1 b2
    cases b
    · obtain ⟨a1, cap1, rfl⟩ := ownsRow_form hrow
      obtain ⟨q, hq⟩ : ∃ q, (U.fr pre).length = q := ⟨_, rfl⟩
      rw [hq] at c1 hrow hct
      have HV2 : Hid (Boxed W (w.heap.size + 1) 29 (.slice a1 q cap1)) := Lib.hid (by rw [← hq]; exact HV.out)
      have HQ := Lib.hid hq
      clear hq
      have HC := Lib.hid (U.fr_f pre k)
      simp only [U.num_f]
      gi_wp2_with (gi_at_builtin; refine wpListIn_append_own _ rfl _ _ 29 rfl (w.heap.size + 3) 3 i0 (.int .i64 0) 1 8 Try.underlying29 hi hz0 hz1 hz2 rfl (by decide) _ _ _ rfl (hrow.alloc _) ⟨W.heap.size, 0, none⟩ 1 1 [.int .i64 (k : Int)] rfl rfl (cell_one_new _ _ _) (by simp [Value.oneCell']) (by unfold maxLen; omega) (by omega) (by simp; omega) ?_; intro v' w1 hown' hgrow _; obtain ⟨g', cap', rfl⟩ := ownsRow_succ hown'; have x2 := ubox_after hrow hgrow HV2.out (by omega); have d2 : w1.cell? ⟨w.heap.size + 1, 0, none⟩ = some _ := x2.cell; have f2 : w1.frozen? ⟨w.heap.size + 1, 0, none⟩ = false := x2.frozen; clear x2)
      have hE := free_body (H := w.heap.size) HV2.out hrow HN.out (by omega) hown' hgrow
      refine ⟨hE.1.from _, hE.2.1, ⟨_, hE.2.2.1, ?_, trivial⟩, by simp; omega, hE.2.2.2.2.2, HB.out.trans hE.2.2.2.2.1⟩
      rw [HC.out, List.length_append, HQ.out]
      simpa using hE.2.2.2.1
    · have HC := Lib.hid (U.fr_t pre k)
      simp only [U.num_t]
      gi_wp2
      exact ⟨KeepsFrom.refl _ _, KpU.r _ _ _, ⟨_, HV.out, by rw [HC.out]; exact hrow, trivial⟩, by simp; omega, HN.out, HB.out⟩
  case done =>
    rintro D ys W hD rfl ⟨⟨v, hv, hrow, -⟩, h9, hbn, hB⟩ hK
    have c1 := hv.cell
    have f1 := hv.frozen
    clear hv hbn b1 b2
    gi_wp2
    refine ⟨by simp, .inl ⟨_, _, rfl, run_takeDeferred hK, ?_⟩⟩
    refine ⟨v, ?_, ?_⟩
    · simp [results, Try.f17, go_sem]
    · exact ⟨v, rfl, ownsRow_base (ownsRow_putObj hrow (.deferred none) hK rfl) (by omega), hB.trans (belowK_b (w := w) (Nat.le_refl _) W D _ _ (by omega) hK rfl rfl)⟩
  case stop =>
    rintro D c pre W hD hP h hK
    exact h.elim

theorem U.free_le (n u : Int) : (U.free n u).length ≤ 8 := Nat.le_trans (List.length_filterMap_le _ _) (U.all_le n u)
theorem U.free_wf (n u : Int) : ∀ x ∈ U.free n u, (Lit.int .i64 x).wf = true := by
  intro x hx
  unfold U.free at hx
  obtain ⟨p, hp, he⟩ := List.mem_filterMap.1 hx
  cases hm : U.may n u with
  | false => rw [U.all_no hm] at hp; simp at hp
  | true =>
    rw [U.all_yes hm] at hp
    have := U.may_iff.1 hm
    obtain ⟨i, hi, rfl⟩ := List.mem_map.1 hp
    have hi' := List.mem_range.1 hi
    split at he
    · cases he
    · cases he
      simp [Lit.wf, IntKind.min, IntKind.max, IntKind.bits, IntKind.signed]; omega
/-- **Free**, at whatever map. -/
theorem free_any (m u : Int) (w : World) : Calls Try.prog 17 #[.agg #[.int .i64 m, .int .i64 u]] w fun e w' =>
    ∃ a cap n, e = .returned (.slice a n cap) ∧ Hid ((U.free m u).length = n) ∧ Hid (RowIn .i64 w' a cap (U.free m u)) ∧ Below w.heap.size w w' :=
  ((callsIn_wide (n := 5)).1 (free_in 5 (by omega) m u w)).mono fun e w' ⟨v, he, ho, hb⟩ => by
    obtain ⟨a, cap, rfl, _, hr⟩ := ownsRow_rowIn ho (U.free_wf m u)
    exact ⟨a, cap, _, he, rfl, hr, hb⟩
end Go.Proofs.Ytagkpkgflnccpaa
