/-
  Walk of moorings/bitmap.Count, over the iterator's contract.
-/
import Derived.Test.YtagkpkgflnccpaaUFirst
namespace Go.Proofs.Ytagkpkgflnccpaa
open Go.RowKit Go.Shelf
attribute [local go_sem] Oper.semAt_some

set_option maxRecDepth 100000 in
set_option maxHeartbeats 1000000 in
theorem count_in (n : Nat) (hn : 5 ≤ n) (m u : Int) (w : World) :
    CallsIn Fence.wide n Try.prog 25 #[.agg #[.int .i64 m, .int .i64 u]] w fun e w' => e = .returned (.int .i64 (U.count m u)) ∧ Below w.heap.size w w' := by
  have h1 : 1 ≤ n := by omega
  have hro : Fence.wide.round = none := rfl
  have hf23 : Fence.wide.fn 25 := trivial
  have hf29 : Fence.wide.fn 29 := trivial
  have hf31 : Fence.wide.fn 31 := trivial
  refine callsIn_of_wp_marks Try.func25 rfl hf23 ?_ hro
  simp only [Try.ntmps25, List.size_toArray, List.length_cons, List.length_nil, Nat.reduceAdd, Nat.reduceSub, Array.replicate_succ, Array.replicate_zero, List.push_toArray, List.append_toArray, List.nil_append, List.cons_append]
  gi_wp2_with (gi_at_call 29; refine (bits_in (n - 1) m u _).mono ?_; rintro e w' ⟨rfl, rfl⟩; unfold ubox)
  obtain ⟨w5, hw5⟩ : ∃ w5, (((w.alloc (.cells #[.int .i64 m, .int .i64 u] 23)).alloc (.cells #[.int .i64 0] 3)).alloc (.cells #[.int .i64 m, .int .i64 u] 23)) = w5 := ⟨_, rfl⟩
  have hb : Below w.heap.size w w5 := by rw [← hw5]; exact (((Below.refl _ w).alloc (Nat.le_refl _) _).alloc (by simp) _).alloc (by simp; omega) _
  have hsz : w5.heap.size = w.heap.size + 3 := by rw [← hw5]; simp
  have b1 : Boxed w5 (w.heap.size + 1) 3 (.int .i64 0) := by
    rw [← hw5]; have := (Boxed.new (w.alloc (.cells #[.int .i64 m, .int .i64 u] 23)) 3 (.int .i64 0)).alloc (.cells #[.int .i64 m, .int .i64 u] 23)
    rwa [World.size_alloc] at this
  have b2 : Blok w5 (w.heap.size + 2) 23 #[.int .i64 m, .int .i64 u] := by
    rw [← hw5]; have := Blok.new ((w.alloc (.cells #[.int .i64 m, .int .i64 u] 23)).alloc (.cells #[.int .i64 0] 3)) 23 #[.int .i64 m, .int .i64 u]
    simpa [World.size_alloc] using this
  rw [hw5]
  clear hw5
  refine wpIn_rangeFunc_ownG hro h1 (gf := 31) (lb := #[.pointer (some ⟨w.heap.size + 2, 0, none⟩)]) rfl hf31 (enters_of Try.func31 (by kernel_rfl) rfl)
    (bits_stops (n - 1) w.heap.size (w.heap.size + 2) (by omega) m u w5 b2) KpU.t (fun W l o o' hl hW _ _ => kpU_book (w := w5) (by omega) (by omega) W l o o' hl hW) (Below.refl _ _) (fun _ => rfl)
    (fun pre W => pre.length ≤ 9 ∧ Boxed W (w.heap.size + 1) 3 (.int .i64 (U.ct pre)) ∧ Below w.heap.size w W)
    (fun c pre W => False)
    (OwnFrom.and (ownFrom_pure _ _) (OwnFrom.and (Own.from (boxed_own _ _ (fun pre => .int .i64 (U.ct pre))) _) (ownFrom_below (Nat.le_refl _) (by omega))))
    (fun c => ownFrom_pure _ _)
    ⟨by simp, b1, hb⟩
    (fun x => { tmps := #[.agg #[.int .i64 m, .int .i64 u], .pointer (some ⟨w.heap.size, 0, none⟩), .int .i64 0, .pointer (some ⟨w.heap.size + 1, 0, none⟩), undef, .int .i64 (U.num x.2), .agg #[.int .i64 m, .int .i64 u], .func (.func 31) #[] #[.pointer (some ⟨w.heap.size + 1 + 1, 0, none⟩)], .int .i64 x.1, .int .i64 (U.num x.2), undef, undef, undef, undef], defers := [] }) ?assign ?body ?done ?stop
  case assign =>
    intro l x W K hK
    gi_wp2
    exact hK
  case body =>
    rintro l pre ⟨k, b⟩ W ⟨h9, hbx, hB⟩ hlt
    have c1 := hbx.cell
    have f1 := hbx.frozen
    have HX := Lib.hid hbx
    have HB := Lib.hid hB
    have hct := U.ct_le pre
    clear hbx hB b1 b2
    cases b
    · have HC := Lib.hid (U.ct_f pre k)
      obtain ⟨t, ht⟩ : ∃ t, U.ct pre = t := ⟨_, rfl⟩
      rw [ht] at c1 hct
      have HT := Lib.hid ht
      clear ht
      simp only [U.num_f]
      gi_wp2
      refine ⟨(KeepsOthers.setCell _ _ _).from _, ⟨(Below.refl _ W).setCell (p := ⟨w.heap.size + 1, 0, none⟩) (by simp) _, Below.heap_setCell W _ _ _ (by simp)⟩, by simp; omega, ?_, HB.out.setCell (p := ⟨w.heap.size + 1, 0, none⟩) (by simp) _⟩
      have h := HX.out.set (.int .i64 (t : Int))
      rw [HC.out, HT.out]; exact h
    · have HC := Lib.hid (U.ct_t pre k)
      obtain ⟨t, ht⟩ : ∃ t, U.ct pre = t := ⟨_, rfl⟩
      rw [ht] at c1 hct
      have HT := Lib.hid ht
      clear ht
      simp only [U.num_t]
      gi_wp2
      refine ⟨(KeepsOthers.setCell _ _ _).from _, ⟨(Below.refl _ W).setCell (p := ⟨w.heap.size + 1, 0, none⟩) (by simp) _, Below.heap_setCell W _ _ _ (by simp)⟩, by simp; omega, ?_, HB.out.setCell (p := ⟨w.heap.size + 1, 0, none⟩) (by simp) _⟩
      have h := HX.out.set (.int .i64 ((t : Int) + 1))
      rw [HC.out, HT.out]; exact h
  case done =>
    rintro D ys W hD rfl ⟨h9, hbx, hB⟩ hK
    have c1 := hbx.cell
    have f1 := hbx.frozen
    have HF := Lib.hid (U.count_eq m u)
    clear hbx b1 b2
    gi_wp2
    refine ⟨by simp, .inl ⟨_, _, rfl, run_takeDeferred hK, ?_⟩⟩
    refine ⟨.int .i64 (U.ct (U.all m u)), ?_, ?_⟩
    · simp [results, Try.f25, go_sem]
    · exact ⟨by rw [HF.out], hB.trans (belowK_b (w := w) (Nat.le_refl _) W D _ _ (by omega) hK rfl rfl)⟩
  case stop =>
    rintro D c pre W hD hP h hK
    exact h.elim

theorem count_any (m u f : Int) (w : World) (h : U.count m u = f) : Calls Try.prog 25 #[.agg #[.int .i64 m, .int .i64 u]] w fun e w' => e = .returned (.int .i64 f) ∧ Below w.heap.size w w' := by
  subst h; exact (callsIn_wide (n := 5)).1 (count_in 5 (by omega) m u w)
end Go.Proofs.Ytagkpkgflnccpaa
