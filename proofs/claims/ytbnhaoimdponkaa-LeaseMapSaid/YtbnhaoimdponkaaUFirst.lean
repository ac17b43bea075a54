/-
  Walk of moorings/bitmap.First, over the iterator's contract.
-/
import Derived.Test.YtbnhaoimdponkaaUIter
namespace Go.Proofs.Ytbnhaoimdponkaa
open Go.RowKit Go.Shelf
attribute [local go_sem] Oper.semAt_some

/-- The last block that has come; its bit. -/
def lastK (xs : List (Nat × Bool)) : Int := xs.foldl (fun _ x => (x.1 : Int)) 0
theorem lastK_snoc (xs : List (Nat × Bool)) (k : Nat) (b : Bool) : lastK (xs ++ [(k, b)]) = k := by simp [lastK]
def lastN (xs : List (Nat × Bool)) : Int := xs.foldl (fun _ x => U.num x.2) 0
theorem lastN_snoc (xs : List (Nat × Bool)) (k : Nat) (b : Bool) : lastN (xs ++ [(k, b)]) = U.num b := by simp [lastN]

theorem kpU_book {H Bn : Nat} {w : World} (hH : H ≤ w.heap.size) (hB : Bn < w.heap.size) (W : World) (l : Nat) (o o' : Obj) (hl : w.heap.size ≤ l) (hW : W.heap[l]? = some o) : KpU H Bn W (W.putObj l o') :=
  ⟨(Below.refl _ W).grown (grownBy_putObj' W l o') (by have := (Array.getElem?_eq_some_iff.1 hW).1; omega) (fun k e => by cases e; omega), (grownBy_putObj' W l o').block _ (by have := (Array.getElem?_eq_some_iff.1 hW).1; omega) (fun e => by cases e; omega)⟩

def FStop (pre : List (Nat × Bool)) : Prop := ∃ pre' k, pre = pre' ++ [(k, false)] ∧ ∀ p ∈ pre', p.2 = true

set_option maxRecDepth 100000 in
set_option maxHeartbeats 1000000 in
theorem first_in (n : Nat) (hn : 5 ≤ n) (m u : Int) (w : World) :
    CallsIn Fence.wide n Try.prog 21 #[.agg #[.int .i64 m, .int .i64 u]] w fun e w' => e = .returned (.int .i64 (U.first m u)) ∧ Below w.heap.size w w' := by
  have h1 : 1 ≤ n := by omega
  have hro : Fence.wide.round = none := rfl
  have hf23 : Fence.wide.fn 21 := trivial
  have hf29 : Fence.wide.fn 44 := trivial
  have hf31 : Fence.wide.fn 59 := trivial
  refine callsIn_of_wp_marks Try.func21 rfl hf23 ?_ hro
  simp only [Try.ntmps21, List.size_toArray, List.length_cons, List.length_nil, Nat.reduceAdd, Nat.reduceSub, Array.replicate_succ, Array.replicate_zero, List.push_toArray, List.append_toArray, List.nil_append, List.cons_append]
  gi_wp2_with (gi_at_call 44; refine (bits_in (n - 1) m u _).mono ?_; rintro e w' ⟨rfl, rfl⟩; unfold ubox)
  obtain ⟨w5, hw5⟩ : ∃ w5, (((w.alloc (.cells #[.int .i64 m, .int .i64 u] 42)).alloc (.cells #[.int .i64 0] 3)).alloc (.cells #[.int .i64 m, .int .i64 u] 42)) = w5 := ⟨_, rfl⟩
  have hb : Below w.heap.size w w5 := by rw [← hw5]; exact (((Below.refl _ w).alloc (Nat.le_refl _) _).alloc (by simp) _).alloc (by simp; omega) _
  have hsz : w5.heap.size = w.heap.size + 3 := by rw [← hw5]; simp
  have b1 : Boxed w5 (w.heap.size + 1) 3 (.int .i64 0) := by
    rw [← hw5]; have := (Boxed.new (w.alloc (.cells #[.int .i64 m, .int .i64 u] 42)) 3 (.int .i64 0)).alloc (.cells #[.int .i64 m, .int .i64 u] 42)
    rwa [World.size_alloc] at this
  have b2 : Blok w5 (w.heap.size + 2) 42 #[.int .i64 m, .int .i64 u] := by
    rw [← hw5]; have := Blok.new ((w.alloc (.cells #[.int .i64 m, .int .i64 u] 42)).alloc (.cells #[.int .i64 0] 3)) 42 #[.int .i64 m, .int .i64 u]
    simpa [World.size_alloc] using this
  rw [hw5]
  clear hw5
  refine wpIn_rangeFunc_ownG hro h1 (gf := 59) (lb := #[.pointer (some ⟨w.heap.size + 2, 0, none⟩)]) rfl hf31 (enters_of Try.func59 (by kernel_rfl) rfl)
    (bits_stops (n - 1) w.heap.size (w.heap.size + 2) (by omega) m u w5 b2) KpU.t (fun W l o o' hl hW _ _ => kpU_book (w := w5) (by omega) (by omega) W l o o' hl hW) (Below.refl _ _) (fun _ => rfl)
    (fun pre W => (∀ p ∈ pre, p.2 = true) ∧ Boxed W (w.heap.size + 1) 3 (.int .i64 0) ∧ Below w.heap.size w W)
    (fun c pre W => c = .ret ∧ FStop pre ∧ Boxed W (w.heap.size + 1) 3 (.int .i64 (lastK pre)) ∧ Below w.heap.size w W)
    (OwnFrom.and (ownFrom_pure _ _) (OwnFrom.and (Own.from (boxed_own _ _ (fun _ => .int .i64 0)) _) (ownFrom_below (Nat.le_refl _) (by omega))))
    (fun c => OwnFrom.and (ownFrom_pure _ _) (OwnFrom.and (ownFrom_pure _ _) (OwnFrom.and (Own.from (boxed_own _ _ (fun pre => .int .i64 (lastK pre))) _) (ownFrom_below (Nat.le_refl _) (by omega)))))
    ⟨by simp, b1, hb⟩
    (fun x => { tmps := #[.agg #[.int .i64 m, .int .i64 u], .pointer (some ⟨w.heap.size, 0, none⟩), .pointer (some ⟨w.heap.size + 1, 0, none⟩), .int .i64 x.1, .int .i64 (U.num x.2), .agg #[.int .i64 m, .int .i64 u], .func (.func 59) #[] #[.pointer (some ⟨w.heap.size + 1 + 1, 0, none⟩)], .int .i64 x.1, .int .i64 (U.num x.2), undef, undef, undef], defers := [] }) ?assign ?body ?done ?stop
  case assign =>
    intro l x W K hK
    gi_wp2
    exact hK
  case body =>
    rintro l pre ⟨k, b⟩ W ⟨hne, hbx, hB⟩ hlt
    have c1 := hbx.cell
    have f1 := hbx.frozen
    have HX := Lib.hid hbx
    have HN := Lib.hid hne
    have HB := Lib.hid hB
    clear hne hbx hB hlt b1 b2
    cases b
    · simp only [U.num_f]
      gi_wp2
      refine ⟨(KeepsOthers.setCell _ _ _).from _, rfl, ⟨pre, k, rfl, HN.out⟩, ?_, HB.out.setCell (p := ⟨w.heap.size + 1, 0, none⟩) (by simp) _⟩
      rw [lastK_snoc]; exact HX.out.set _
    · simp only [U.num_t]
      gi_wp2
      refine ⟨KeepsFrom.refl _ _, KpU.r _ _ _, ?_, HX.out, HB.out⟩
      intro p hp
      rcases List.mem_append.1 hp with hp | hp
      · exact HN.out p hp
      · simp only [List.mem_singleton] at hp; rw [hp]
  case done =>
    rintro D ys W hD rfl ⟨hne, hbx, hB⟩ hK
    have c1 := hbx.cell
    have f1 := hbx.frozen
    have HF := Lib.hid (U.first_none hne)
    have HX := Lib.hid hbx
    clear hne hbx b1 b2
    gi_wp2
    have hK' := (KeepsOthers.setCell W ⟨w.heap.size + 1, 0, none⟩ (.int .i64 (-1))).same D _ hK rfl
    refine ⟨by simp, .inl ⟨_, _, rfl, run_takeDeferred hK', ?_⟩⟩
    have d1 := (cell_kept (HX.out.set (.int .i64 (-1))).cell (grownBy_putObj' _ D (.deferred none)) (fun r e => by cases e; exact ⟨_, hK', rfl⟩))
    refine ⟨.int .i64 (-1), ?_, ?_⟩
    · simp [results, Try.f21, go_sem, d1]
    · exact ⟨by rw [HF.out], (hB.setCell (p := ⟨w.heap.size + 1, 0, none⟩) (by simp) _).trans (belowK_b (w := w) (Nat.le_refl _) _ D _ _ (by omega) hK' rfl rfl)⟩
  case stop =>
    rintro D c pre W hD hP ⟨rfl, ⟨pre', k, rfl, hne⟩, b1, hB⟩ hK
    have HN := Lib.hid (U.free_prefix hP hne)
    rw [lastK_snoc] at b1
    gi_wp2
    refine ⟨by simp, .inl ⟨_, _, rfl, run_takeDeferred hK, ?_⟩⟩
    have c1 := (cell_kept b1.cell (grownBy_putObj' _ D (.deferred none)) (fun r e => by cases e; exact ⟨_, hK, rfl⟩))
    refine ⟨.int .i64 (k : Int), ?_, ?_⟩
    · simp [results, Try.f21, go_sem, c1]
    · exact ⟨by rw [HN.out], hB.trans (belowK_b (w := w) (Nat.le_refl _) W D _ _ (by omega) hK rfl rfl)⟩

theorem first_any (m u f : Int) (w : World) (h : U.first m u = f) : Calls Try.prog 21 #[.agg #[.int .i64 m, .int .i64 u]] w fun e w' => e = .returned (.int .i64 f) ∧ Below w.heap.size w w' := by
  subst h; exact (callsIn_wide (n := 5)).1 (first_in 5 (by omega) m u w)
end Go.Proofs.Ytbnhaoimdponkaa
