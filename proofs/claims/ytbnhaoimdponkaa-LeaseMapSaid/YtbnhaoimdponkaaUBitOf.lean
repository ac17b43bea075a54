/-
  Walk of moorings/bitmap.bitOf, over the iterator's contract; Has.
-/
import Derived.Test.YtbnhaoimdponkaaUFirst
namespace Go.Proofs.Ytbnhaoimdponkaa
open Go.RowKit Go.Shelf
attribute [local go_sem] Oper.semAt_some

def AStop (i : Int) (pre : List (Nat × Bool)) : Prop := ∃ (pre' : List (Nat × Bool)) (k : Nat) (b : Bool), pre = pre' ++ [(k, b)] ∧ (∀ p ∈ pre', (p.1 : Int) ≠ i) ∧ (k : Int) = i

set_option maxRecDepth 100000 in
set_option maxHeartbeats 1000000 in
theorem bitOf_in (n : Nat) (hn : 5 ≤ n) (m u i : Int) (w : World) :
    CallsIn Fence.wide n Try.prog 43 #[.agg #[.int .i64 m, .int .i64 u], .int .i64 i] w fun e w' => e = .returned (.int .i64 (U.at' m u i)) ∧ Below w.heap.size w w' := by
  have h1 : 1 ≤ n := by omega
  have hro : Fence.wide.round = none := rfl
  have hf23 : Fence.wide.fn 43 := trivial
  have hf29 : Fence.wide.fn 44 := trivial
  have hf31 : Fence.wide.fn 59 := trivial
  refine callsIn_of_wp_marks Try.func43 rfl hf23 ?_ hro
  simp only [Try.ntmps43, List.size_toArray, List.length_cons, List.length_nil, Nat.reduceAdd, Nat.reduceSub, Array.replicate_succ, Array.replicate_zero, List.push_toArray, List.append_toArray, List.nil_append, List.cons_append]
  gi_wp2_with (gi_at_call 44; refine (bits_in (n - 1) m u _).mono ?_; rintro e w' ⟨rfl, rfl⟩; unfold ubox)
  obtain ⟨w5, hw5⟩ : ∃ w5, ((((w.alloc (.cells #[.int .i64 m, .int .i64 u] 42)).alloc (.cells #[.int .i64 i] 3)).alloc (.cells #[.int .i64 0] 3)).alloc (.cells #[.int .i64 m, .int .i64 u] 42)) = w5 := ⟨_, rfl⟩
  have hb : Below w.heap.size w w5 := by rw [← hw5]; exact ((((Below.refl _ w).alloc (Nat.le_refl _) _).alloc (by simp) _).alloc (by simp; omega) _).alloc (by simp; omega) _
  have hsz : w5.heap.size = w.heap.size + 4 := by rw [← hw5]; simp
  have b0 : Boxed w5 (w.heap.size + 1) 3 (.int .i64 i) := by
    rw [← hw5]; have := ((Boxed.new (w.alloc (.cells #[.int .i64 m, .int .i64 u] 42)) 3 (.int .i64 i)).alloc (.cells #[.int .i64 0] 3)).alloc (.cells #[.int .i64 m, .int .i64 u] 42)
    rwa [World.size_alloc] at this
  have b1 : Boxed w5 (w.heap.size + 2) 3 (.int .i64 0) := by
    rw [← hw5]; have := (Boxed.new ((w.alloc (.cells #[.int .i64 m, .int .i64 u] 42)).alloc (.cells #[.int .i64 i] 3)) 3 (.int .i64 0)).alloc (.cells #[.int .i64 m, .int .i64 u] 42)
    simpa [World.size_alloc] using this
  have b2 : Blok w5 (w.heap.size + 3) 42 #[.int .i64 m, .int .i64 u] := by
    rw [← hw5]; have := Blok.new (((w.alloc (.cells #[.int .i64 m, .int .i64 u] 42)).alloc (.cells #[.int .i64 i] 3)).alloc (.cells #[.int .i64 0] 3)) 42 #[.int .i64 m, .int .i64 u]
    simpa [World.size_alloc] using this
  rw [hw5]
  clear hw5
  refine wpIn_rangeFunc_ownG hro h1 (gf := 59) (lb := #[.pointer (some ⟨w.heap.size + 3, 0, none⟩)]) rfl hf31 (enters_of Try.func59 (by kernel_rfl) rfl)
    (bits_stops (n - 1) w.heap.size (w.heap.size + 3) (by omega) m u w5 b2) KpU.t (fun W l o o' hl hW _ _ => kpU_book (w := w5) (by omega) (by omega) W l o o' hl hW) (Below.refl _ _) (fun _ => rfl)
    (fun pre W => (∀ p ∈ pre, (p.1 : Int) ≠ i) ∧ Boxed W (w.heap.size + 1) 3 (.int .i64 i) ∧ Boxed W (w.heap.size + 2) 3 (.int .i64 0) ∧ Below w.heap.size w W)
    (fun c pre W => c = .ret ∧ AStop i pre ∧ Boxed W (w.heap.size + 2) 3 (.int .i64 (lastN pre)) ∧ Below w.heap.size w W)
    (OwnFrom.and (ownFrom_pure _ _) (OwnFrom.and (Own.from (boxed_own _ _ (fun _ => .int .i64 i)) _) (OwnFrom.and (Own.from (boxed_own _ _ (fun _ => .int .i64 0)) _) (ownFrom_below (Nat.le_refl _) (by omega)))))
    (fun c => OwnFrom.and (ownFrom_pure _ _) (OwnFrom.and (ownFrom_pure _ _) (OwnFrom.and (Own.from (boxed_own _ _ (fun pre => .int .i64 (lastN pre))) _) (ownFrom_below (Nat.le_refl _) (by omega)))))
    ⟨by simp, b0, b1, hb⟩
    (fun x => { tmps := #[.agg #[.int .i64 m, .int .i64 u], .int .i64 i, .pointer (some ⟨w.heap.size, 0, none⟩), .pointer (some ⟨w.heap.size + 1, 0, none⟩), .pointer (some ⟨w.heap.size + 1 + 1, 0, none⟩), .int .i64 x.1, .int .i64 (U.num x.2), .agg #[.int .i64 m, .int .i64 u], .func (.func 59) #[] #[.pointer (some ⟨w.heap.size + 1 + 1 + 1, 0, none⟩)], .int .i64 x.1, .int .i64 (U.num x.2), undef, undef, undef, undef], defers := [] }) ?assign ?body ?done ?stop
  case assign =>
    intro l x W K hK
    gi_wp2
    exact hK
  case body =>
    rintro l pre ⟨k, b⟩ W ⟨hne, hbi, hbx, hB⟩ hlt
    have c0 := hbi.cell
    have c1 : W.cell? ⟨w.heap.size + 1 + 1, 0, none⟩ = _ := hbx.cell
    have f1 : W.frozen? ⟨w.heap.size + 1 + 1, 0, none⟩ = false := hbx.frozen
    have HX := Lib.hid hbx
    have HI := Lib.hid hbi
    have HN := Lib.hid hne
    have HB := Lib.hid hB
    clear hne hbx hbi hB hlt b0 b1 b2
    by_cases hk : (k : Int) = i
    · have g : ((k : Int) == i) = true := by simpa using hk
      have HK := Lib.hid hk
      clear hk
      gi_wp2
      refine ⟨(KeepsOthers.setCell _ _ _).from _, rfl, ⟨pre, k, b, rfl, HN.out, HK.out⟩, ?_, HB.out.setCell (p := ⟨w.heap.size + 2, 0, none⟩) (by simp) _⟩
      rw [lastN_snoc]; exact HX.out.set _
    · have g : ((k : Int) == i) = false := by simpa using hk
      have HK := Lib.hid hk
      clear hk
      gi_wp2
      refine ⟨KeepsFrom.refl _ _, KpU.r _ _ _, ?_, HI.out, HX.out, HB.out⟩
      intro p hp
      rcases List.mem_append.1 hp with hp | hp
      · exact HN.out p hp
      · simp only [List.mem_singleton] at hp; rw [hp]; exact HK.out
  case done =>
    rintro D ys W hD rfl ⟨hne, -, hbx, hB⟩ hK
    have c1 : W.cell? ⟨w.heap.size + 1 + 1, 0, none⟩ = _ := hbx.cell
    have f1 : W.frozen? ⟨w.heap.size + 1 + 1, 0, none⟩ = false := hbx.frozen
    have HF := Lib.hid (U.at_none hne)
    have HX := Lib.hid hbx
    clear hne hbx b0 b1 b2
    gi_wp2
    have hK' := (KeepsOthers.setCell W ⟨w.heap.size + 2, 0, none⟩ (.int .i64 (-1))).same D _ hK rfl
    refine ⟨by simp, .inl ⟨_, _, rfl, run_takeDeferred hK', ?_⟩⟩
    have d1 := (cell_kept (HX.out.set (.int .i64 (-1))).cell (grownBy_putObj' _ D (.deferred none)) (fun r e => by cases e; exact ⟨_, hK', rfl⟩))
    refine ⟨.int .i64 (-1), ?_, ?_⟩
    · simp [results, Try.f43, go_sem, d1]
    · exact ⟨by rw [HF.out], (hB.setCell (p := ⟨w.heap.size + 2, 0, none⟩) (by simp) _).trans (belowK_b (w := w) (Nat.le_refl _) _ D _ _ (by omega) hK' rfl rfl)⟩
  case stop =>
    rintro D c pre W hD hP ⟨rfl, ⟨pre', k, b, rfl, hne, hk⟩, b1, hB⟩ hK
    have HN := Lib.hid (U.at_prefix hP hne hk)
    rw [lastN_snoc] at b1
    gi_wp2
    refine ⟨by simp, .inl ⟨_, _, rfl, run_takeDeferred hK, ?_⟩⟩
    have c1 := (cell_kept b1.cell (grownBy_putObj' _ D (.deferred none)) (fun r e => by cases e; exact ⟨_, hK, rfl⟩))
    refine ⟨.int .i64 (U.num b), ?_, ?_⟩
    · simp [results, Try.f43, go_sem, c1]
    · exact ⟨by rw [HN.out], hB.trans (belowK_b (w := w) (Nat.le_refl _) W D _ _ (by omega) hK rfl rfl)⟩

theorem bitOf_any (m u i f : Int) (w : World) (h : U.at' m u i = f) : Calls Try.prog 43 #[.agg #[.int .i64 m, .int .i64 u], .int .i64 i] w fun e w' => e = .returned (.int .i64 f) ∧ Below w.heap.size w w' := by
  subst h; exact (callsIn_wide (n := 5)).1 (bitOf_in 5 (by omega) m u i w)
end Go.Proofs.Ytbnhaoimdponkaa
