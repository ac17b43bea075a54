/-
  lease.first, over whatever gives places.
-/
import Derived.Test.YtbnhaoimdponkaaLIter
namespace Go.Proofs.Ytbnhaoimdponkaa
open Go.RowKit Go.Shelf
attribute [local go_sem] Oper.semAt_some

theorem KpL.book {H X : Nat} {w : World} (hH : H ≤ w.heap.size) (W : World) (l : Nat) (o o' : Obj) (hl : w.heap.size ≤ l) (hW : W.heap[l]? = some o) : KpL H X W (W.putObj l o') :=
  ⟨(Below.refl _ W).grown (grownBy_putObj' W l o') (Nat.zero_le _) (fun k e => Nat.zero_le _), fun i hi hx => (grownBy_putObj' W l o').block _ (by have := (Array.getElem?_eq_some_iff.1 hW).1; omega) (fun e => by cases e; omega)⟩
/-- The first of places; another one if there is none. -/
def L.hd {m : Nat} (ys : List (Fin m)) (d : Int) : Int := match ys with | [] => d | k :: _ => (k.val : Int)
theorem Gives.on {F : FuncId} {lb : Array Value} {H X m : Nat} {ys : List (Fin m)} {w w' : World} (h : Gives F lb H X m ys w) (hb : Below w.heap.size w w') : Gives F lb H X m ys w' :=
  fun n hn l J Jx W hW => h n hn l J Jx W (hb.trans (hW.mono hb.size))

set_option maxRecDepth 100000 in
set_option maxHeartbeats 400000 in
theorem lfirst_in (n : Nat) (hn : 6 ≤ n) (F : FuncId) (hE : Enters Try.prog F) (lb : Array Value) (H X m : Nat) (ys : List (Fin m)) (d : Int) (w : World) (hG : Gives F lb H X m ys w) (hH : H ≤ w.heap.size) :
    CallsIn Fence.wide n Try.prog 30 #[.func (.func F) #[] lb, .int .i64 d] w fun e w' => e = .returned (.int .i64 (L.hd ys d)) ∧ Below w.heap.size w w' := by
  have h1 : 1 ≤ n := by omega
  have hro : Fence.wide.round = none := rfl
  have hf1 : Fence.wide.fn 30 := trivial
  have hfF : Fence.wide.fn F := trivial
  refine callsIn_of_wp_marks Try.func30 rfl hf1 ?_ hro
  simp only [Try.ntmps30, List.size_toArray, List.length_cons, List.length_nil, Nat.reduceAdd, Nat.reduceSub, Array.replicate_succ, Array.replicate_zero, List.push_toArray, List.append_toArray, List.nil_append, List.cons_append]
  gi_wp2_with fail
  obtain ⟨w5, hw5⟩ : ∃ w5, w.alloc (.cells #[.int .i64 0] 3) = w5 := ⟨_, rfl⟩
  have hb : Below w.heap.size w w5 := by rw [← hw5]; exact (Below.refl _ w).alloc (Nat.le_refl _) _
  have hsz : w5.heap.size = w.heap.size + 1 := by rw [← hw5]; simp
  have b1 : Boxed w5 w.heap.size 3 (.int .i64 0) := by rw [← hw5]; exact Boxed.new w 3 (.int .i64 0)
  rw [hw5]
  clear hw5
  refine wpIn_rangeFunc_ownG hro h1 (gf := F) (lb := lb) rfl hfF hE
    ((hG.on hb) (n - 1) (by omega)) KpL.t (fun W l o o' hl hW _ _ => KpL.book (w := w5) (by omega) W l o o' hl hW) (Below.refl _ _) (fun _ => rfl)
    (fun pre W => pre = [] ∧ Boxed W w.heap.size 3 (.int .i64 0) ∧ Below w.heap.size w W)
    (fun c pre W => c = .ret ∧ (∃ x, pre = [x]) ∧ Boxed W w.heap.size 3 (.int .i64 (L.hd pre d)) ∧ Below w.heap.size w W)
    (OwnFrom.and (ownFrom_pure _ _) (OwnFrom.and (Own.from (boxed_own _ _ (fun _ => .int .i64 0)) _) (ownFrom_below (Nat.le_refl _) (by omega))))
    (fun c => OwnFrom.and (ownFrom_pure _ _) (OwnFrom.and (ownFrom_pure _ _) (OwnFrom.and (Own.from (boxed_own _ _ (fun pre => .int .i64 (L.hd pre d))) _) (ownFrom_below (Nat.le_refl _) (by omega)))))
    ⟨rfl, b1, hb⟩
    (fun x => { tmps := #[.func (.func F) #[] lb, .int .i64 d, undef, undef, .pointer (some ⟨w.heap.size, 0, none⟩), .int .i64 (x.val : Int), .func (.func F) #[] lb, .int .i64 (x.val : Int), undef, undef], defers := [] }) ?assign ?body ?done ?stop
  case assign =>
    intro l x W K hK
    gi_wp2
    exact hK
  case body =>
    rintro l pre x W ⟨rfl, hbx, hB⟩ hlt
    have c1 := hbx.cell
    have f1 := hbx.frozen
    have HX := Lib.hid hbx
    have HB := Lib.hid hB
    clear hbx hB hlt b1
    gi_wp2
    refine ⟨(KeepsOthers.setCell _ _ _).from _, rfl, ⟨x, rfl⟩, HX.out.set _, HB.out.setCell (p := ⟨w.heap.size, 0, none⟩) (Nat.le_refl _) _⟩
  case done =>
    rintro D ys' W hD rfl ⟨hne, hbx, hB⟩ hK
    subst hne
    have c1 := hbx.cell
    have f1 := hbx.frozen
    have HX := Lib.hid hbx
    clear hbx b1
    gi_wp2
    have hK' := (KeepsOthers.setCell W ⟨w.heap.size, 0, none⟩ (.int .i64 d)).same D _ hK rfl
    refine ⟨by simp, .inl ⟨_, _, rfl, run_takeDeferred hK', ?_⟩⟩
    have d1 := (cell_kept (HX.out.set (.int .i64 d)).cell (grownBy_putObj' _ D (.deferred none)) (fun r e => by cases e; exact ⟨_, hK', rfl⟩))
    refine ⟨.int .i64 d, ?_, ?_⟩
    · simp [results, Try.f30, go_sem, d1]
    · exact ⟨rfl, (hB.setCell (p := ⟨w.heap.size, 0, none⟩) (Nat.le_refl _) _).trans (belowK_b (w := w) (Nat.le_refl _) _ D _ _ (by omega) hK' rfl rfl)⟩
  case stop =>
    rintro D c pre W hD hP ⟨rfl, ⟨x, rfl⟩, b1, hB⟩ hK
    have HN : Hid (L.hd ys d = (x.val : Int)) := Lib.hid (by
      obtain ⟨t, rfl⟩ := hP; rfl)
    have b1' : Boxed W w.heap.size 3 (.int .i64 (x.val : Int)) := b1
    gi_wp2
    refine ⟨by simp, .inl ⟨_, _, rfl, run_takeDeferred hK, ?_⟩⟩
    have c1 := (cell_kept b1'.cell (grownBy_putObj' _ D (.deferred none)) (fun r e => by cases e; exact ⟨_, hK, rfl⟩))
    refine ⟨.int .i64 (x.val : Int), ?_, ?_⟩
    · simp [results, Try.f30, go_sem, c1]
    · exact ⟨by rw [HN.out], hB.trans (belowK_b (w := w) (Nat.le_refl _) W D _ _ (by omega) hK rfl rfl)⟩

theorem L.hd_pl {α : Type} (p : α → Bool) (l : List α) (d : Int) : L.hd (L.pl p l) d = L.at1 p l d := by
  cases h : L.pl p l with
  | nil => rw [L.at1_none (L.pl_nil h)]; rfl
  | cons k t => rw [L.at1_some (L.pl_head (i := k) (by rw [h]; exact ⟨t, rfl⟩))]; rfl
theorem lfirst_any (F : FuncId) (hE : Enters Try.prog F) (lb : Array Value) (H X m : Nat) (ys : List (Fin m)) (d r : Int) (w : World) (hG : Gives F lb H X m ys w) (hH : H ≤ w.heap.size) (hr : L.hd ys d = r) :
    Calls Try.prog 30 #[.func (.func F) #[] lb, .int .i64 d] w fun e w' => e = .returned (.int .i64 r) ∧ Below w.heap.size w w' := by
  subst hr; exact (callsIn_wide (n := 6)).1 (lfirst_in 6 (by omega) F hE lb H X m ys d w hG hH)
end Go.Proofs.Ytbnhaoimdponkaa
