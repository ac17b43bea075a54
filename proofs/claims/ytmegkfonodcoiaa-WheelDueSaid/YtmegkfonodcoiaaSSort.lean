/-
  sort.Slice at timers, by isAhead bound to the slice: the row in order, nothing else turned.
-/
import Derived.Test.YtmegkfonodcoiaaSPdq
import Derived.Test.YtmegkfonodcoiaaWCmp
import Derived.Shelf.GgSortFunc.Tiny
namespace Go.Proofs.Ytmegkfonodcoiaa
open Go.RowKit Go.Sort

theorem W.flat_set : ∀ (l : List W.Tm) (i : Nat) (x : W.Tm), W.flat (l.set i x) = ((W.flat l).set (i * 2) (.int .i64 x.1)).set (i * 2 + 1) (.int .i64 x.2)
  | [], _, _ => rfl
  | y :: l, 0, x => rfl
  | y :: l, i + 1, x => by
    rw [List.set_cons_succ, W.flat_cons, W.flat_set l i x, show (i + 1) * 2 = i * 2 + 1 + 1 by omega, W.flat_cons]
    rfl
theorem W.get_at {d : Array W.Tm} {i : Nat} (h : i < d.size) : d.toList[i]? = some d[i]! := by
  rw [getElem!_pos d i h]; simp [h]

/-- The row of timers, in block g. -/
def SwT (g n : Nat) (rest : List Value) (d : Array W.Tm) (V : World) : Prop := d.size = n ∧ Blok V g 40 (W.flat d.toList ++ rest).toArray
theorem SwT.tin {g n c : Nat} {rest : List Value} {d : Array W.Tm} {V : World} (h : SwT g n rest d V) (hc : n ≤ c) (hm : c ≤ maxLen) : TIn V (some ⟨g, 0, none⟩) n c d.toList := by
  have h1 : d.toList.length = n := by simpa using h.1
  have := TIn.blok h.2 (c := c) (by rw [h1]; exact hc) hm
  rw [h1] at this
  exact this

theorem swo_lt : SWO W.lt := ⟨W.lt_irrefl, fun _ _ _ h k => W.lt_trans h k, fun x y z h k => by rw [W.lt_not] at *; omega⟩

noncomputable def typeT : TypeInfo := (Try.prog.info? 55).get (by kernel_rfl)
noncomputable def typeE : TypeInfo := (Try.prog.info? 40).get (by kernel_rfl)
theorem swapK (n : Nat) (h2 : 2 ≤ n) : Lib.swapperK n typeE 25 = 9 := by
  have a : typeE.hasPointers = false := by kernel_rfl
  have b : typeE.bytes = 16 := by kernel_rfl
  have c : (n == 0) = false := by simp; omega
  have d : (n == 1) = false := by simp; omega
  simp [Lib.swapperK, a, b, c, d]

set_option maxHeartbeats 1000000 in
theorem swap_run (g n c i j : Nat) (rest : List Value) (d : Array W.Tm) (V : World) (h : SwT g n rest d V) (hi : i < n) (hj : j < n) :
    ∃ V', (callFunc 52 (#[.int .i64 i, .int .i64 j] ++ #[.slice (some ⟨g, 0, none⟩) n c, typeHandle Try.prog 40])).run Try.prog V = .ok (.value (.tuple #[])) V' ∧ SwT g n rest (swp d i j) V' ∧ V.grownBy V' (some g) := by
  have hsz := h.1
  have hx := W.get_at (d := d) (i := i) (by omega)
  have hy := W.get_at (d := d) (i := j) (by omega)
  generalize d[i]! = x at hx
  generalize d[j]! = y at hy
  obtain ⟨f0, f1⟩ := W.flat_at _ _ _ hx
  obtain ⟨e0, e1⟩ := W.flat_at _ _ _ hy
  have hl : (W.flat d.toList).length = n * 2 := by rw [W.flat_len]; simp [hsz]
  have hcell : ∀ k v, (W.flat d.toList)[k]? = some v → V.cell? ⟨g, k, none⟩ = some v := fun k v hk => by
    rw [h.2.cell, List.getElem?_toArray, List.getElem?_append_left (List.getElem?_eq_some_iff.1 hk).1]; exact hk
  have hcx : ∀ k v, ([.int .i64 x.1, .int .i64 x.2] : List Value)[k]? = some v → V.cell? ⟨g, 0 + i * typeE.size + k, none⟩ = some v := fun k v hk => by
    rw [show typeE.size = 2 by kernel_rfl, Nat.zero_add]
    match k, hk with
    | 0, hk => simp at hk; rw [← hk]; exact hcell _ _ f0
    | 1, hk => simp at hk; rw [← hk]; exact hcell _ _ f1
    | k + 2, hk => simp at hk
  have hcy : ∀ k v, ([.int .i64 y.1, .int .i64 y.2] : List Value)[k]? = some v → V.cell? ⟨g, 0 + j * typeE.size + k, none⟩ = some v := fun k v hk => by
    rw [show typeE.size = 2 by kernel_rfl, Nat.zero_add]
    match k, hk with
    | 0, hk => simp at hk; rw [← hk]; exact hcell _ _ e0
    | 1, hk => simp at hk; rw [← hk]; exact hcell _ _ e1
    | k + 2, hk => simp at hk
  have hrun := Lib.run_swap_cells (P := Try.prog) false 40 typeE (by kernel_rfl) (fun _ => by kernel_rfl) g 0 n c i j hi hj [.int .i64 x.1, .int .i64 x.2] [.int .i64 y.1, .int .i64 y.2] (by kernel_rfl) (by kernel_rfl)
    (by intro v hv; simp at hv; rcases hv with rfl | rfl <;> rfl) (by intro v hv; simp at hv; rcases hv with rfl | rfl <;> rfl) V hcx hcy (fun k _ => h.2.frozen _) (fun k _ => h.2.frozen _)
  have hE := run_callFunc_extern Try.func52 (by kernel_rfl) (by kernel_rfl) (by kernel_rfl) (e := Extern.ReflectliteSwapper.swap false) (by kernel_rfl) (#[.int .i64 i, .int .i64 j] ++ #[.slice (some ⟨g, 0, none⟩) n c, typeHandle Try.prog 40]) V
  refine ⟨_, by rw [hE]; show ((Extern.ReflectliteSwapper.swap false #[.int .i64 i, .int .i64 j, .slice (some ⟨g, 0, none⟩) n c, typeHandle Try.prog 40]).run Try.prog V).andThen _ = _; rw [hrun]; rfl, ⟨by rw [size_swp]; exact hsz, ?_⟩, ?_⟩
  · rw [show typeE.size = 2 by kernel_rfl]
    show Blok ((((V.setCell ⟨g, 0 + i * 2, none⟩ (.int .i64 y.1)).setCell ⟨g, 0 + i * 2 + 1, none⟩ (.int .i64 y.2)).setCell ⟨g, 0 + j * 2, none⟩ (.int .i64 x.1)).setCell ⟨g, 0 + j * 2 + 1, none⟩ (.int .i64 x.2)) g _ _
    have hb := (((h.2.set (0 + i * 2) (.int .i64 y.1)).set (0 + i * 2 + 1) (.int .i64 y.2)).set (0 + j * 2) (.int .i64 x.1)).set (0 + j * 2 + 1) (.int .i64 x.2)
    have hsw : (swp d i j).toList = (d.toList.set i y).set j x := by
      unfold swp
      have h1 : d[i]! = x := by have := W.get_at (d := d) (i := i) (by omega); rw [hx] at this; exact (Option.some.inj this).symm
      have h2 : d[j]! = y := by have := W.get_at (d := d) (i := j) (by omega); rw [hy] at this; exact (Option.some.inj this).symm
      rw [h1, h2]; simp
    rw [hsw, W.flat_set, W.flat_set]
    simp only [Nat.zero_add, List.setIfInBounds_toArray] at hb
    rw [List.set_append_left _ _ (by omega), List.set_append_left _ _ (by simp; omega), List.set_append_left _ _ (by simp; omega), List.set_append_left _ _ (by simp; omega)] at hb
    simpa using hb
  · show V.grownBy ((((V.setCell ⟨g, _, none⟩ _).setCell ⟨g, _, none⟩ _).setCell ⟨g, _, none⟩ _).setCell ⟨g, _, none⟩ _) _
    exact (((grown_set V g _ _).trans (grown_set _ g _ _)).trans (grown_set _ g _ _)).trans (grown_set _ g _ _)

theorem sortBy_T (g n c : Nat) (rest : List Value) (hn : n ≤ 1000000) (hc : n ≤ c) (hm : c ≤ maxLen) :
    SortBy W.lt 33 #[.slice (some ⟨g, 0, none⟩) n c] #[] 52 #[.slice (some ⟨g, 0, none⟩) n c, typeHandle Try.prog 40] g n (SwT g n rest) where
  size h := h.1
  most := hn
  inb h := h.2.lt
  keep h hg hr := ⟨h.1, h.2.grown hg hr⟩
  enters := Go.Proofs.enters_of Try.func33 (by kernel_rfl) rfl
  less {d V} i j h hi hj := (ahead_any (some ⟨g, 0, none⟩) n c i j d.toList V (h.tin hc hm) hi hj _ _ (W.get_at (by rw [h.1]; exact hi)) (W.get_at (by rw [h.1]; exact hj)) _ rfl).mono fun _ _ ⟨he, hb⟩ => ⟨he, below_none hb⟩
  swap i j h hi hj := swap_run g n c i j rest _ _ h hi hj
end Go.Proofs.Ytmegkfonodcoiaa
