/-
  What arguments read as: slices of bytes and of integers, a disk, what is done to it.
-/
import Derived.Test.YtcabhibbajkpkaaDHelp
import Derived.OpenShut
import Derived.ChangeOld
import Derived.Lib.SmallJoins
import Derived.Deep.Slices
namespace Go.Proofs.Ytcabhibbajkpkaa
open Go.RowKit Go.ChangeShapes Go.WideShapes Go.Joins Go.Deep
section
variable {H : Type} {enc : TypeId × Value → H} {W : World} {held : Bool}

theorem isRow_of {fuel : Nat} {v : Value} {y : DataW H × List MemPlace} (h : DataW.trod enc Try.prog W 0 (fun _ => true) held fuel 25 [v] = some y) : ∃ a len cap zs, v = .slice a len cap ∧ IsRow .u8 W a len cap zs := by
  rcases open_ints Try.underlying25 Try.underlying5 (by kernel_rfl) h with ⟨hcs, _⟩ | ⟨x, l, c, zs, hcs, _, hl, hm, hz, _, hcell, hwz⟩
  · simp at hcs
    exact ⟨none, 0, 0, [], hcs, .inl ⟨rfl, rfl, rfl, rfl⟩⟩
  · simp at hcs
    exact ⟨some x, l, c, zs, hcs, .inr ⟨_, rfl, hl, hm, by simpa using hz, hcell, hwz⟩⟩
theorem isRow64_of {fuel : Nat} {v : Value} {y : DataW H × List MemPlace} (h : DataW.trod enc Try.prog W 0 (fun _ => true) held fuel 26 [v] = some y) : ∃ a len cap zs, v = .slice a len cap ∧ IsRow .i64 W a len cap zs := by
  rcases open_ints Try.underlying26 Try.underlying3 (by kernel_rfl) h with ⟨hcs, _⟩ | ⟨x, l, c, zs, hcs, _, hl, hm, hz, _, hcell, hwz⟩
  · simp at hcs
    exact ⟨none, 0, 0, [], hcs, .inl ⟨rfl, rfl, rfl, rfl⟩⟩
  · simp at hcs
    exact ⟨some x, l, c, zs, hcs, .inr ⟨_, rfl, hl, hm, by simpa using hz, hcell, hwz⟩⟩

/-- A slice of files. -/
theorem files_of {fuel : Nat} {v : Value} {y : DataW H × List MemPlace} (h : DataW.trod enc Try.prog W 0 (fun _ => true) held fuel 22 [v] = some y) : ∃ a n c xs, v = .slice a n c ∧ DiskIn W a n c xs := by
  rcases open_slice Try.underlying22 h with ⟨hcs, _⟩ | ⟨x, len, cap, m, n, D0, Pl, hcs, _, hl, hm, hmm, _, hx⟩
  · simp only [List.cons.injEq, and_true] at hcs
    exact ⟨none, 0, 0, [], hcs, DiskIn.empty W⟩
  · simp only [List.cons.injEq, and_true] at hcs
    have hml : m = cap := by simpa using hmm
    subst hml
    have each : ∀ i, ∃ z : FP, i < len → (∀ j u, (FP.cells z)[j]? = some u → W.cell? (x.add (i * 3 + j)) = some u) ∧ FP.ok W z := by
      intro i
      by_cases hi : i < len
      · obtain ⟨cs', h1, h2⟩ := hx i (by omega)
        have hce : Try.prog.cellsOf 43 = 3 := by kernel_rfl
        rw [hce] at h1
        obtain ⟨_, hlen, hcell⟩ := World.cells?_some h1
        obtain ⟨ys, q, _, _, _, hyl, hf⟩ := DataW.trod_struct Try.underlying43 h2
        match ys, hyl, cs', hlen with
        | [y0, y1, y2], _, [v0, v1, v2], _ =>
          have g0 : DataW.trod enc Try.prog W 0 (fun _ => true) held q 3 [v0] = some y0 := hf 0 _ rfl
          have g1 : DataW.trod enc Try.prog W 0 (fun _ => true) held q 25 [v1] = some y1 := hf 1 _ rfl
          have g2 : DataW.trod enc Try.prog W 0 (fun _ => true) held q 3 [v2] = some y2 := hf 2 _ rfl
          obtain ⟨no, e0, _, _⟩ := DataW.trod_int (k := .i64) Try.underlying3 g0
          obtain ⟨s, e2, _, _⟩ := DataW.trod_int (k := .i64) Try.underlying3 g2
          obtain ⟨a', n', c', zs, e1, hr⟩ := isRow_of g1
          simp only [List.cons.injEq, and_true] at e0 e2
          subst e0 e1 e2
          obtain ⟨r1, r2⟩ := hr.rowIn
          refine ⟨⟨no, a', n', c', zs.take n', s⟩, fun _ => ⟨fun j u hu => ?_, r2, r1, hr.nil⟩⟩
          have hj : j < 3 := (List.getElem?_eq_some_iff.1 hu).1
          have h3 := hcell j hj
          rw [add_add] at h3
          rw [h3]
          exact hu
      · exact ⟨⟨0, none, 0, 0, [], 0⟩, fun h => absurd h hi⟩
    obtain ⟨f, hf⟩ := Classical.axiomOfChoice each
    have hflat : ∀ (l : Nat) (i : Nat) (u : Value), (FP.flat ((List.range l).map f))[i]? = some u → i / 3 < l ∧ (FP.cells (f (i / 3)))[i % 3]? = some u := by
      intro l
      induction l with
      | zero => intro i u hu; simp [FP.flat] at hu
      | succ l ih =>
        intro i u hu
        rw [List.range_succ, List.map_append, FP.flat_append] at hu
        have hlen : (FP.flat ((List.range l).map f)).length = l * 3 := by rw [FP.flat_len]; simp
        by_cases hi : i < l * 3
        · rw [List.getElem?_append_left (by rw [hlen]; exact hi)] at hu
          obtain ⟨h1, h2⟩ := ih i u hu
          exact ⟨by omega, h2⟩
        · rw [List.getElem?_append_right (by rw [hlen]; omega), hlen] at hu
          have hc : FP.flat ([l].map f) = FP.cells (f l) := by simp [FP.flat]
          rw [hc] at hu
          have h3 : i - l * 3 < 3 := (List.getElem?_eq_some_iff.1 hu).1
          have e1 : i / 3 = l := by omega
          have e2 : i % 3 = i - l * 3 := by omega
          rw [e1, e2]
          exact ⟨by omega, hu⟩
    refine ⟨some x, len, m, (List.range len).map f, hcs, by simp, ⟨⟨by simp; omega, hm⟩, ?_, ?_⟩, fun h => by cases h⟩
    · intro y hy
      obtain ⟨i, hi, rfl⟩ := List.mem_map.1 hy
      exact (hf i (List.mem_range.1 hi)).2
    · by_cases h0 : len = 0
      · exact .inl (by simp [h0])
      · have c0 := (hf 0 (by omega)).1 0 _ rfl
        obtain ⟨b, off, spot⟩ := x
        have hspot : spot = none := by simpa [Addr.add] using World.cell?_spot c0
        subst hspot
        rw [WideShapes.add_plain] at c0
        refine .inr ⟨b, off, rfl, World.block_lt_of_cell? (a := ⟨b, off + (0 * 3 + 0), none⟩) _ c0, fun i u hu => ?_⟩
        obtain ⟨h1, h2⟩ := hflat len i u hu
        have h3 := (hf (i / 3) h1).1 (i % 3) u h2
        rw [WideShapes.add_plain, show i / 3 * 3 + i % 3 = i by omega] at h3
        exact h3

/-- A disk. -/
theorem open_disk {r : Reach} {b0 : Nat} {v : Value} {d : DataW H} {p : List MemPlace} (hv : Value.okWide Try.prog W r b0 24 v) (h : DataW.Trod enc Try.prog W 0 (fun _ => true) held 24 v d p) :
    ∃ k a n c xs, v = .agg #[.int .i64 k, .slice a n c] ∧ DiskIn W a n c xs := by
  obtain ⟨v0, v1, y0, y1, n, rfl, _, _, h0, h1⟩ := open_agg2 Try.underlying24 (by kernel_rfl) (by kernel_rfl) hv h
  obtain ⟨k, hk, _, _⟩ := DataW.trod_int (k := .i64) Try.underlying3 h0
  obtain ⟨a, n, c, xs, rfl, hr⟩ := files_of h1
  simp at hk
  exact ⟨k, a, n, c, xs, by rw [hk], hr⟩
/-- What is done to it. -/
theorem open_op {r : Reach} {b0 : Nat} {v : Value} {d : DataW H} {p : List MemPlace} (hv : Value.okWide Try.prog W r b0 28 v) (h : DataW.Trod enc Try.prog W 0 (fun _ => true) held 28 v d p) :
    ∃ ok on oN ad nd cd ap np cp bd ps, v = .agg #[.int .i64 ok, .int .i64 on, .int .i64 oN, .slice ad nd cd, .slice ap np cp] ∧ OpIn W ad nd cd bd ap np cp ps := by
  obtain ⟨cs, rfl, hsz⟩ := okWide_struct Try.underlying28 hv
  have hce : Try.prog.cellsOf 28 = 5 := by kernel_rfl
  obtain ⟨fuel, hf0⟩ := h
  obtain ⟨ys, q, _, _, _, hyl, hf⟩ := DataW.trod_struct Try.underlying28 hf0
  obtain ⟨l⟩ := cs
  match l, hsz.trans hce, ys, hyl with
  | [v0, v1, v2, v3, v4], _, [y0, y1, y2, y3, y4], _ =>
    have g0 : DataW.trod enc Try.prog W 0 (fun _ => true) held q 3 [v0] = some y0 := hf 0 _ rfl
    have g1 : DataW.trod enc Try.prog W 0 (fun _ => true) held q 3 [v1] = some y1 := hf 1 _ rfl
    have g2 : DataW.trod enc Try.prog W 0 (fun _ => true) held q 3 [v2] = some y2 := hf 2 _ rfl
    have g3 : DataW.trod enc Try.prog W 0 (fun _ => true) held q 25 [v3] = some y3 := hf 3 _ rfl
    have g4 : DataW.trod enc Try.prog W 0 (fun _ => true) held q 26 [v4] = some y4 := hf 4 _ rfl
    obtain ⟨ok, e0, _, _⟩ := DataW.trod_int (k := .i64) Try.underlying3 g0
    obtain ⟨on, e1, _, _⟩ := DataW.trod_int (k := .i64) Try.underlying3 g1
    obtain ⟨oN, e2, _, _⟩ := DataW.trod_int (k := .i64) Try.underlying3 g2
    obtain ⟨ad, nd, cd, zd, rfl, hd⟩ := isRow_of g3
    obtain ⟨ap, np, cp, zp, rfl, hp⟩ := isRow64_of g4
    simp only [List.cons.injEq, and_true] at e0 e1 e2
    subst e0 e1 e2
    exact ⟨ok, on, oN, ad, nd, cd, ap, np, cp, _, _, rfl, ⟨hd.rowIn.2, hd.rowIn.1, hd.nil⟩, hp.rowIn.2, hp.rowIn.1⟩
end
end Go.Proofs.Ytcabhibbajkpkaa
