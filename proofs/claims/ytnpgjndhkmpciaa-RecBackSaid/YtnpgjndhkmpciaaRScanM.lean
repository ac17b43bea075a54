/-
  What Scan returns; a record more at the end of a row of records.
-/
import Derived.Test.YtnpgjndhkmpciaaRRows
namespace Go.Proofs.Ytnpgjndhkmpciaa
open Go.RowKit

theorem new_second (w : World) (o o' : Obj) : ((w.alloc o).alloc o').heap[w.heap.size + 1]? = some o' := by
  have := heap_alloc_new (w.alloc o) o'
  rwa [World.size_alloc] at this

/-- What Scan returns. -/
def ScanIs (L : List Int) (w : World) (e : Ending) (w' : World) : Prop :=
  ∃ a' n' cap' xs, e = .returned (.tuple #[.slice a' n' cap', .int .i64 (R.stop L : Int)]) ∧ Hid (xs.length = n') ∧ Hid (RP.recs xs = R.recs L) ∧ Hid (RecsIn w' a' cap' xs) ∧ Below w.heap.size w w'
theorem RP.recs_snoc (xs : List RP) (x : RP) : RP.recs (xs ++ [x]) = RP.recs xs ++ [RP.rec x] := by simp [RP.recs]
theorem RP.recs_len (xs : List RP) : (RP.recs xs).length = xs.length := by simp [RP.recs]
theorem scan_next {w2 W w4 : World} {H : Nat} {v : Value} {xs ys : List RP} (hown : w2.ownsRow H 24 2 v xs.length (RP.flat xs)) (hok : ∀ y ∈ ys, RP.ok w2 y ∧ InB w2 y.2.1) (hW : Below w2.heap.size w2 W) (hgrow : W.grownBy w4 v.ownBlock) :
    ∀ y ∈ ys, RP.ok w4 y ∧ InB w4 y.2.1 := by
  intro y hy
  obtain ⟨h1, h2⟩ := hok y hy
  have h3 := h1.below hW
  have h4 := h2.below hW
  have hne := inB_row h4 (ownsRow_below hown hW)
  exact ⟨⟨h3.1, row_grown h3.2.1 hgrow hne, h3.2.2⟩, inB_grown h4 hgrow hne⟩
theorem ScanIs.mk {L : List Int} {p n : Nat} {xs : List RP} {v : Value} {w w' : World} {H : Nat} (hd : R.Done L (RP.recs xs) p) (hn : xs.length = n) (ho : w'.ownsRow H 24 2 v n (RP.flat xs)) (hok : ∀ x ∈ xs, RP.ok w' x ∧ InB w' x.2.1) (hb : Below w.heap.size w w') :
    ScanIs L w (.returned (.tuple #[v, .int .i64 (p : Int)])) w' := by
  obtain ⟨h1, h2⟩ := hd.eq
  obtain ⟨a', cap', rfl, hr⟩ := own_recs ho hn (fun x hx => (hok x hx).1)
  exact ⟨a', n, cap', xs, by rw [h2], Lib.hid hn, Lib.hid h1, Lib.hid hr, hb⟩
/-- What Get tells at a place that was come to. -/
theorem R.at_place {L : List Int} {l : List R.T} {p : Nat} (hw : C.wf L) (hP : R.Part L l p) :
    (∃ e, e ≠ 0 ∧ R.get L p = (e, (0, []), 0) ∧ R.Done L l p) ∨ (∃ r s, R.get L p = (0, r, ((p + s : Nat) : Int)) ∧ R.Part L (l ++ [r]) (p + s) ∧ 6 ≤ s ∧ p + s ≤ L.length) := by
  rcases R.head_cases (L.drop p) with ⟨e, he, hh⟩ | ⟨r, s, hh⟩
  · exact .inl ⟨e, he, R.get_err hP.1 he hh, hP, by rw [hh]; exact he⟩
  · obtain ⟨h1, h2, _⟩ := hP.step hw hh
    exact .inr ⟨r, s, by rw [R.get_ok hP.1 hh]; simp, h1, h2, h1.1⟩
end Go.Proofs.Ytnpgjndhkmpciaa
