/-
  A slice of structs whose fields are all integers of 64 bits: each field of each is a cell.
-/
import Derived.Deep.SlicePairs
import Derived.OpenShut
import Derived.ChangeOld
import Derived.DataShut
namespace Go.Proofs.Ytebiogadkamgcaa
open Go.RowKit Go.ChangeShapes Go.WideShapes Go.Deep
section
variable {H : Type} {enc : TypeId × Value → H} {P : Program} {w : World} {base : Nat} {spare : Nat → Bool} {held : Bool}

/-- All fields are integers of 64 bits, one behind the other. -/
def intFields (P : Program) (fs : Array Field) : Bool := (List.range fs.size).all fun j => match fs[j]? with
  | some f => f.offset == j && P.cellsOf f.type == 1 && (match P.underlying f.type with | some (.int .i64) => true | _ => false)
  | none => false
theorem intFields_at {P : Program} {fs : Array Field} (h : intFields P fs = true) (j : Nat) (f : Field) (hj : fs[j]? = some f) : f.offset = j ∧ P.cellsOf f.type = 1 ∧ P.underlying f.type = some (.int .i64) := by
  have h1 := List.all_eq_true.1 h j (List.mem_range.2 (Array.getElem?_eq_some_iff.1 hj).1)
  rw [hj] at h1
  simp only [Bool.and_eq_true, beq_iff_eq] at h1
  refine ⟨h1.1.1, h1.1.2, ?_⟩
  have h2 := h1.2
  split at h2
  · assumption
  · cases h2
theorem i64_wf {z : Int} (h : (Lit.int .i64 z).wf = true) : -9223372036854775808 ≤ z ∧ z ≤ 9223372036854775807 := (Lit.wf_int_iff .i64 z).1 h
theorem open_slice_ints {t e : TypeId} {fs : Array Field} {fuel : Nat} {cs : List Value} {x : DataW H × List MemPlace} (ht : P.underlying t = some (.slice e)) (he : P.underlying e = some (.struct fs)) (K : Nat) (hk : fs.size = K) (ce : P.cellsOf e = K)
    (hfs0 : intFields P fs = true) (h : DataW.trod enc P w base spare held fuel t cs = some x) :
    cs = [.slice none 0 0] ∨ ∃ (a : Addr) (len cap : Nat) (f : Nat → Nat → Int), cs = [.slice (some a) len cap] ∧ len ≤ cap ∧ cap ≤ maxLen ∧
      ∀ i, i < len → ∀ j, j < K → w.cell? (a.add (i * K + j)) = some (.int .i64 (f i j)) ∧ (Lit.int .i64 (f i j)).wf = true := by
  subst hk
  have hfs := intFields_at hfs0
  rcases open_slice ht h with ⟨rfl, _⟩ | ⟨a, len, cap, m, n, D, Pl, rfl, hb, hl, hm, hmm, rfl, hx⟩
  · exact .inl rfl
  right
  have hlm : len ≤ m := by rw [hmm]; split <;> omega
  have each : ∀ i j, ∃ z : Int, i < len → j < fs.size → w.cell? (a.add (i * fs.size + j)) = some (.int .i64 z) ∧ (Lit.int .i64 z).wf = true := by
    intro i j
    by_cases hi : i < len
    · by_cases hj : j < fs.size
      · obtain ⟨cs', h1, h2⟩ := hx i (by omega)
        rw [ce] at h1
        obtain ⟨_, hlen, hcell⟩ := World.cells?_some h1
        obtain ⟨xs, k, _, _, _, hxl, hf⟩ := DataW.trod_struct he h2
        have hjf := Array.getElem?_eq_getElem hj
        obtain ⟨o0, c0, u0⟩ := hfs j _ hjf
        have g0 := hf j _ hjf
        rw [List.getElem?_eq_getElem (by omega), o0, c0] at g0
        obtain ⟨z, hz, _, hw⟩ := DataW.trod_int u0 g0
        have e0 := hcell j (by omega)
        rw [add_add] at e0
        have hz' : cs'[j]? = some (.int .i64 z) := by
          have := congrArg (fun l : List Value => l[0]?) hz
          simpa [List.getElem?_drop] using this
        exact ⟨z, fun _ _ => ⟨by rw [e0, hz'], hw⟩⟩
      · exact ⟨0, fun _ h => absurd h hj⟩
    · exact ⟨0, fun h => absurd h hi⟩
  obtain ⟨f, hf⟩ := Classical.axiomOfChoice fun i => Classical.axiomOfChoice (each i)
  exact ⟨a, len, cap, f, rfl, hl, hm, fun i hi j hj => hf i j hi hj⟩
end
end Go.Proofs.Ytebiogadkamgcaa
