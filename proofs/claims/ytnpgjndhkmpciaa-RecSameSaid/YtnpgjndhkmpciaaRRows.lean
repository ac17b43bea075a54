/-
  Slices of records: what they read as, what they own; results of Get as places of records.
-/
import Derived.Test.YtnpgjndhkmpciaaRGet
import Derived.Deep.AppendLies
namespace Go.Proofs.Ytnpgjndhkmpciaa
open Go.RowKit

/-- A record where it lies: its kind, its body's address, length and room, and its body. -/
abbrev RP := Int × Option Addr × Nat × Nat × List Int
def RP.val (x : RP) : Value := .agg #[.int .i64 x.1, .slice x.2.1 x.2.2.1 x.2.2.2.1]
def RP.cells (x : RP) : List Value := [.int .i64 x.1, .slice x.2.1 x.2.2.1 x.2.2.2.1]
def RP.rec (x : RP) : R.T := (x.1, x.2.2.2.2)
/-- It reads as its body. -/
def RP.ok (w : World) (x : RP) : Prop := x.2.2.2.2.length = x.2.2.1 ∧ RowIn .u8 w x.2.1 x.2.2.2.1 x.2.2.2.2 ∧ (x.2.1 = none → x.2.2.1 = 0 ∧ x.2.2.2.1 = 0)
def RP.flat (xs : List RP) : List Value := xs.flatMap RP.cells
def RP.recs (xs : List RP) : List R.T := xs.map RP.rec
theorem RP.flat_snoc (xs : List RP) (x : RP) : RP.flat (xs ++ [x]) = RP.flat xs ++ RP.cells x := by simp [RP.flat]
theorem RP.flat_len (xs : List RP) : (RP.flat xs).length = xs.length * 2 := by
  induction xs with
  | nil => rfl
  | cons x xs ih => simp [RP.flat, RP.cells] at ih ⊢; omega
theorem RP.flat_at : ∀ (xs : List RP) (i : Nat) (x : RP), xs[i]? = some x → (RP.flat xs)[i * 2]? = some (.int .i64 x.1) ∧ (RP.flat xs)[i * 2 + 1]? = some (.slice x.2.1 x.2.2.1 x.2.2.2.1)
  | [], _, _, h => by simp at h
  | y :: xs, 0, x, h => by
    obtain rfl : y = x := by simpa using h
    exact ⟨rfl, rfl⟩
  | y :: xs, i + 1, x, h => by
    have := RP.flat_at xs i x (by simpa using h)
    have e : (i + 1) * 2 = i * 2 + 2 := by omega
    rw [e]
    exact this
theorem RP.ok.below {w w' : World} {x : RP} (h : RP.ok w x) (hb : Below w.heap.size w w') : RP.ok w' x := ⟨h.1, h.2.1.below hb, h.2.2⟩

/-- What a slice of records reads as. -/
def RecsIn (w : World) (a : Option Addr) (cap : Nat) (xs : List RP) : Prop :=
  (xs.length ≤ cap ∧ cap ≤ maxLen) ∧ (∀ x ∈ xs, RP.ok w x) ∧ (xs = [] ∨ ∃ b off, a = some ⟨b, off, none⟩ ∧ b < w.heap.size ∧ ∀ i x, xs[i]? = some x → w.cell? ⟨b, off + i * 2, none⟩ = some (.int .i64 x.1) ∧ w.cell? ⟨b, off + i * 2 + 1, none⟩ = some (.slice x.2.1 x.2.2.1 x.2.2.2.1))
theorem RecsIn.below {w w' : World} {a : Option Addr} {cap : Nat} {xs : List RP} (h : RecsIn w a cap xs) (hb : Below w.heap.size w w') : RecsIn w' a cap xs := by
  refine ⟨h.1, fun x hx => (h.2.1 x hx).below hb, ?_⟩
  rcases h.2.2 with h0 | ⟨b, off, rfl, hlt, hc⟩
  · exact .inl h0
  · exact .inr ⟨b, off, rfl, Nat.lt_of_lt_of_le hlt hb.size, fun i x hi => ⟨(hb.cell (p := ⟨b, off + i * 2, none⟩) hlt).trans (hc i x hi).1, (hb.cell (p := ⟨b, off + i * 2 + 1, none⟩) hlt).trans (hc i x hi).2⟩⟩
theorem RecsIn.nil (w : World) (a : Option Addr) {cap : Nat} (h : cap ≤ maxLen) : RecsIn w a cap [] := ⟨⟨by simp, h⟩, by simp, .inl rfl⟩
theorem RecsIn.at {w : World} {a : Option Addr} {cap i : Nat} {xs : List RP} (h : RecsIn w a cap xs) (hi : i < xs.length) :
    ∃ b off k a' n c B, a = some ⟨b, off, none⟩ ∧ xs[i]? = some (k, a', n, c, B) ∧ w.cell? ⟨b, off + i * 2, none⟩ = some (.int .i64 k) ∧ w.cell? ⟨b, off + i * 2 + 1, none⟩ = some (.slice a' n c) ∧ B.length = n ∧ RowIn .u8 w a' c B ∧ (a' = none → n = 0 ∧ c = 0) := by
  rcases h.2.2 with rfl | ⟨b, off, rfl, _, hc⟩
  · simp at hi
  · have hx := List.getElem?_eq_getElem hi
    obtain ⟨c1, c2⟩ := hc i _ hx
    obtain ⟨o1, o2, o3⟩ := h.2.1 _ (List.getElem_mem hi)
    exact ⟨b, off, _, _, _, _, _, rfl, hx, c1, c2, o1, o2, o3⟩
theorem own_recs {w : World} {B e n : Nat} {v : Value} {xs : List RP} (h : w.ownsRow B e 2 v n (RP.flat xs)) (hn : xs.length = n) (ho : ∀ x ∈ xs, RP.ok w x) : ∃ a cap, v = .slice a n cap ∧ RecsIn w a cap xs := by
  rcases h.2 with ⟨rfl, h0⟩ | ⟨g, cap, cur, rfl, _, hg, hle, hm, _⟩
  · obtain rfl : xs = [] := List.eq_nil_of_length_eq_zero (by omega)
    exact ⟨none, 0, by rw [h0], RecsIn.nil w none (by simp [maxLen])⟩
  · refine ⟨_, cap, rfl, ⟨by omega, hm⟩, ho, .inr ⟨g, 0, rfl, (Array.getElem?_eq_some_iff.1 hg).1, fun i x hi => ?_⟩⟩
    obtain ⟨f1, f2⟩ := RP.flat_at xs i x hi
    have c1 := h.cells (g := g) rfl _ _ f1
    have c2 := h.cells (g := g) rfl _ _ f2
    rw [WideShapes.add_plain] at c1 c2
    exact ⟨c1, by rw [Nat.add_assoc]; exact c2⟩

theorem row_grown {k : IntKind} {w w' : World} {a : Option Addr} {cap : Nat} {L : List Int} {row : Option Nat} (h : RowIn k w a cap L) (hg : w.grownBy w' row) (hne : ∀ x, a = some x → some x.block ≠ row) : RowIn k w' a cap L := by
  refine ⟨h.1, h.2.1, ?_⟩
  rcases h.2.2 with h0 | ⟨b, off, rfl, hlt, hc⟩
  · exact .inl h0
  · refine .inr ⟨b, off, rfl, Nat.lt_of_lt_of_le hlt hg.size, fun i hi => ?_⟩
    rw [← hc i hi]
    unfold World.cell?
    rw [hg.block b hlt (hne _ rfl)]
theorem inB_grown {w w' : World} {a : Option Addr} {row : Option Nat} (h : InB w a) (hg : w.grownBy w' row) (hne : ∀ x, a = some x → some x.block ≠ row) : InB w' a := fun x hx => by
  obtain ⟨cs, f, hc⟩ := h x hx
  exact ⟨cs, f, (hg.block _ (Array.getElem?_eq_some_iff.1 hc).1 (hne x hx)).trans hc⟩
/-- A block of bytes is not a row of records. -/
theorem inB_row {w : World} {a : Option Addr} {B n : Nat} {v : Value} {xs : List Value} (h : InB w a) (hr : w.ownsRow B 24 2 v n xs) : ∀ x, a = some x → some x.block ≠ v.ownBlock := by
  intro x hx
  rcases hr.2 with ⟨rfl, _⟩ | ⟨g, cap, cur, rfl, _, hg, _⟩
  · simp [Value.ownBlock]
  · intro he
    obtain ⟨cs, f, hc⟩ := h x hx
    obtain rfl : x.block = g := by simpa [Value.ownBlock] using he
    have := hc.symm.trans hg
    simp at this
theorem info_rec2 : (Try.prog.info? 24).map (fun i => (i.zero, i.size, i.bytes)) = some (some (.agg #[.int .i64 0, .slice none 0 0]), 2, 32) := by kernel_rfl
/-- What Get found, as a record where it lies. -/
theorem GetRec.place {L : List Int} {p : Int} {w w' : World} {e : Ending} (h : GetRec L p w e w') :
    ∃ x : RP, e = .returned (.tuple #[.agg #[.int .i64 x.1, .slice x.2.1 x.2.2.1 x.2.2.2.1], .int .i64 (R.get L p).2.2, .int .i64 (R.get L p).1]) ∧ Hid (RP.rec x = (R.get L p).2.1) ∧ Hid (RP.ok w' x) ∧ Hid (InB w' x.2.1) ∧ Below w.heap.size w w' := by
  obtain ⟨a, n, cap, he, h1, h2, h3, h4, h5⟩ := h
  exact ⟨((R.get L p).2.1.1, a, n, cap, (R.get L p).2.1.2), he, Lib.hid rfl, Lib.hid ⟨h1.out, h2.out, h3.out⟩, h4, h5⟩
end Go.Proofs.Ytnpgjndhkmpciaa
