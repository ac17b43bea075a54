/-
  copy of structs of k cells, and what slices.Insert asks of two rows.
-/
import Derived.Test.YtbnhaoimdponkaaLDel
import Derived.Shelf.Spec.SlicesInsertGrow
namespace Go.Proofs.Ytbnhaoimdponkaa
open Go.RowKit Go.Shelf Go.Lib

theorem run_copy_k {P : Program} (w : World) (dT sT ty elem : TypeId) (k q b o dLen dCap : Nat) (a : Addr) (sLen sCap : Nat) (cs : List Value)
    (hu : P.underlying dT = some (.slice elem)) (hs : (P.info? elem).map (·.size) = some k) (hq : q = Nat.min sLen dLen) (hn : cs.length = q * k)
    (hsrc : ∀ j v, cs[j]? = some v → w.cell? (a.add j) = some v) (hc : ∀ j, j < cs.length → (w.cell? ⟨b, o + j, none⟩).isSome = true) (hf : ∀ j, j < cs.length → w.frozen? ⟨b, o + j, none⟩ = false) (h1 : ∀ v ∈ cs, v.oneCell' = true) :
    (Builtin.copy_ #[dT, sT] ty #[.slice (some ⟨b, o, none⟩) dLen dCap, .slice (some a) sLen sCap]).run P w = .ok (goInt q) (w.setCells b o cs) := by
  have hl := run_loadCells_list (P := P) w a cs hsrc
  have hst := run_storeCells_cells (P := P) b o cs 0 w (by simpa using hc) (by simpa using hf) h1
  rw [hn] at hl
  cases hi : P.info? elem with
  | none => simp [hi] at hs
  | some i =>
    have hi2 : i.size = k := by simpa [hi] using hs
    simp [Builtin.copy_, run_underlying hu, Builtin.lenOf, Builtin.firstCells, sizeOf, typeInfo, hi, hi2, ← hq, hl, hst]
theorem Blok.shape {w : World} {g : Nat} {t : TypeId} {cs : Array Value} (h : Blok w g t cs) : w.shape? g = some (t, cs.size) := by
  unfold World.shape?
  rw [show w.heap[g]? = _ from h]
theorem own_blok {α : Type} [L.Rec α] {w : World} {B g n c t k : Nat} {l : List α} (h : w.ownsRow B t k (.slice (some ⟨g, 0, none⟩) n c) n (L.flat l)) : B ≤ g ∧ n ≤ c ∧ c ≤ maxLen ∧ ∃ rest : List Value, rest.length = c * k - n * k ∧ Blok w g t (L.flat l ++ rest).toArray := by
  rcases h.2 with ⟨h0, _⟩ | ⟨g', cap, cur, he, hB, hg, h1, h2, h3, h4⟩
  · simp at h0
  · simp only [Value.slice.injEq, Option.some.injEq, Addr.mk.injEq, and_true, true_and] at he
    obtain ⟨rfl, rfl⟩ := he
    refine ⟨hB, h1, h2, cur.toList.drop (n * k), by simp [h3], ?_⟩
    rw [← h4, List.take_append_drop]
    exact hg
theorem blok_own {α : Type} [L.Rec α] {w : World} {B g n c t k : Nat} {l : List α} {rest : List Value} (h : Blok w g t (L.flat l ++ rest).toArray) (hk : (L.flat l).length = n * k) (hr : rest.length = c * k - n * k) (hB : B ≤ g) (hc : n ≤ c) (hm : c ≤ maxLen) : w.ownsRow B t k (.slice (some ⟨g, 0, none⟩) n c) n (L.flat l) := by
  have : n * k ≤ c * k := Nat.mul_le_mul_right k hc
  refine ⟨hk, .inr ⟨g, c, _, rfl, hB, h, hc, hm, by simp only [List.size_toArray, List.length_append, hk, hr]; omega, ?_⟩⟩
  show List.take _ (L.flat l ++ rest) = _
  rw [List.take_append_of_le_length (by rw [hk]; exact Nat.le_refl _), List.take_of_length_le (by rw [hk]; exact Nat.le_refl _)]
end Go.Proofs.Ytbnhaoimdponkaa
