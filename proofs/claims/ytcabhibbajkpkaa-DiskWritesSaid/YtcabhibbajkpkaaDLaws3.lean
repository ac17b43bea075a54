/-
  What follows of disks, more: what is written, synced, cut off, and crashes.
-/
import Derived.Test.YtcabhibbajkpkaaDLaws
namespace Go.Proofs.Ytcabhibbajkpkaa
namespace D

theorem small_may {d : T} (hm : may d) : small d.2 := by
  have h1 := hm.1.2.2
  have h2 := hm.2.2.2
  have h3 := hm.1.2.1
  refine ⟨by omega, fun f hf => ?_⟩
  have h4 : f.2.1.length ≤ used d.2 := by
    obtain ⟨s, t, h⟩ := List.append_of_mem hf
    rw [h, used_append, used_cons]; omega
  omega
theorem idx_set {l : List F} {no : Int} {j : Nat} {y : F} (h : idx l no = some j) (hy : y.1 = no) : idx (l.set j y) no = some j := by
  unfold idx at h ⊢
  rw [List.findIdx?_eq_some_iff_getElem] at h ⊢
  obtain ⟨h1, h2, h3⟩ := h
  refine ⟨by simpa using h1, by simp [hy], fun i hi => ?_⟩
  have h4 := h3 i hi
  rw [List.getElem_set, if_neg (by omega)]
  exact h4
theorem getD_set {l : List F} {j : Nat} {y : F} (h : j < l.length) : (l.set j y).getD j nof = y := by
  rw [getD_lt (by simpa using h)]; simp
theorem crashed_at : ∀ (l : List F) (ps : List Int) (j : Nat), j < l.length → (l.getD j nof).2.2 = ((l.getD j nof).2.1.length : Int) → (crashed l ps).getD j nof = l.getD j nof
  | [], _, _, h, _ => by simp at h
  | f :: l, ps, 0, _, hs => by
    have hs' : f.2.2 = (f.2.1.length : Int) := by simpa using hs
    rw [crashed, if_pos hs']; rfl
  | f :: l, ps, j + 1, h, hs => by
    have h1 : j < l.length := by simpa using h
    have h2 : (l.getD j nof).2.2 = ((l.getD j nof).2.1.length : Int) := by simpa using hs
    rw [crashed]
    split
    · simpa using crashed_at l ps j h1 h2
    · simpa using crashed_at l (ps.drop 2) j h1 h2
theorem write_of {d : T} {no : Int} {bb : List Int} (h : (write d no bb).2 = 0) : may d ∧ ∃ j, idx d.2 no = some j ∧ write d no bb = ((d.1, d.2.set j ((d.2.getD j nof).1, (d.2.getD j nof).2.1 ++ bb, (d.2.getD j nof).2.2)), 0) := by
  by_cases hm : may d
  · refine ⟨hm, ?_⟩
    cases hi : idx d.2 no with
    | none =>
      unfold write upd at h
      rw [if_pos hm, hi] at h
      simp at h
    | some j =>
      refine ⟨j, rfl, ?_⟩
      by_cases hc : d.1 < ((used d.2 + bb.length : Nat) : Int)
      · have h3 := upd_err (no := no) (g := fun f => if d.1 < ((used d.2 + bb.length : Nat) : Int) then (9, f) else (0, f.1, f.2.1 ++ bb, f.2.2)) hm hi rfl (if_pos hc) (by decide)
        unfold write at h
        rw [h3] at h
        simp at h
      · exact upd_ok (no := no) (g := fun f => if d.1 < ((used d.2 + bb.length : Nat) : Int) then (9, f) else (0, f.1, f.2.1 ++ bb, f.2.2)) hm hi rfl (if_neg hc)
  · unfold write upd at h
    rw [if_neg hm] at h
    simp at h
/-- What is written, synced, crashes, and is cut off. -/
theorem writes_of {d : T} {no : Int} {bb : List Int} (h : (write d no bb).2 = 0) :
    ∃ (j : Nat) (A C : T), write d no bb = (A, 0) ∧ sync A no = (C, 0) ∧ may d ∧ may A ∧ may C ∧ find d no = j ∧ j < d.2.length ∧ A.2.length = d.2.length ∧ C.2.length = d.2.length ∧ (A.2.getD j nof).2.1 = (d.2.getD j nof).2.1 ++ bb ∧ used A.2 = used d.2 + bb.length ∧
      (∀ ps, (crash C ps).2.length = d.2.length ∧ ((crash C ps).2.getD j nof).2.1 = (A.2.getD j nof).2.1) ∧
      ∀ n, (cut C no n).2 = 0 → ∃ m : Nat, n = m ∧ (cut C no n).1.2.length = d.2.length ∧ ((cut C no n).1.2.getD j nof).2.1.length = m ∧ ((cut C no n).1.2.getD j nof).2.2 = (m : Int) := by
  obtain ⟨hm, j, hj, hw⟩ := write_of h
  obtain ⟨h1, h2⟩ := idx_some hj
  have hmA : may (write d no bb).1 := by have h := (op_may 1 no 0 bb [] d).2 hm; simpa [op] using h
  rw [hw] at hmA
  have hjA := idx_set (y := ((d.2.getD j nof).1, (d.2.getD j nof).2.1 ++ bb, (d.2.getD j nof).2.2)) hj h2
  have hgA := getD_set (y := ((d.2.getD j nof).1, (d.2.getD j nof).2.1 ++ bb, (d.2.getD j nof).2.2)) h1
  have hsync := upd_ok (no := no) (g := fun f => (0, f.1, f.2.1, (f.2.1.length : Int))) hmA hjA hgA rfl
  have hmC : may (sync (d.1, d.2.set j ((d.2.getD j nof).1, (d.2.getD j nof).2.1 ++ bb, (d.2.getD j nof).2.2)) no).1 := by have h := (op_may 2 no 0 [] [] (d.1, d.2.set j ((d.2.getD j nof).1, (d.2.getD j nof).2.1 ++ bb, (d.2.getD j nof).2.2))).2 hmA; simpa [op] using h
  unfold sync at hmC
  rw [hsync] at hmC
  have h1A : j < (d.2.set j ((d.2.getD j nof).1, (d.2.getD j nof).2.1 ++ bb, (d.2.getD j nof).2.2)).length := by simpa using h1
  have hgC := getD_set (y := ((d.2.getD j nof).1, (d.2.getD j nof).2.1 ++ bb, ((((d.2.getD j nof).2.1 ++ bb).length : Nat) : Int))) h1A
  have hjC := idx_set (y := ((d.2.getD j nof).1, (d.2.getD j nof).2.1 ++ bb, ((((d.2.getD j nof).2.1 ++ bb).length : Nat) : Int))) hjA h2
  refine ⟨j, _, _, hw, by unfold sync; exact hsync, hm, hmA, hmC, ?_, h1, by simp, by simp, by rw [hgA], ?_, fun ps => ?_, fun n hn => ?_⟩
  · unfold find; rw [if_pos hm, hj]
  · have h3 := used_set d.2 j ((d.2.getD j nof).1, (d.2.getD j nof).2.1 ++ bb, (d.2.getD j nof).2.2) h1
    simp only [List.length_append] at h3
    simp only
    omega
  · unfold crash
    rw [if_pos hmC]
    refine ⟨by simp [crashed_len], ?_⟩
    rw [crashed_at _ ps j (by simpa using h1) (by rw [hgC]), hgC, hgA]
  · by_cases hb : n < 0 ∨ ((((d.2.getD j nof).2.1 ++ bb).length : Nat) : Int) < n
    · have h3 := upd_err (no := no) (g := fun f => if n < 0 ∨ (f.2.1.length : Int) < n then (1, f) else (0, f.1, f.2.1.take n.toNat, n)) hmC hjC hgC (if_pos hb) (by decide)
      unfold cut at hn
      rw [h3] at hn
      simp at hn
    · have h3 := upd_ok (no := no) (g := fun f => if n < 0 ∨ (f.2.1.length : Int) < n then (1, f) else (0, f.1, f.2.1.take n.toNat, n)) hmC hjC hgC (if_neg hb)
      unfold cut
      rw [h3]
      refine ⟨n.toNat, by omega, by simp, ?_, ?_⟩
      · rw [getD_set (by simpa using h1)]
        simp only [List.length_take]
        omega
      · rw [getD_set (by simpa using h1)]
        simp only
        omega
end D
end Go.Proofs.Ytcabhibbajkpkaa
