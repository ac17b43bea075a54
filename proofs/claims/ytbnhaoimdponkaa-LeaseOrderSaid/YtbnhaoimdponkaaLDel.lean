/-
  A walk of slices.Delete at one lease of a row of the call's own.
-/
import Derived.Test.YtbnhaoimdponkaaLRows
import Derived.Deep.RegionWith
namespace Go.Proofs.Ytbnhaoimdponkaa
open Go.RowKit

theorem Blok.cellsAt {t : TypeId} {g : Nat} : ∀ (Y X A C : List Value) (V : World), Blok V g t (A ++ X ++ C).toArray → X.length = Y.length → Blok (V.setCells g A.length Y) g t (A ++ Y ++ C).toArray
  | [], [], A, C, V, h, _ => h
  | [], _ :: _, _, _, _, _, h => by simp at h
  | _ :: _, [], _, _, _, _, h => by simp at h
  | y :: Y, x :: X, A, C, V, h, hl => by
    have h1 := h.set A.length y
    have e : (A ++ (x :: X) ++ C).toArray.setIfInBounds A.length y = ((A ++ [y]) ++ X ++ C).toArray := by simp
    rw [e] at h1
    have h2 := Blok.cellsAt Y X (A ++ [y]) C _ h1 (by simpa using hl)
    rw [List.length_append] at h2
    have e2 : A ++ [y] ++ Y ++ C = A ++ (y :: Y) ++ C := by simp
    rw [e2] at h2
    exact h2
theorem grown_cells {g : Nat} : ∀ (Y : List Value) (o : Nat) (V : World), V.grownBy (V.setCells g o Y) (some g)
  | [], _, V => World.grownBy.refl V _
  | y :: Y, o, V => (grown_set V g o y).trans (grown_cells Y (o + 1) _)

theorem clear_one {V : World} {g o c : Nat} (ty : TypeId) (hc : ∀ j, j < 5 → (V.cell? ⟨g, o + j, none⟩).isSome = true) (hf : ∀ j, j < 5 → V.frozen? ⟨g, o + j, none⟩ = false) :
    (Builtin.clear_ #[22] ty #[.slice (some ⟨g, o, none⟩) 1 c]).run Try.prog V = .ok (.tuple #[]) (V.setCells g o [.int .i64 0, .int .i64 0, .int .i64 0, .int .i64 0, .int .i64 0]) := by
  have hzc : (Builtin.zeroCells (Value.agg #[.int .i64 0, .int .i64 0, .int .i64 0, .int .i64 0, .int .i64 0]).cells 1).toList = [.int .i64 0, .int .i64 0, .int .i64 0, .int .i64 0, .int .i64 0] := by simp [Builtin.zeroCells, Value.cells]; rfl
  have hv : ∀ w, (zeroValue 30).run Try.prog w = .ok (.agg #[.int .i64 0, .int .i64 0, .int .i64 0, .int .i64 0, .int .i64 0]) w := Try.zeroValue30
  have hst := run_storeCells_cells (P := Try.prog) g o [.int .i64 0, .int .i64 0, .int .i64 0, .int .i64 0, .int .i64 0] 0 V (by simpa using hc) (by simpa using hf) (by intro v hv'; simp at hv'; rw [hv']; rfl)
  simp only [Nat.add_zero] at hst
  simp [Builtin.clear_, run_underlying Try.underlying22, hv, hzc, hst]

set_option maxRecDepth 100000 in
set_option maxHeartbeats 1000000 in
theorem delete_any (g n c i J B : Nat) (l : List L.Ls) (w : World) (h : w.ownsRow B 30 5 (.slice (some ⟨g, 0, none⟩) n c) n (L.flat l)) (hl : l.length = n) (hi : i < n) (hJ : i + 1 = J) (hn : n ≤ 1000) :
    Calls Try.prog 36 #[.slice (some ⟨g, 0, none⟩) n c, .int .i64 i, .int .i64 J] w fun e w' => e = .returned (.slice (some ⟨g, 0, none⟩) (n - 1) c) ∧ Hid (w'.ownsRow B 30 5 (.slice (some ⟨g, 0, none⟩) (n - 1) c) (n - 1) (L.flat (l.take i ++ l.drop (i + 1)))) ∧ Hid (w.grownBy w' (some g)) := by
  obtain ⟨cur, hB, hgg, hle, hm, hs, ht⟩ : ∃ cur, B ≤ g ∧ w.heap[g]? = some (.cells cur 30 (0, 0)) ∧ n ≤ c ∧ c ≤ maxLen ∧ cur.size = c * 5 ∧ cur.toList.take (n * 5) = L.flat l := by
    rcases h.2 with ⟨h0, _⟩ | ⟨g', cap, cur, he, hB, hg, h1, h2, h3, h4⟩
    · simp at h0
    · simp only [Value.slice.injEq, Option.some.injEq, Addr.mk.injEq, and_true, true_and] at he
      obtain ⟨rfl, rfl⟩ := he
      exact ⟨cur, hB, hg, h1, h2, h3, h4⟩
  obtain ⟨rest, hrest⟩ : ∃ rest, cur.toList.drop (n * 5) = rest := ⟨_, rfl⟩
  have hcur : cur = (L.flat l ++ rest).toArray := by rw [← ht, ← hrest, List.take_append_drop]
  have hrl : rest.length = c * 5 - n * 5 := by rw [← hrest]; simp [hs]
  obtain ⟨m, hm'⟩ : ∃ m, n = i + 1 + m := ⟨n - (i + 1), by omega⟩
  -- the row in its parts
  obtain ⟨x, hx⟩ : ∃ x, l[i]? = some x := ⟨_, List.getElem?_eq_getElem (by omega)⟩
  have hparts : l = l.take i ++ ([x] ++ l.drop (i + 1)) := by
    obtain ⟨h1, h2⟩ := List.getElem?_eq_some_iff.1 hx
    rw [← h2, List.singleton_append, ← List.drop_eq_getElem_cons h1, List.take_append_drop]
  obtain ⟨P, hP⟩ : ∃ P, l.take i = P := ⟨_, rfl⟩
  obtain ⟨Q, hQ⟩ : ∃ Q, l.drop (i + 1) = Q := ⟨_, rfl⟩
  rw [hP, hQ] at hparts ⊢
  have hPl : P.length = i := by rw [← hP]; simp; omega
  have hQl : Q.length = m := by rw [← hQ]; simp; omega
  have K0 : Blok w g 30 (L.flat P ++ (L.cells x ++ L.flat Q) ++ rest).toArray := by
    show w.heap[g]? = _
    rw [hgg, hcur, hparts, L.flat_append, L.flat_append]; rfl
  have fP : (L.flat P).length = i * 5 := by rw [L.flat_len5, hPl]
  have fQ : (L.flat Q).length = m * 5 := by rw [L.flat_len5, hQl]
  -- the cells of what stands behind
  obtain ⟨two, tail, htl, htwo⟩ : ∃ two tail : List Value, L.cells x ++ L.flat Q = two ++ tail ∧ two.length = m * 5 ∧ tail.length = 5 := ⟨(L.cells x ++ L.flat Q).take (m * 5), (L.cells x ++ L.flat Q).drop (m * 5), (List.take_append_drop _ _).symm, by rw [List.length_take, List.length_append, fQ, L.cells_len5]; omega, by rw [List.length_drop, List.length_append, fQ, L.cells_len5]; omega⟩
  have K1 : Blok (w.drew.setCells g (i * 5) (L.flat Q)) g 30 (L.flat P ++ L.flat Q ++ (tail ++ rest)).toArray := by
    have := Blok.cellsAt (L.flat Q) two (L.flat P) (tail ++ rest) w.drew (by rw [htl] at K0; simpa using K0.drew) (by rw [htwo.1, fQ])
    rw [fP] at this; exact this
  obtain ⟨W1, hW1⟩ : ∃ W1, w.drew.setCells g (i * 5) (L.flat Q) = W1 := ⟨_, rfl⟩
  have G1 : Hid (w.grownBy W1 (some g)) := Lib.hid (by rw [← hW1]; exact (grown_none (L.below_none (below_drew w))).trans (grown_cells _ _ _))
  rw [hW1] at K1
  have K2 : Blok (W1.setCells g ((i + m) * 5) [.int .i64 0, .int .i64 0, .int .i64 0, .int .i64 0, .int .i64 0]) g 30 (L.flat (P ++ Q) ++ ([.int .i64 0, .int .i64 0, .int .i64 0, .int .i64 0, .int .i64 0] : List Value) ++ rest).toArray := by
    have := Blok.cellsAt [.int .i64 0, .int .i64 0, .int .i64 0, .int .i64 0, .int .i64 0] tail (L.flat P ++ L.flat Q) rest W1 (by simpa using K1) (by rw [htwo.2]; rfl)
    rw [List.length_append, fP, fQ, ← Nat.add_mul] at this
    rw [L.flat_append]; exact this
  obtain ⟨W2, hW2⟩ : ∃ W2, W1.setCells g ((i + m) * 5) [.int .i64 0, .int .i64 0, .int .i64 0, .int .i64 0, .int .i64 0] = W2 := ⟨_, rfl⟩
  have G2 : Hid (w.grownBy W2 (some g)) := Lib.hid (by rw [← hW2]; exact G1.out.trans (grown_cells _ _ _))
  rw [hW2] at K2
  have hsome : ∀ j, j < 5 → (W1.cell? ⟨g, (i + m) * 5 + j, none⟩).isSome = true := fun j hj => by
    rw [K1.cell]
    rw [Array.getElem?_eq_getElem (by simp [fP, fQ, htwo.2]; omega)]; rfl
  have hcl := fun ty => clear_one (V := W1) (g := g) (o := (i + m) * 5) (c := c - (i + m)) ty hsome (fun j _ => K1.frozen _)
  rw [hW2] at hcl
  have HK2 := Lib.hid K2
  have hspare : Hid (∀ j, j < (L.flat Q).length → (w.drew.cell? ⟨g, 0 + i * 5 + j, none⟩).isSome = true ∧ w.drew.frozen? ⟨g, 0 + i * 5 + j, none⟩ = false) := Lib.hid (fun j hj => by
    rw [Nat.zero_add]
    refine ⟨?_, K0.drew.frozen _⟩
    rw [K0.drew.cell, Array.getElem?_eq_getElem (by rw [fQ] at hj; simp [fP, fQ, L.cells_len5]; omega)]; rfl)
  have hrd : ∀ j u, (L.flat Q)[j]? = some u → w.drew.cell? ⟨g, (i + 1) * 5 + j, none⟩ = some u := fun j u hu => by
    have h1 := (List.getElem?_eq_some_iff.1 hu).1
    rw [K0.drew.cell, List.getElem?_toArray, List.append_assoc, List.getElem?_append_right (by rw [fP]; omega), fP, List.append_assoc, List.getElem?_append_right (by rw [L.cells_len5]; omega), List.getElem?_append_left (by rw [L.cells_len5]; omega)]
    rw [L.cells_len5]
    rw [← hu]; congr 1; omega
  have HFIN : Hid (W2.ownsRow B 30 5 (.slice (some ⟨g, 0, none⟩) (n - 1) c) (n - 1) (L.flat (P ++ Q))) := Lib.hid (by
    have hln : (L.flat (P ++ Q)).length = (n - 1) * 5 := by rw [L.flat_len5, List.length_append, hPl, hQl]; omega
    refine ⟨hln, .inr ⟨g, c, _, rfl, hB, HK2.out, by omega, hm, by simp only [List.size_toArray, List.length_append, hln, hrl, List.length_cons, List.length_nil]; omega, ?_⟩⟩
    show List.take _ (L.flat (P ++ Q) ++ ([.int .i64 0, .int .i64 0, .int .i64 0, .int .i64 0, .int .i64 0] : List Value) ++ rest) = _
    rw [List.append_assoc, List.take_append_of_le_length (by rw [hln]; exact Nat.le_refl _), List.take_of_length_le (by rw [hln]; exact Nat.le_refl _)])
  have HOQ := Lib.hid (L.flat_one Q)
  have HfQ := Lib.hid fQ
  have hic : i ≤ c := by omega
  have hjc : J ≤ c := by omega
  have hjn : J ≤ n := by omega
  have hij : i ≤ J := by omega
  have hin : i ≤ n := by omega
  have hji : J - i = 1 := by omega
  have HRD := Lib.hid hrd
  have HM := Lib.hid hm'
  have eW1 : Hid (W1 = w.drew.setCells g (0 + i * 5) (L.flat Q)) := Lib.hid (by rw [Nat.zero_add]; exact hW1.symm)
  clear h hx hparts hP hQ hPl hQl K0 K1 K2 fP fQ htl htwo hW1 hW2 hsome hrd hgg hs ht hrest hcur hrl
  have hmc : i + m ≤ c := by omega
  obtain ⟨q, hq⟩ : ∃ q, n - 1 = q := ⟨_, rfl⟩
  have hqm : q = i + m := by omega
  have hqn : (q : Int) + 1 = (n : Int) := by omega
  rw [hq] at HFIN ⊢
  rw [← hqm] at hcl hmc
  have ne1 : ((i : Int) == (J : Int)) = false := by simp; omega
  have i0 : (0 : Int) ≤ (i : Int) := by omega
  have i1 : (i : Int) ≤ (J : Int) := by omega
  have j0 : (0 : Int) ≤ (J : Int) := by omega
  have i2 : (J : Int) ≤ (n : Int) := by omega
  have i3 : (i : Int) ≤ (c : Int) := by omega
  have i4 : (n : Int) ≤ (c : Int) := by omega
  have HQM := Lib.hid hqm
  go_enter Try.func36, Try.ntmps36
  obtain ⟨A, hA, hsrc⟩ : ∃ A : Addr, (if c = J then some (⟨g, 0, none⟩ : Addr) else some ⟨g, J * 5, none⟩) = some A ∧ Hid (∀ t u, (L.flat Q)[t]? = some u → w.drew.cell? (A.add t) = some u) := by
    by_cases hci : c = J
    · refine ⟨⟨g, 0, none⟩, by rw [if_pos hci], Lib.hid fun t u hu => ?_⟩
      have := (List.getElem?_eq_some_iff.1 hu).1
      rw [HfQ.out] at this
      omega
    · refine ⟨⟨g, J * 5, none⟩, by rw [if_neg hci], Lib.hid fun t u hu => ?_⟩
      rw [WideShapes.add_plain]; exact (by rw [← hJ]; exact HRD.out t u hu)
  have hnm : n - J = m := by omega
  have him : i + m = q := by omega
  have hq1 : n - q = 1 := by omega
  clear hm' hqm hq hJ
  go_wp2_with fail
  go_region_law (refine step_append_room rfl (.tmp 22) (.tmp 25) 22 rfl 30 (lease_parts.choose) 5 Try.underlying22 lease_parts.choose_spec.1 lease_parts.choose_spec.2.2.1 g 0 i c (by simp [Act.eval, Act.put]) A m (c - J) (L.flat Q) (by simp [Act.eval, Act.put]) HfQ.out hsrc.out HOQ.out (by omega) hspare.out ?_; rw [← eW1.out])
  have hqn2 : q ≤ n := by omega
  have hcq : ¬ c = q := by omega
  have hqn3 : (q : Int) ≤ (n : Int) := by omega
  go_wp2
  go_ret
  exact ⟨rfl, HFIN, G2⟩
end Go.Proofs.Ytbnhaoimdponkaa
