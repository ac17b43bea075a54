/-
  What the document's ways come to.
-/
import Derived.Test.YtejckbnapcdhpaaORef2
import Derived.Test.YtejckbnapcdhpaaODo
import Derived.Test.YtejckbnapcdhpaaOLose
namespace Go.Proofs.Ytejckbnapcdhpaa
open Go.RowKit

namespace O
theorem fits_zero (f n out : Int) : fits ⟨f, n, 0⟩ out = below ⟨f, n, 0⟩ out := by
  rw [Bool.eq_iff_iff, fits_iff, below_iff]
  show (0 ≤ f ∧ 1 ≤ n ∧ n ≤ out - f ∧ (0 : Int) ≤ 0 ∧ (0 : Int) < 2) ↔ (0 ≤ f ∧ 1 ≤ n ∧ n ≤ out - f)
  omega
theorem fits_n {p : Pl} {n out : Int} (h : 0 ≤ p.s ∧ p.s < 2) : fits { p with n := n } out = below { p with n := n } out := by
  rw [Bool.eq_iff_iff, fits_iff, below_iff]; constructor <;> intro h2
  · exact ⟨h2.1, h2.2.1, h2.2.2.1⟩
  · exact ⟨h2.1, h2.2.1, h2.2.2, h.1, h.2⟩
theorem oth_eq {l : List Pl} {out : Int} {p q : Pl} {i : Nat} {k : Int} (hm : May l out) (hp : below p out = true) (hq : l[i]? = some q) : oth l k p i = (decide ((i : Int) ≠ k) && hit p q) := by
  unfold oth
  rw [getD_some hq, meet_hit (fits_below (hm.2.2.2.1 q (List.mem_of_getElem? hq))) hp hm.2.1, hit_comm]
theorem others_add {l : List Pl} {out : Int} {p : Pl} (hm : May l out) (hp : below p out = true) : others l (-1) p = l.any (fun q => hit p q) := by
  rw [Bool.eq_iff_iff]
  unfold others
  rw [List.any_eq_true, List.any_eq_true]
  constructor
  · rintro ⟨i, hi, h⟩
    have hi' := List.mem_range.1 hi
    rw [oth_eq hm hp (List.getElem?_eq_getElem hi')] at h
    exact ⟨l[i], List.getElem_mem hi', by simp only [Bool.and_eq_true] at h; exact h.2⟩
  · rintro ⟨q, hq, h⟩
    obtain ⟨i, hi, rfl⟩ := List.mem_iff_getElem.1 hq
    refine ⟨i, List.mem_range.2 hi, ?_⟩
    rw [oth_eq hm hp (List.getElem?_eq_getElem hi), h, decide_eq_true (by omega)]; rfl
theorem others_size {l : List Pl} {out : Int} {p : Pl} {m : Nat} (hm : May l out) (hp : below p out = true) : others l m p = (l.eraseIdx m).any (fun q => hit p q) := by
  rw [Bool.eq_iff_iff]
  unfold others
  rw [List.any_eq_true, List.any_eq_true]
  constructor
  · rintro ⟨i, hi, h⟩
    have hi' := List.mem_range.1 hi
    rw [oth_eq hm hp (List.getElem?_eq_getElem hi')] at h
    simp only [Bool.and_eq_true, decide_eq_true_eq] at h
    exact ⟨l[i], List.mem_eraseIdx_iff_getElem.2 ⟨i, hi', by omega, rfl⟩, h.2⟩
  · rintro ⟨q, hq, h⟩
    obtain ⟨i, hi, hne, rfl⟩ := List.mem_eraseIdx_iff_getElem.1 hq
    refine ⟨i, List.mem_range.2 hi, ?_⟩
    rw [oth_eq hm hp (List.getElem?_eq_getElem hi), h, decide_eq_true (by omega)]; rfl
theorem may_small {l : List Pl} {out : Int} {x : Pl} (hm : May l out) (hx : x ∈ l) : 0 ≤ x.s ∧ x.s < 2 := by
  have := fits_iff.1 (hm.2.2.2.1 x hx); exact ⟨this.2.2.2.1, this.2.2.2.2⟩
end O
namespace O
theorem flat_set2 {l : List Pl} {m : Nat} {x : Pl} {v : Int} (h : l[m]? = some x) : (flat l).set (m * 3 + 2) (.int .i64 v) = flat (l.set m { x with s := v }) := by
  induction l generalizing m with
  | nil => simp at h
  | cons y l ih =>
    cases m with
    | zero => obtain rfl : y = x := by simpa using h
              rfl
    | succ m =>
      have := ih (m := m) (by simpa using h)
      have e : (m + 1) * 3 + 2 = (m * 3 + 2) + 3 := by omega
      rw [e, List.set_cons_succ, flat_cons, flat_cons]
      simp only [List.set_cons_succ]
      rw [this]
theorem flat_set1 {l : List Pl} {m : Nat} {x : Pl} {v : Int} (h : l[m]? = some x) : (flat l).set (m * 3 + 1) (.int .i64 v) = flat (l.set m { x with n := v }) := by
  induction l generalizing m with
  | nil => simp at h
  | cons y l ih =>
    cases m with
    | zero => obtain rfl : y = x := by simpa using h
              rfl
    | succ m =>
      have := ih (m := m) (by simpa using h)
      have e : (m + 1) * 3 + 1 = (m * 3 + 1) + 3 := by omega
      rw [e, List.set_cons_succ, flat_cons, flat_cons]
      simp only [List.set_cons_succ]
      rw [this]
theorem flat_set0 {l : List Pl} {m : Nat} {x : Pl} {v : Int} (h : l[m]? = some x) : (flat l).set (m * 3) (.int .i64 v) = flat (l.set m { x with f := v }) := by
  induction l generalizing m with
  | nil => simp at h
  | cons y l ih =>
    cases m with
    | zero => obtain rfl : y = x := by simpa using h
              rfl
    | succ m =>
      have := ih (m := m) (by simpa using h)
      have e : (m + 1) * 3 = (m * 3) + 3 := by omega
      rw [e, List.set_cons_succ, flat_cons, flat_cons]
      simp only [List.set_cons_succ]
      rw [this]
end O
namespace O
theorem set3 {w : World} {B g n cap m : Nat} {l : List Pl} {x : Pl} (h : w.ownsRow B 37 3 (.slice (some ⟨g, 0, none⟩) n cap) n (flat l)) (hx : l[m]? = some x) (v : Pl) :
    (((w.setCell ⟨g, m * 3, none⟩ (.int .i64 v.f)).setCell ⟨g, m * 3 + 1, none⟩ (.int .i64 v.n)).setCell ⟨g, m * 3 + 2, none⟩ (.int .i64 v.s)).ownsRow B 37 3 (.slice (some ⟨g, 0, none⟩) n cap) n (flat (l.set m v)) ∧
      w.grownBy (((w.setCell ⟨g, m * 3, none⟩ (.int .i64 v.f)).setCell ⟨g, m * 3 + 1, none⟩ (.int .i64 v.n)).setCell ⟨g, m * 3 + 2, none⟩ (.int .i64 v.s)) (some g) := by
  have hm := (List.getElem?_eq_some_iff.1 hx).1
  have s0 := h.stored (m * 3) (.int .i64 v.f)
  rw [flat_set0 hx] at s0
  have h0 : (l.set m { x with f := v.f })[m]? = some { x with f := v.f } := by simp [hm]
  have s1 := s0.1.stored (m * 3 + 1) (.int .i64 v.n)
  rw [flat_set1 h0, List.set_set] at s1
  have h1 : (l.set m { x with f := v.f, n := v.n })[m]? = some { x with f := v.f, n := v.n } := by simp [hm]
  have s2 := s1.1.stored (m * 3 + 2) (.int .i64 v.s)
  rw [flat_set2 h1, List.set_set] at s2
  exact ⟨s2.1, (s0.2.trans s1.2).trans s2.2⟩
theorem zp_has (y : Int) : has zp y = false := by
  rw [Bool.eq_false_iff]; intro h; have := has_iff.1 h; simp [zp] at this
theorem loses_zp (x : Pl) (bs : List Int) : loses x zp bs = bs.any (has x) := by
  unfold loses
  congr 1
  funext y
  rw [zp_has]; simp
theorem any_take {f : Int → Bool} {l : List Int} {j : Nat} {x : Int} (hx : l[j]? = some x) : (l.take (j + 1)).any f = ((l.take j).any f || f x) := by
  obtain ⟨h0, h1⟩ := List.getElem?_eq_some_iff.1 hx
  rw [List.take_succ_eq_append_getElem h0, List.any_append, h1]; simp
/-- Where the part of a slice of pools from its q-th on lies. -/
def sl3 (a : Option Addr) (q c : Nat) : Option Addr := if c = q then a else a.map (·.add (q * 3))
end O
theorem QIn.drop {w : World} {b off n c : Nat} {l : List O.Pl} (h : QIn w (some ⟨b, off, none⟩) n c l) (q : Nat) (hq : q ≤ n) : QIn w (O.sl3 (some ⟨b, off, none⟩) q c) (n - q) (c - q) (l.drop q) := by
  refine ⟨by have := h.1; simp; omega, ⟨by have := h.2.1; omega, by have := h.2.1; omega⟩, fun ha => ?_, ?_⟩
  · unfold O.sl3 at ha; split at ha <;> simp at ha
  · by_cases hqn : q = n
    · exact .inl (List.drop_eq_nil_of_le (by rw [h.1]; omega))
    · rcases h.2.2.2 with rfl | ⟨b', off', he, hb, hc⟩
      · have := h.1; simp at this; omega
      · cases he
        refine .inr ⟨b, off + q * 3, ?_, hb, fun i x hi => ?_⟩
        · unfold O.sl3
          rw [if_neg (by have := h.2.1; omega)]
          simp [WideShapes.add_plain]
        · rw [List.getElem?_drop] at hi
          have := hc (q + i) x hi
          rw [show off + (q + i) * 3 = off + q * 3 + i * 3 by omega] at this
          exact this
theorem size3 (w : World) : (sizeOf (Try.prog.elem 22)).run Try.prog w = .ok 3 w := rfl
/-- l[q:] of pools. -/
theorem sliceO_l (a : Option Addr) {len cap : Nat} (w : World) {q : Nat} (h2 : q ≤ len) : (Instr.sliceAt 22 (.slice a len cap) (some (.int .i64 (q : Int))) none none).run Try.prog w = .ok (.slice (O.sl3 a q cap) (len - q) (cap - q)) w := by
  rw [run_sliceAt_slice (w := w) (h := Try.underlying22), run_slice_l (w := w) (ht := Try.underlying22) (h0 := by omega) (h1 := by omega), size3]
  simp [Result.andThen, sliced, O.sl3]
end Go.Proofs.Ytejckbnapcdhpaa
