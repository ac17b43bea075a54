/-
  Parts of slices: where they lie.
-/
import Derived.Test.YtebiogadkamgcaaBlok
namespace Go.Proofs.Ytebiogadkamgcaa
open Go.RowKit
/-- Where a part of a slice, from its l-th element on, with room up to m, lies. -/
def sl (a : Option Addr) (l m : Nat) : Option Addr := if m = l then a else a.map (·.add l)
theorem sl_none {a : Option Addr} {l m : Nat} (h : sl a l m = none) : a = none := by
  unfold sl at h
  split at h
  · exact h
  · simpa using h
theorem row_sliced {k : IntKind} {w : World} {a : Option Addr} {cap l h m : Nat} {L : List Int} (hr : RowIn k w a cap L) (h1 : l ≤ h) (h2 : h ≤ L.length) (h3 : h ≤ m) (h4 : m ≤ maxLen) : RowIn k w (sl a l m) (m - l) ((L.take h).drop l) := by
  refine ⟨⟨by simp; omega, by omega⟩, fun n hn => hr.2.1 n (List.mem_of_mem_take (List.mem_of_mem_drop hn)), ?_⟩
  by_cases hlh : l = h
  · exact .inl (List.drop_eq_nil_of_le (by simp; omega))
  · obtain ⟨b, off, rfl, hb, _⟩ := row_at hr (i := 0) (by omega)
    refine .inr ⟨b, off + l, ?_, hb, fun i hi => ?_⟩
    · unfold sl
      rw [if_neg (by omega)]
      simp [WideShapes.add_plain]
    · simp at hi
      obtain ⟨b', off', he, _, hc⟩ := row_at hr (i := l + i) (by omega)
      cases he
      rw [show off + l + i = off + (l + i) by omega, hc]
      simp [show l + i < h by omega, show l + i < L.length by omega]
/-- The same, of elements of k cells. -/
def slk (k : Nat) (a : Option Addr) (l m : Nat) : Option Addr := if m = l then a else a.map (·.add (l * k))
theorem slk_none {k : Nat} {a : Option Addr} {l m : Nat} (h : slk k a l m = none) : a = none := by
  unfold slk at h
  split at h
  · exact h
  · simpa using h
theorem sl_slk (a : Option Addr) (l m : Nat) : slk 1 a l m = sl a l m := by simp [slk, sl]
theorem RowIn.kept {k : IntKind} {w w' : World} {a : Option Addr} {cap : Nat} {L : List Int} {row : Option Nat} (h : RowIn k w a cap L) (hg : w.grownBy w' row) (hn : L = [] ∨ ∀ x, a = some x → some x.block ≠ row) : RowIn k w' a cap L := by
  refine ⟨h.1, h.2.1, ?_⟩
  rcases h.2.2 with h0 | ⟨b, off, rfl, hlt, hc⟩
  · exact .inl h0
  · rcases hn with h0 | hn
    · exact .inl h0
    · refine .inr ⟨b, off, rfl, Nat.lt_of_lt_of_le hlt hg.size, fun i hi => ?_⟩
      rw [← hc i hi]
      unfold World.cell?
      rw [hg.block b hlt (hn _ rfl)]
theorem grown_set1 (w : World) (g i : Nat) (u : Value) : w.grownBy (w.setCell ⟨g, i, none⟩ u) (some g) :=
  ⟨rfl, rfl, rfl, by simp [World.setCell], fun k _ hr => Below.heap_setCell w ⟨g, i, none⟩ u k (fun e => hr (by rw [e]))⟩
section
variable (a : Option Addr) {len cap k : Nat} {t : TypeId} (ht : Try.prog.underlying t = some (.slice (Try.prog.elem t))) (hk : ∀ w, (sizeOf (Try.prog.elem t)).run Try.prog w = .ok k w) (w : World)
include ht hk
/-- l[:h]. -/
theorem slice_h {h : Nat} (h2 : h ≤ cap) : (Instr.sliceAt t (.slice a len cap) none (some (.int .i64 (h : Int))) none).run Try.prog w = .ok (.slice (slk k a 0 cap) h cap) w := by
  rw [run_sliceAt_slice (w := w) (h := ht), run_slice_h (w := w) (ht := ht) (h0 := by omega) (h2 := by omega), hk]
  simp [Result.andThen, sliced, slk]
/-- l[q:]. -/
theorem slice_l {q : Nat} (h2 : q ≤ len) : (Instr.sliceAt t (.slice a len cap) (some (.int .i64 (q : Int))) none none).run Try.prog w = .ok (.slice (slk k a q cap) (len - q) (cap - q)) w := by
  rw [run_sliceAt_slice (w := w) (h := ht), run_slice_l (w := w) (ht := ht) (h0 := by omega) (h1 := by omega), hk]
  simp [Result.andThen, sliced, slk]
end
end Go.Proofs.Ytebiogadkamgcaa
