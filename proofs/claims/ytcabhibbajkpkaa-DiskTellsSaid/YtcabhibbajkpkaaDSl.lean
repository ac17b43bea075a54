/-
  Parts of slices of files, and of bytes.
-/
import Derived.Test.YtcabhibbajkpkaaDApp
namespace Go.Proofs.Ytcabhibbajkpkaa
open Go.RowKit

/-- Where a part of a slice of files, or of bytes, from its l-th element on, with room up to m, lies. -/
def sl3 (a : Option Addr) (l m : Nat) : Option Addr := if m = l then a else a.map (·.add (l * 3))
def sl (a : Option Addr) (l m : Nat) : Option Addr := if m = l then a else a.map (·.add l)
theorem sl3_none {a : Option Addr} {l m : Nat} (h : sl3 a l m = none) : a = none := by
  unfold sl3 at h
  split at h
  · exact h
  · simpa using h
theorem sl_none {a : Option Addr} {l m : Nat} (h : sl a l m = none) : a = none := by
  unfold sl at h
  split at h
  · exact h
  · simpa using h
theorem FP.flat_part {xs : List FP} {l h i : Nat} {u : Value} (h1 : l ≤ h) (h2 : h ≤ xs.length) (hu : (FP.flat ((xs.take h).drop l))[i]? = some u) : (FP.flat xs)[l * 3 + i]? = some u := by
  have e : xs = xs.take l ++ ((xs.take h).drop l ++ xs.drop h) := by
    have e1 : xs.take l = (xs.take h).take l := by rw [List.take_take, Nat.min_eq_left h1]
    rw [← List.append_assoc, e1, List.take_append_drop, List.take_append_drop]
  have hl : (FP.flat (xs.take l)).length = l * 3 := by rw [FP.flat_len]; simp; omega
  rw [e, FP.flat_append, List.getElem?_append_right (by rw [hl]; omega), hl, Nat.add_sub_cancel_left, FP.flat_append, List.getElem?_append_left (List.getElem?_eq_some_iff.1 hu).1]
  exact hu
theorem DiskIn.part {w : World} {a : Option Addr} {n c l h m : Nat} {xs : List FP} (hd : DiskIn w a n c xs) (h1 : l ≤ h) (h2 : h ≤ n) (h3 : h ≤ m) (h4 : m ≤ c) : DiskIn w (sl3 a l m) (h - l) (m - l) ((xs.take h).drop l) := by
  have hc := hd.caps
  have hl := hd.1
  refine ⟨by simp; omega, ⟨⟨by simp; omega, by omega⟩, fun x hx => hd.2.1.2.1 x (List.mem_of_mem_take (List.mem_of_mem_drop hx)), ?_⟩, fun hn => ?_⟩
  · by_cases hlh : l = h
    · exact .inl (List.drop_eq_nil_of_le (by simp; omega))
    · rcases hd.2.1.2.2 with rfl | ⟨b, off, rfl, hb, hcell⟩
      · simp at hl; omega
      · refine .inr ⟨b, off + l * 3, ?_, hb, fun i u hu => ?_⟩
        · unfold sl3
          rw [if_neg (by omega)]
          simp [WideShapes.add_plain]
        · rw [Nat.add_assoc]
          exact hcell _ _ (FP.flat_part h1 (by omega) hu)
  · have := hd.2.2 (sl3_none hn); omega
theorem row_sliced {k : IntKind} {w : World} {a : Option Addr} {cap l h m : Nat} {L : List Int} (hr : RowIn k w a cap L) (h1 : l ≤ h) (h2 : h ≤ L.length) (h3 : h ≤ m) (h4 : m ≤ maxLen) : RowIn k w (sl a l m) (m - l) ((L.take h).drop l) := by
  refine ⟨⟨by simp; omega, by omega⟩, fun n hn => hr.2.1 n (List.mem_of_mem_take (List.mem_of_mem_drop hn)), ?_⟩
  by_cases hlh : l = h
  · exact .inl (List.drop_eq_nil_of_le (by simp; omega))
  · obtain ⟨b, off, rfl, hb, _⟩ := row_at hr (i := 0) (by omega)
    refine .inr ⟨b, off + l, ?_, hb, fun i hi => ?_⟩
    · unfold sl
      rw [if_neg (by omega)]
      simp [WideShapes.add_plain]
    · simp at hi
      obtain ⟨b', off', he, _, hc⟩ := row_at hr (i := l + i) (by omega)
      cases he
      rw [show off + l + i = off + (l + i) by omega, hc]
      simp [show l + i < h by omega, show l + i < L.length by omega]
section
variable (a : Option Addr) {len cap : Nat} (w : World)
theorem sizeF : (sizeOf (Try.prog.elem 22)).run Try.prog w = .ok 3 w := rfl
theorem sizeB : (sizeOf (Try.prog.elem 25)).run Try.prog w = .ok 1 w := rfl
/-- l[:h:m] of files. -/
theorem sliceF_hm {h m : Nat} (h2 : h ≤ m) (h3 : m ≤ cap) : (Instr.sliceAt 22 (.slice a len cap) none (some (.int .i64 (h : Int))) (some (.int .i64 (m : Int)))).run Try.prog w = .ok (.slice (sl3 a 0 m) h m) w := by
  rw [run_sliceAt_slice (w := w) (h := Try.underlying22), run_slice_hm (w := w) (ht := Try.underlying22) (h0 := by omega) (h2 := by omega) (h3 := by omega), sizeF]
  simp [Result.andThen, sliced, sl3]
/-- l[:h] of files. -/
theorem sliceF_h {h : Nat} (h2 : h ≤ cap) : (Instr.sliceAt 22 (.slice a len cap) none (some (.int .i64 (h : Int))) none).run Try.prog w = .ok (.slice (sl3 a 0 cap) h cap) w := by
  rw [run_sliceAt_slice (w := w) (h := Try.underlying22), run_slice_h (w := w) (ht := Try.underlying22) (h0 := by omega) (h2 := by omega), sizeF]
  simp [Result.andThen, sliced, sl3]
/-- l[q:] of files. -/
theorem sliceF_l {q : Nat} (h2 : q ≤ len) : (Instr.sliceAt 22 (.slice a len cap) (some (.int .i64 (q : Int))) none none).run Try.prog w = .ok (.slice (sl3 a q cap) (len - q) (cap - q)) w := by
  rw [run_sliceAt_slice (w := w) (h := Try.underlying22), run_slice_l (w := w) (ht := Try.underlying22) (h0 := by omega) (h1 := by omega), sizeF]
  simp [Result.andThen, sliced, sl3]
theorem exec_sliceF_l {a : Option Addr} {len cap : Nat} {o : Oper} {ρ : Operand → Value} {x lo : Operand} {q : Nat} (ho : o.op = .slice 22 x (some lo) none none) (hx : ρ x = .slice a len cap) (hlo : ρ lo = .int .i64 (q : Int)) (h2 : q ≤ len) (w : World) :
    (execOp ρ o).run Try.prog w = .ok (.value (.slice (sl3 a q cap) (len - q) (cap - q))) w := by
  unfold execOp
  simp only [ho, Option.map_some, Option.map_none, hx, hlo, Sem.run_bind, sliceF_l a w h2, Result.andThen, Sem.run_pure]
/-- l[:h:m] of bytes. -/
theorem sliceB_hm {h m : Nat} (h2 : h ≤ m) (h3 : m ≤ cap) : (Instr.sliceAt 25 (.slice a len cap) none (some (.int .i64 (h : Int))) (some (.int .i64 (m : Int)))).run Try.prog w = .ok (.slice (sl a 0 m) h m) w := by
  rw [run_sliceAt_slice (w := w) (h := Try.underlying25), run_slice_hm (w := w) (ht := Try.underlying25) (h0 := by omega) (h2 := by omega) (h3 := by omega), sizeB]
  simp [Result.andThen, sliced, sl]
theorem exec_sliceB_hm {a : Option Addr} {len cap : Nat} {o : Oper} {ρ : Operand → Value} {x hi mx : Operand} {h m : Nat} (ho : o.op = .slice 25 x none (some hi) (some mx)) (hx : ρ x = .slice a len cap) (hhi : ρ hi = .int .i64 (h : Int)) (hmx : ρ mx = .int .i64 (m : Int)) (h2 : h ≤ m) (h3 : m ≤ cap) (w : World) :
    (execOp ρ o).run Try.prog w = .ok (.value (.slice (sl a 0 m) h m)) w := by
  unfold execOp
  simp only [ho, Option.map_some, Option.map_none, hx, hhi, hmx, Sem.run_bind, sliceB_hm a w h2 h3, Result.andThen, Sem.run_pure]
theorem sl_zero (g m : Nat) : sl (some ⟨g, 0, none⟩) 0 m = some ⟨g, 0, none⟩ := by
  unfold sl
  split
  · rfl
  · simp [WideShapes.add_plain]
/-- l[:h] of bytes. -/
theorem sliceB_h {h : Nat} (h2 : h ≤ cap) : (Instr.sliceAt 25 (.slice a len cap) none (some (.int .i64 (h : Int))) none).run Try.prog w = .ok (.slice (sl a 0 cap) h cap) w := by
  rw [run_sliceAt_slice (w := w) (h := Try.underlying25), run_slice_h (w := w) (ht := Try.underlying25) (h0 := by omega) (h2 := by omega), sizeB]
  simp [Result.andThen, sliced, sl]
end
/-- A frame, a slot of it set. -/
theorem put_some (t : Array Value) (df : List _) (d : Nat) (v : Value) : Act.put ⟨t, df⟩ (some d) v = ⟨t.setIfInBounds d v, df⟩ := rfl
theorem put_none (a : Act) (v : Value) : Act.put a none v = a := rfl
/-- append of bytes to a full slice of bytes. -/
theorem appendB_full {w : World} (ty : TypeId) {a : Option Addr} {n : Nat} {L : List Int} (hl : L.length = n) (hr : RowIn .u8 w a n L) (ha : a = none → n = 0) {ad : Option Addr} {m c : Nat} {K : List Int} (hx : RowIn .u8 w ad c K) (hm : K.length = m) (hz : ad = none → m = 0 ∧ c = 0) (h9 : n + m ≤ 100000) :
    ∃ av cv w', (Builtin.append_ #[25, 25] ty #[.slice a n n, .slice ad m c]).run Try.prog w = .ok (.slice av (n + m) cv) w' ∧ RowIn .u8 w' av cv (L ++ K) ∧ (av = none → n + m = 0 ∧ cv = 0) ∧ Below w.heap.size w w' ∧
      ∀ b, b < w.heap.size → (L = [] ∨ ∀ y, a = some y → y.block ≠ b) → (L ++ K = [] ∨ ∀ y, av = some y → y.block ≠ b) := by
  subst hl
  obtain ⟨i0, hi, hz0, hz1, hz2⟩ := info_parts info5
  obtain ⟨v', w', row, h1, h2, h3, h4⟩ := append_run 25 ty 5 i0 _ 1 1 Try.underlying25 hi hz0 hz1 hz2 rfl (by decide) (B := w.heap.size) (v := .slice a L.length L.length) (p := L.length) (cs := L.map (Value.int .u8)) (.inl ⟨a, rfl, hr.rowC rfl (fun h => ⟨ha h, ha h⟩)⟩) (hx.rowC hm hz) (by unfold maxLen; omega) (by omega) (Nat.le_refl _)
  have hb : Below w.heap.size w w' := (Below.refl _ w).grown h3 (Nat.le_refl _) h4
  rcases h2 with ⟨rfl, rfl, hm0⟩ | hw
  · obtain rfl : K = [] := List.eq_nil_of_length_eq_zero (by rw [hm, hm0])
    subst hm0
    exact ⟨a, L.length, w', h1, by simpa using hr, fun h => ⟨by have := ha h; omega, ha h⟩, hb, fun b _ h => by simpa using h⟩
  · have hwf : ∀ n ∈ L ++ K, (Lit.int .u8 n).wf = true := fun n hn => by
      rcases List.mem_append.1 hn with h | h
      · exact hr.2.1 n h
      · exact hx.2.1 n h
    rw [← List.map_append] at hw
    have hrow := own_row hw hwf
    obtain ⟨av, cv, rfl, hr2⟩ := hrow
    refine ⟨av, cv, w', h1, hr2, fun hn => ?_, hb, fun b hlt _ => .inr fun y hy hyb => ?_⟩
    · rcases hw.2 with ⟨he, h0⟩ | ⟨g, cap, cur, he, _⟩
      · simp only [Value.slice.injEq] at he; exact ⟨he.2.1, he.2.2⟩
      · rw [hn] at he; simp at he
    · have := (hw.lt y.block (by rw [hy]; rfl)).1
      omega
end Go.Proofs.Ytcabhibbajkpkaa
