/-
  A whole struct that is stored into its box; two boxes.
-/
import Derived.Test.YtebiogadkamgcaaBlok
import Derived.Deep.WholeRow
import Derived.Laws.Rows
import Derived.Laws.Tables
namespace Go.Proofs.Ytebiogadkamgcaa
open Go.RowKit
theorem Blok.put {w : World} {g : Nat} {t : TypeId} {cs : Array Value} (h : Blok w g t cs) (cs' : Array Value) : Blok (w.setRow g cs') g t cs' := setRow_heap w g cs cs' t (0, 0) h
theorem grown_put (w : World) (g : Nat) (cs' : Array Value) : w.grownBy (w.setRow g cs') (some g) := ⟨rfl, rfl, rfl, by simp, fun i hi hr => setRow_other w g i cs' (fun e => hr (by rw [e]))⟩
theorem below_put {H : Nat} {w w' : World} {g : Nat} (h : Below H w w') (hw : H ≤ w'.heap.size) (hg : H ≤ g) (cs' : Array Value) : Below H w (w'.setRow g cs') := h.grown (grown_put w' g cs') hw (fun q hq => by cases hq; exact hg)
theorem store_put {P : Program} {w : World} {g : Nat} {t : TypeId} {cs : Array Value} (h : Blok w g t cs) (cs' : Array Value) (hi : (P.info? t).map (·.size) = some cs'.size) (ho : cs.size = cs'.size) (h1 : cs'.all (·.oneCell') = true) :
    (Instr.storeAt t (.pointer (some ⟨g, 0, none⟩)) (.agg cs')).run P w = .ok () (w.setRow g cs') := by
  simp only [Instr.storeAt, Instr.sureAddr, Sem.run_bind, Sem.run_pure, Result.andThen]
  exact run_storeVar_row w g t t cs cs' h hi ho h1
theorem cells_put {P : Program} {w : World} {g : Nat} {t : TypeId} {cs : Array Value} (h : Blok w g t cs) (cs' : Array Value) (ho : cs.size = cs'.size) (h1 : cs'.all (·.oneCell') = true) :
    (storeCells ⟨g, 0, none⟩ cs'.toList 0).run P w = .ok () (w.setRow g cs') := by
  have := run_storeCells_from (P := P) g t cs'.toList 0 cs w h (by simp; omega) (fun v hv => (Array.all_eq_true_iff_forall_mem.1 h1) v (by simpa using hv))
  simpa using this
/-- A whole struct into its box, out of its box, in a plain region. -/
theorem wpList_put {P : Program} {ops : Array Oper} {rest : List Oper} {o : Oper} {a : Act} {w w' : World} {Q : Exit → Act → World → Prop} {g : Nat} {t ty : TypeId} {x y : Operand} {old cells : Array Value} (hk : Blok w g t old) (hw : w.setRow g cells = w')
    (hgd : o.guard = none) (ho : o.op = .store ty x y) (hx : a.eval x = .pointer (some ⟨g, 0, none⟩)) (hy : a.eval y = .agg cells) (hi : (P.info? ty).map (·.size) = some cells.size) (hold : old.size = cells.size) (h1 : cells.all (·.oneCell') = true)
    (h : wpList P ops Q rest (a.put o.dst undef) w') : wpList P ops Q (o :: rest) a w := by
  subst hw; exact wpList_store_row hgd ty x y ho g cells hx hy t old hk hi hold h1 h
theorem Zw {P : Program} {ops : Array Oper} {rest : List Oper} {o : Oper} {a : Act} {w w' : World} {Q : Exit → Act → World → Prop} {g : Nat} {t ty : TypeId} {old cells : Array Value} {x y : Operand} (hk : Blok w g t old) (hw : w.setRow g cells = w')
    (h : wpList P ops Q rest (a.put o.dst undef) w') (hgd : o.guard = none := by exact rfl) (ho : o.op = .store ty x y := by exact rfl) (hx : a.eval x = .pointer (some ⟨g, 0, none⟩) := by kernel_rfl) (hy : a.eval y = .agg cells := by kernel_rfl) (hi : (P.info? ty).map (·.size) = some cells.size := by kernel_rfl) (hold : old.size = cells.size := by exact rfl) (h1 : cells.all (·.oneCell') = true := by kernel_rfl) : wpList P ops Q (o :: rest) a w := wpList_put hk hw hgd ho hx hy hi hold h1 h
theorem wpList_ld {P : Program} {ops : Array Oper} {rest : List Oper} {o : Oper} {a : Act} {w : World} {Q : Exit → Act → World → Prop} {g : Nat} {t ty : TypeId} {x : Operand} {cs : Array Value} (hk : Blok w g t cs)
    (hgd : o.guard = none) (ho : o.op = .load ty x) (hx : a.eval x = .pointer (some ⟨g, 0, none⟩)) {d : TypeDesc} (hu : P.underlying ty = some d) (hd : (match d with | .struct _ | .array _ _ => true | _ => false) = true) (hi : (P.info? ty).map (·.size) = some cs.size)
    (h : wpList P ops Q rest (a.put o.dst (.agg cs)) w) : wpList P ops Q (o :: rest) a w :=
  wpList_load_row hgd ty x ho g hx t cs (0, 0) d hk hu hd hi h
/-- Two new boxes, that are stored into. -/
theorem box2 {w w1 w2 w3 w4 : World} {t1 t2 : TypeId} {z1 z2 c1 c2 : Array Value} (h1 : w.alloc (.cells z1 t1) = w1) (h2 : w1.alloc (.cells z2 t2) = w2) (h3 : w2.setRow w.heap.size c1 = w3) (h4 : w3.setRow w1.heap.size c2 = w4) :
    Blok w2 w.heap.size t1 z1 ∧ Blok w3 w1.heap.size t2 z2 ∧ Blok w4 w.heap.size t1 c1 ∧ Blok w4 w1.heap.size t2 c2 ∧ Below w.heap.size w w4 ∧ w1.heap.size = w.heap.size + 1 := by
  have e1 : w1.heap.size = w.heap.size + 1 := by rw [← h1]; simp
  have k1 : Blok w2 w.heap.size t1 z1 := by rw [← h2, ← h1]; exact (Blok.new w t1 z1).alloc _
  have k2 : Blok w2 w1.heap.size t2 z2 := by rw [← h2]; exact Blok.new w1 t2 z2
  have g1 : w2.grownBy w3 (some w.heap.size) := by rw [← h3]; exact grown_put _ _ _
  have g2 : w3.grownBy w4 (some w1.heap.size) := by rw [← h4]; exact grown_put _ _ _
  have k3 : Blok w3 w.heap.size t1 c1 := by rw [← h3]; exact k1.put _
  have k4 : Blok w3 w1.heap.size t2 z2 := k2.grown g1 (by simp; omega)
  have hb2 : Below w.heap.size w w2 := by rw [← h2, ← h1]; exact ((Below.refl _ w).alloc (Nat.le_refl _) _).alloc (by simp) _
  refine ⟨k1, k4, k3.grown g2 (by simp; omega), by rw [← h4]; exact k4.put _, ?_, e1⟩
  exact (hb2.grown g1 hb2.size (fun q hq => by cases hq; exact Nat.le_refl _)).grown g2 (Nat.le_trans hb2.size g1.size) (fun q hq => by cases hq; omega)
end Go.Proofs.Ytebiogadkamgcaa
