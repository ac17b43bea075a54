/-
  Drawn regions by hand, more: two operations that may come up, one that makes memory, an append. 
-/
import Derived.Test.YtebiogadkamgcaaReg
namespace Go.Proofs.Ytebiogadkamgcaa
open Go.RowKit

/-- Where two operations may come up. -/
theorem wpAnyH_two {P : Program} {md : Region.Mode} {ops : Array Oper} {Q : Exit → Act → World → Prop} {S : World → Prop} {fuel : Nat} {listed : Array Bool} {a : Act} {w : World} {i j : Nat}
    (hr : Region.ready md ops listed = [i, j])
    (hi : wpOp P ops Q i (fun a' w' => S w' ∧ wpAnyH P md ops Q S fuel (listed.setIfInBounds i true) a' w') a w)
    (hj : wpOp P ops Q j (fun a' w' => S w' ∧ wpAnyH P md ops Q S fuel (listed.setIfInBounds j true) a' w') a w) : wpAnyH P md ops Q S (fuel + 1) listed a w := by
  refine wpAnyH_all hr (by simp) fun k hk => ?_
  simp only [List.mem_cons, List.not_mem_nil, or_false] at hk
  rcases hk with rfl | rfl
  · exact hi
  · exact hj
/-- Where one may. -/
theorem wpAnyH_one {P : Program} {md : Region.Mode} {ops : Array Oper} {Q : Exit → Act → World → Prop} {S : World → Prop} {fuel : Nat} {listed : Array Bool} {a : Act} {w : World} {i : Nat}
    (hr : Region.ready md ops listed = [i])
    (hi : wpOp P ops Q i (fun a' w' => S w' ∧ wpAnyH P md ops Q S fuel (listed.setIfInBounds i true) a' w') a w) : wpAnyH P md ops Q S (fuel + 1) listed a w := by
  refine wpAnyH_all hr (by simp) fun k hk => ?_
  obtain rfl : k = i := by simpa using hk
  exact hi
/-- An operation that yields a value, and may turn the world. -/
theorem wpOp_value {P : Program} {ops : Array Oper} {Q : Exit → Act → World → Prop} {i : Nat} {o : Oper} {K : Act → World → Prop} {a : Act} {w w' : World} {v : Value} (ho : ops[i]? = some o) (hw : Region.wanted o (yielded ops a.tmps) = true)
    (h : (execOp a.eval o).run P w = .ok (.value v) w') (hk : K (a.put o.dst v) w') : wpOp P ops Q i K a w := by
  refine wpOp_step ho fun K' hK' => ?_
  rw [if_pos hw]
  unfold Oper.wp
  rw [h]
  exact hK' _ _ hk
/-- An operation that stores, and yields nothing. -/
theorem wpOp_skip {P : Program} {ops : Array Oper} {Q : Exit → Act → World → Prop} {i : Nat} {o : Oper} {K : Act → World → Prop} {a : Act} {w w' : World} (ho : ops[i]? = some o) (hw : Region.wanted o (yielded ops a.tmps) = true)
    (h : (execOp a.eval o).run P w = .ok .skip w') (hk : K (a.put o.dst undef) w') : wpOp P ops Q i K a w := by
  refine wpOp_step ho fun K' hK' => ?_
  rw [if_pos hw]
  unfold Oper.wp
  rw [h]
  exact hK' _ _ hk
/-- An operation that calls a function, by its contract. -/
theorem wpOp_call {P : Program} {ops : Array Oper} {Q : Exit → Act → World → Prop} {i : Nat} {o : Oper} {K : Act → World → Prop} {a : Act} {w : World} {f : FuncId} {args : Array Value} {R : Ending → World → Prop} (ho : ops[i]? = some o) (hw : Region.wanted o (yielded ops a.tmps) = true)
    (h : (execOp a.eval o).run P w = .ok (.enter f args) w) (hc : Calls P f args w R) (hR : ∀ e w', R e w' → ∃ v, e = .returned v ∧ K (a.put o.dst v) w') : wpOp P ops Q i K a w := by
  refine wpOp_step ho fun K' hK' => ?_
  rw [if_pos hw]
  exact wp_call_of h hc fun e w' he => by obtain ⟨v, h1, h2⟩ := hR e w' he; exact ⟨v, h1, hK' _ _ h2⟩
/-- append, to a slice of the call's own, of a slice of integers that is somewhere. -/
theorem wpOp_append {P : Program} {ops : Array Oper} {Q : Exit → Act → World → Prop} {j : Nat} {o : Oper} {K : Act → World → Prop} {a : Act} {w : World} (ho : ops[j]? = some o) (hw : Region.wanted o (yielded ops a.tmps) = true) (s x : Operand) (t : TypeId)
    (hop : o.op = .call { callee := .builtin .append, args := #[s, x], argTypes := #[t, t] })
    (base : Nat) (e : TypeId) (i : TypeInfo) (z : Value) (bytes : Nat) (ht : P.underlying t = some (.slice e)) (hi : P.info? e = some i) (hz : i.zero = some z)
    (hsize : i.size = 1) (hby : i.bytes = bytes) (hzs : z.cells.size = 1)
    (v : Value) (n : Nat) (xs : List Value) (hs : a.eval s = v) (hown : w.ownsRow base e 1 v n xs)
    (k : IntKind) (ad : Addr) (m c : Nat) (L : List Int) (hx : a.eval x = .slice (some ad) m c) (hr : RowIn k w (some ad) c L) (hm : L.length = m)
    (h63 : n + m ≤ maxLen) (hbytes : (n + m) * bytes ≤ 140737488355328) (hbase : base ≤ w.heap.size)
    (h : ∀ v' w', w'.ownsRow base e 1 v' (n + m) (xs ++ L.map (Value.int k)) → w.grownBy w' v.ownBlock → K (a.put o.dst v') w') : wpOp P ops Q j K a w := by
  refine wpOp_step ho fun K' hK' => ?_
  rw [if_pos hw]
  refine wp_append_own w s x t hop base e i z 1 bytes ht hi hz hsize hby hzs (by decide) v n xs hs hown ad m c (L.map (Value.int k)) hx (by simp [hm]) (fun j u hj => ?_) (ints_one k L) h63 hbytes hbase (fun v' w' h1 h2 _ => hK' _ _ (h v' w' h1 h2))
  rcases hr.2.2 with rfl | ⟨b, off, he, _, hc⟩
  · simp at hj
  · cases he
    obtain ⟨hj', hv⟩ := List.getElem?_eq_some_iff.1 hj
    rw [WideShapes.add_plain, hc j (by simpa using hj')]
    rw [← hv]
    simp at hj'
    simp [hj']
/-- A slot set, written out. -/
theorem put_some (t : Array Value) (df : List _) (d : Nat) (v : Value) : Act.put ⟨t, df⟩ (some d) v = ⟨t.setIfInBounds d v, df⟩ := rfl
theorem put_none (a : Act) (v : Value) : Act.put a none v = a := rfl
end Go.Proofs.Ytebiogadkamgcaa
