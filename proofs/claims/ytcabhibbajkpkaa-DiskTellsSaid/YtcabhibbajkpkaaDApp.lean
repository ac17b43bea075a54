/-
  append, to a slice that is full or the call's own, of whatever slice: as a run, at a plain region, at an operation of a region that draws.
-/
import Derived.Test.YtcabhibbajkpkaaDOwn
import Derived.ArgAppend
namespace Go.Proofs.Ytcabhibbajkpkaa
open Go.RowKit

/-- A slice that reads as cells cs, of elements of so many cells each. -/
def RowC (w : World) (size : Nat) (a : Option Addr) (n c : Nat) (cs : List Value) : Prop :=
  cs.length = n * size ∧ (n ≤ c ∧ c ≤ maxLen) ∧ (a = none → n = 0 ∧ c = 0) ∧ (∀ u ∈ cs, u.oneCell' = true) ∧ ∀ x, a = some x → ∀ i u, cs[i]? = some u → w.cell? (x.add i) = some u
/-- Full, or the call's own. -/
def GrowIs (B : Nat) (w : World) (e : TypeId) (size : Nat) (v : Value) (p : Nat) (cs : List Value) : Prop :=
  (∃ a, v = .slice a p p ∧ RowC w size a p p cs) ∨ w.ownsRow B e size v p cs
theorem DiskIn.rowC {w : World} {a : Option Addr} {n c : Nat} {xs : List FP} (h : DiskIn w a n c xs) : RowC w 3 a n c (FP.flat xs) := by
  refine ⟨by rw [FP.flat_len, h.1], h.caps, h.2.2, FP.flat_one xs, fun x hx i u hu => ?_⟩
  rcases h.2.1.2.2 with rfl | ⟨b, off, he, _, hc⟩
  · simp [FP.flat] at hu
  · rw [he] at hx; cases hx
    rw [WideShapes.add_plain]; exact hc i u hu
theorem RowIn.rowC {w : World} {a : Option Addr} {n c : Nat} {L : List Int} (h : RowIn .u8 w a c L) (hn : L.length = n) (hz : a = none → n = 0 ∧ c = 0) : RowC w 1 a n c (L.map (Value.int .u8)) := by
  refine ⟨by simp [hn], by have := h.1; omega, hz, ints_one _ L, fun x hx i u hu => ?_⟩
  rcases h.2.2 with rfl | ⟨b, off, he, _, hc⟩
  · simp at hu
  · rw [he] at hx; cases hx
    obtain ⟨h1, h2⟩ := List.getElem?_eq_some_iff.1 hu
    simp at h1
    rw [WideShapes.add_plain, hc i h1, ← h2]
    simp [h1]

theorem run_append_zero {w : World} (t ty e : TypeId) (i : TypeInfo) (ht : Try.prog.underlying t = some (.slice e)) (hi : Try.prog.info? e = some i) (a : Option Addr) (p cp : Nat) (hp : p ≤ cp) (ad : Option Addr) (c : Nat) :
    (Builtin.append_ #[t, t] ty #[.slice a p cp, .slice ad 0 c]).run Try.prog w = .ok (.slice a p cp) w := by
  have hl : ∀ x, (loadCells x 0).run Try.prog w = .ok #[] w := fun x => by simpa using run_loadCells_list (P := Try.prog) w x [] (by simp)
  cases a <;> cases ad <;> simp [Builtin.append_, run_underlying ht, sizeOf, typeInfo, hi, Builtin.lenOf, Builtin.firstCells, hp, storeCells, hl, Result.andThen]

theorem append_run {w : World} {B : Nat} (t ty e : TypeId) (i : TypeInfo) (z : Value) (size bytes : Nat) (ht : Try.prog.underlying t = some (.slice e)) (hi : Try.prog.info? e = some i) (hz : i.zero = some z)
    (hsize : i.size = size) (hby : i.bytes = bytes) (hzs : z.cells.size = size) (hsz : 0 < size) {v : Value} {p : Nat} {cs : List Value} (hg : GrowIs B w e size v p cs)
    {ad : Option Addr} {m c : Nat} {ds : List Value} (hx : RowC w size ad m c ds) (h63 : p + m ≤ maxLen) (hbytes : (p + m) * bytes ≤ 140737488355328) (hB : B ≤ w.heap.size) :
    ∃ v' w' row, (Builtin.append_ #[t, t] ty #[v, .slice ad m c]).run Try.prog w = .ok v' w' ∧ ((v' = v ∧ w' = w ∧ m = 0) ∨ w'.ownsRow B e size v' (p + m) (cs ++ ds)) ∧ w.grownBy w' row ∧ ∀ k, row = some k → B ≤ k := by
  have same : w.grownBy w none := ⟨rfl, rfl, rfl, Nat.le_refl _, fun _ _ _ => rfl⟩
  by_cases hm : m = 0
  · subst hm
    rcases hg with ⟨a, rfl, hr⟩ | ho
    · exact ⟨_, _, none, run_append_zero t ty e i ht hi a p p (Nat.le_refl _) ad c, .inl ⟨rfl, rfl, rfl⟩, same, fun _ h => by cases h⟩
    · rcases ho.2 with ⟨rfl, rfl⟩ | ⟨g, cap, cur, rfl, _, _, hc, _⟩
      · exact ⟨_, _, none, run_append_zero t ty e i ht hi none 0 0 (Nat.le_refl _) ad c, .inl ⟨rfl, rfl, rfl⟩, same, fun _ h => by cases h⟩
      · exact ⟨_, _, none, run_append_zero t ty e i ht hi _ p cap hc ad c, .inl ⟨rfl, rfl, rfl⟩, same, fun _ h => by cases h⟩
  · cases ad with
    | none => exact absurd (hx.2.2.1 rfl).1 hm
    | some x =>
      have hnew : ∀ j u, ds[j]? = some u → w.cell? (x.add j) = some u := hx.2.2.2.2 x rfl
      rcases hg with ⟨a, rfl, hr⟩ | ho
      · cases a with
        | some b =>
          obtain ⟨v', w', h1, h2, h3⟩ := run_append_arg_grows (P := Try.prog) w t ty e i z size bytes ht hi hz hsize hby hzs hsz b p p cs hr.1 (hr.2.2.2.2 b rfl) x m c ds hx.1 hnew (by omega) h63 hbytes
          exact ⟨v', w', none, h1, .inr (ownsRow_base h2 hB), h3, fun _ h => by cases h⟩
        | none =>
          obtain ⟨rfl, _⟩ := hr.2.2.1 rfl
          obtain rfl : cs = [] := List.eq_nil_of_length_eq_zero (by have := hr.1; omega)
          obtain ⟨v', w', h1, h2, h3, _⟩ := run_append_own (P := Try.prog) w B t ty e i z size bytes ht hi hz hsize hby hzs hsz (.slice none 0 0) 0 [] (World.ownsRow_nil w _ e size) x m c ds hx.1 hnew hx.2.2.2.1 h63 hbytes hB
          exact ⟨v', w', none, h1, .inr h2, h3, fun _ h => by cases h⟩
      · obtain ⟨v', w', h1, h2, h3, _⟩ := run_append_own (P := Try.prog) w B t ty e i z size bytes ht hi hz hsize hby hzs hsz v p cs ho x m c ds hx.1 hnew hx.2.2.2.1 h63 hbytes hB
        exact ⟨v', w', v.ownBlock, h1, .inr h2, h3, fun k hk => (ho.lt k hk).1⟩

/-- A slice of files, full or the call's own. -/
def GrowF (w0 w : World) (v : Value) (xs : List FP) : Prop :=
  (∃ a, v = .slice a xs.length xs.length ∧ DiskIn w a xs.length xs.length xs) ∨ w.ownsRow w0.heap.size 43 3 v xs.length (FP.flat xs)
theorem GrowF.nil (w0 w : World) : GrowF w0 w (.slice none 0 0) [] := .inr (World.ownsRow_nil _ _ _ _)
theorem GrowF.disk {w0 w : World} {v : Value} {xs : List FP} (h : GrowF w0 w v xs) (ho : ∀ x ∈ xs, FP.ok w x) : ∃ a c, v = .slice a xs.length c ∧ DiskIn w a xs.length c xs := by
  rcases h with ⟨a, rfl, hd⟩ | hw
  · exact ⟨a, _, rfl, hd⟩
  · obtain ⟨a, c, h1, h2, h3⟩ := own_files hw rfl ho
    exact ⟨a, c, h1, rfl, h2, h3⟩
theorem GrowF.below {w0 w w' : World} {v : Value} {xs : List FP} (h : GrowF w0 w v xs) (hb : Below w.heap.size w w') : GrowF w0 w' v xs := by
  rcases h with ⟨a, rfl, hd⟩ | hw
  · exact .inl ⟨a, rfl, hd.below hb⟩
  · exact .inr (ownsRow_below hw hb)
/-- append of files. -/
theorem appendF_run {w0 w : World} (ty : TypeId) {v : Value} {xs : List FP} (hg : GrowF w0 w v xs) (hb : Below w0.heap.size w0 w) {ad : Option Addr} {m c : Nat} {ys : List FP} (hx : DiskIn w ad m c ys) (h9 : xs.length + m ≤ 10000) :
    ∃ v' w', (Builtin.append_ #[22, 22] ty #[v, .slice ad m c]).run Try.prog w = .ok v' w' ∧ GrowF w0 w' v' (xs ++ ys) ∧ Below w0.heap.size w0 w' ∧ ∃ row, w.grownBy w' row ∧ (∀ k, row = some k → w0.heap.size ≤ k) := by
  obtain ⟨i0, hi, hz0, hz1, hz2⟩ := info_parts info_file
  have hG : GrowIs w0.heap.size w 43 3 v xs.length (FP.flat xs) := by
    rcases hg with ⟨a, rfl, hd⟩ | hw
    · exact .inl ⟨a, rfl, hd.rowC⟩
    · exact .inr hw
  obtain ⟨v', w', row, h1, h2, h3, h4⟩ := append_run 22 ty 43 i0 _ 3 40 Try.underlying22 hi hz0 hz1 hz2 rfl (by decide) hG hx.rowC (by unfold maxLen; omega) (by omega) hb.size
  refine ⟨v', w', h1, ?_, hb.grown h3 hb.size h4, row, h3, h4⟩
  rcases h2 with ⟨rfl, rfl, hm⟩ | hw
  · obtain rfl : ys = [] := List.eq_nil_of_length_eq_zero (by rw [hx.1, hm])
    rw [List.append_nil]; exact hg
  · refine .inr ?_
    rw [List.length_append, hx.1, FP.flat_append]; exact hw
/-- Bytes, full or the call's own. -/
def GrowB (w0 w : World) (v : Value) (L : List Int) : Prop :=
  (∃ a, v = .slice a L.length L.length ∧ RowIn .u8 w a L.length L ∧ (a = none → L.length = 0)) ∨ w.ownsRow w0.heap.size 5 1 v L.length (L.map (Value.int .u8))
theorem GrowB.nil (w0 w : World) : GrowB w0 w (.slice none 0 0) [] := .inr (World.ownsRow_nil _ _ _ _)
theorem GrowB.row {w0 w : World} {v : Value} {L : List Int} (h : GrowB w0 w v L) (hw : ∀ n ∈ L, (Lit.int .u8 n).wf = true) : ∃ a c, v = .slice a L.length c ∧ RowIn .u8 w a c L ∧ (a = none → L.length = 0 ∧ c = 0) := by
  rcases h with ⟨a, rfl, hd, hz⟩ | ho
  · exact ⟨a, _, rfl, hd, fun h => ⟨hz h, hz h⟩⟩
  · obtain ⟨a, c, rfl, hr⟩ := own_row ho hw
    refine ⟨a, c, rfl, hr, fun ha => ?_⟩
    rcases ho.2 with ⟨he, h0⟩ | ⟨g, cap, cur, he, _⟩
    · simp only [Value.slice.injEq] at he; exact ⟨he.2.1, he.2.2⟩
    · rw [ha] at he; simp at he
theorem GrowB.below {w0 w w' : World} {v : Value} {L : List Int} (h : GrowB w0 w v L) (hb : Below w.heap.size w w') : GrowB w0 w' v L := by
  rcases h with ⟨a, rfl, hd, hz⟩ | hw
  · exact .inl ⟨a, rfl, hd.below hb, hz⟩
  · exact .inr (ownsRow_below hw hb)
theorem appendB_run {w0 w : World} (ty : TypeId) {v : Value} {L : List Int} (hg : GrowB w0 w v L) (hb : Below w0.heap.size w0 w) {ad : Option Addr} {m c : Nat} {K : List Int} (hx : RowIn .u8 w ad c K) (hm : K.length = m) (hz : ad = none → m = 0 ∧ c = 0) (h9 : L.length + m ≤ 100000) :
    ∃ v' w', (Builtin.append_ #[25, 25] ty #[v, .slice ad m c]).run Try.prog w = .ok v' w' ∧ GrowB w0 w' v' (L ++ K) ∧ Below w0.heap.size w0 w' ∧ ∃ row, w.grownBy w' row ∧ (∀ k, row = some k → w0.heap.size ≤ k) := by
  obtain ⟨i0, hi, hz0, hz1, hz2⟩ := info_parts info5
  have hG : GrowIs w0.heap.size w 5 1 v L.length (L.map (Value.int .u8)) := by
    rcases hg with ⟨a, rfl, hd, hn⟩ | hw
    · exact .inl ⟨a, rfl, hd.rowC rfl (fun h => ⟨hn h, hn h⟩)⟩
    · exact .inr hw
  obtain ⟨v', w', row, h1, h2, h3, h4⟩ := append_run 25 ty 5 i0 _ 1 1 Try.underlying25 hi hz0 hz1 hz2 rfl (by decide) hG (hx.rowC hm hz) (by unfold maxLen; omega) (by omega) hb.size
  refine ⟨v', w', h1, ?_, hb.grown h3 hb.size h4, row, h3, h4⟩
  rcases h2 with ⟨rfl, rfl, hm0⟩ | hw
  · obtain rfl : K = [] := List.eq_nil_of_length_eq_zero (by rw [hm, hm0])
    rw [List.append_nil]; exact hg
  · refine .inr ?_
    rw [List.length_append, hm, List.map_append]; exact hw

/-- An append, at a plain region's list, by its run. -/
theorem wpList_append_run {w w' : World} {ops : Array Oper} {rest : List Oper} {o : Oper} {a : Act} {Q : Exit → Act → World → Prop} (hgd : o.guard = none) {s x : Operand} {t : TypeId} {v xv v' : Value}
    (ho : o.op = .call { callee := .builtin .append, args := #[s, x], argTypes := #[t, t] }) (hs : a.eval s = v) (hx : a.eval x = xv)
    (hrun : (Builtin.append_ #[t, t] o.type #[v, xv]).run Try.prog w = .ok v' w') (h : wpList Try.prog ops Q rest (a.put o.dst v') w') : wpList Try.prog ops Q (o :: rest) a w := by
  refine wpList_plain hgd fun K hK' => ?_
  unfold Oper.wp
  simp [execOp, ho, resolve, invoke, builtin, hs, hx, hrun, Result.andThen]
  exact hK' _ _ h
/-- At an operation. -/
theorem exec_append {w w' : World} {o : Oper} {ρ : Operand → Value} {s x : Operand} {t : TypeId} {v xv v' : Value}
    (ho : o.op = .call { callee := .builtin .append, args := #[s, x], argTypes := #[t, t] }) (hs : ρ s = v) (hx : ρ x = xv)
    (hrun : (Builtin.append_ #[t, t] o.type #[v, xv]).run Try.prog w = .ok v' w') : (execOp ρ o).run Try.prog w = .ok (.value v') w' := by
  simp [execOp, ho, resolve, invoke, builtin, hs, hx, hrun, Result.andThen]
end Go.Proofs.Ytcabhibbajkpkaa
