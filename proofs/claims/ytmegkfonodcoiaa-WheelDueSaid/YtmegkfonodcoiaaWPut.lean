/-
  Rings of timers; a walk of (*wheel.ring).put.
-/
import Derived.Test.YtmegkfonodcoiaaWApp
import Derived.Laws.Bits64b
namespace Go.Proofs.Ytmegkfonodcoiaa
open Go.RowKit

/-- The rows of a ring: each slot's timers in a row of its own, apart from the others. -/
def RowsIn (B : Nat) (l : List W.Tm) (vs : Array Value) (V : World) : Prop :=
  vs.size = 16 ∧ (∀ k : Nat, k < 16 → V.ownsRow B 40 2 vs[k]! (W.slot (k : Int) l).length (W.flat (W.slot (k : Int) l))) ∧
  ∀ i j : Nat, i < 16 → j < 16 → i ≠ j → ∀ g, vs[i]!.ownBlock = some g → vs[j]!.ownBlock ≠ some g
theorem and15 (m : Nat) (h : m < 4294967296) : bits .and .i64 (m : Int) 15 = ((m % 16 : Nat) : Int) := by
  have h1 : bits .and .i64 (m : Int) ((15 : Nat) : Int) = ((m &&& 15 : Nat) : Int) := (bits_nat .i64 63 (by decide) (fun n h0 h1 => by rw [IntKind.wrap_i64]; omega) m 15 (by omega) (by omega)).1
  rw [show (15 : Int) = ((15 : Nat) : Int) from rfl, h1, show (15 : Nat) = 2 ^ 4 - 1 from rfl, Nat.and_two_pow_sub_one_eq_mod]
theorem RowsIn.on {B : Nat} {l : List W.Tm} {vs : Array Value} {V V' : World} (h : RowsIn B l vs V) (hb : Below V.heap.size V V') : RowsIn B l vs V' := ⟨h.1, fun k hk => ownsRow_below (h.2.1 k hk) hb, h.2.2⟩
theorem RowsIn.base {B B' : Nat} {l : List W.Tm} {vs : Array Value} {V : World} (h : RowsIn B l vs V) (hB : B' ≤ B) : RowsIn B' l vs V := ⟨h.1, fun k hk => ownsRow_base (h.2.1 k hk) hB, h.2.2⟩
theorem ownT_lt {V : World} {B n : Nat} {v : Value} {l : List Value} (h : V.ownsRow B 40 2 v n l) {g : Nat} (hg : v.ownBlock = some g) : B ≤ g ∧ g < V.heap.size := h.lt g hg
theorem ownT_ne {V : World} {B n g b : Nat} {v : Value} {l : List Value} {t : TypeId} {cs : Array Value} (h : V.ownsRow B 40 2 v n l) (hb : Blok V b t cs) (ht : t ≠ 40) (hg : v.ownBlock = some g) : b ≠ g := by
  rintro rfl
  rcases h.2 with ⟨rfl, _⟩ | ⟨g', cap', cur, rfl, _, hg', _⟩
  · simp [Value.ownBlock] at hg
  · simp only [Value.ownBlock, Option.some.injEq] at hg
    subst hg
    have := (show V.heap[g']? = _ from hb).symm.trans hg'
    simp at this
    exact ht this.2
/-- What is no row of timers is as it was. -/
def Others (rb : Nat) (V V' : World) : Prop := ∀ b t cs, Blok V b t cs → t ≠ 40 → b ≠ rb → Blok V' b t cs
theorem Others.trans {rb : Nat} {V V' V'' : World} (h : Others rb V V') (k : Others rb V' V'') : Others rb V V'' := fun b t cs hb ht hr => k b t cs (h b t cs hb ht hr) ht hr
theorem Others.of {rb : Nat} {V V' : World} (h : Below V.heap.size V V') : Others rb V V' := fun _ _ _ hb _ _ => hb.on' h

/-- One more timer in its slot: the rows behind an append. -/
theorem RowsIn.put {B g cap k : Nat} {l : List W.Tm} {x : W.Tm} {vs : Array Value} {V V' : World} (h : RowsIn B l vs V) (hk : k < 16) (hx : x.2 % 16 = (k : Int))
    (hrow : V'.ownsRow B 40 2 (.slice (some ⟨g, 0, none⟩) ((W.slot (k : Int) l).length + 1) cap) ((W.slot (k : Int) l).length + 1) (W.flat (W.slot (k : Int) l ++ [x]))) (hg : V.grownBy V' vs[k]!.ownBlock) (hgg : vs[k]!.ownBlock = some g ∨ V.heap.size ≤ g) :
    RowsIn B (l ++ [x]) (vs.setIfInBounds k (.slice (some ⟨g, 0, none⟩) ((W.slot (k : Int) l).length + 1) cap)) V' := by
  have hsz := h.1
  have hget : ∀ j : Nat, j < 16 → (vs.setIfInBounds k (.slice (some ⟨g, 0, none⟩) ((W.slot (k : Int) l).length + 1) cap))[j]! = if j = k then .slice (some ⟨g, 0, none⟩) ((W.slot (k : Int) l).length + 1) cap else vs[j]! := fun j hj => by
    rw [getElem!_pos _ j (by simp; omega), Array.getElem_setIfInBounds]
    by_cases hjk : j = k
    · simp [hjk]
    · rw [if_neg (Ne.symm hjk), if_neg hjk, getElem!_pos vs j (by omega)]
  refine ⟨by simp [hsz], fun j hj => ?_, fun i j hi hj hij g' => ?_⟩
  · rw [hget j hj, W.slot_snoc]
    by_cases hjk : j = k
    · subst hjk
      rw [if_pos rfl, if_pos hx]
      simpa using hrow
    · rw [if_neg hjk, if_neg (by omega)]
      exact (h.2.1 j hj).kept hg (by
        cases hv : vs[j]!.ownBlock with
        | none => exact .inl rfl
        | some g' => exact .inr (fun e => h.2.2 j k hj hk hjk g' hv e.symm))
  · rw [hget i hi, hget j hj]
    have hlt : ∀ m : Nat, m < 16 → ∀ b, vs[m]!.ownBlock = some b → b < V.heap.size := fun m hm b hb => (ownT_lt (h.2.1 m hm) hb).2
    by_cases hik : i = k
    · subst hik
      rw [if_pos rfl, if_neg (Ne.symm hij)]
      intro e e2
      simp only [Value.ownBlock, Option.some.injEq] at e
      subst e
      rcases hgg with h1 | h1
      · exact h.2.2 i j hk hj hij _ h1 e2
      · have := hlt j hj _ e2
        omega
    · rw [if_neg hik]
      by_cases hjk : j = k
      · subst hjk
        rw [if_pos rfl]
        intro e e2
        simp only [Value.ownBlock, Option.some.injEq] at e2
        subst e2
        rcases hgg with h1 | h1
        · exact h.2.2 i j hi hk hij _ e h1
        · have := hlt i hi _ e
          omega
      · rw [if_neg hjk]
        exact h.2.2 i j hi hj hij g'

theorem below_da (V : World) (o : Obj) : Below V.heap.size V (V.drew.alloc o) := (below_drew V).alloc (Nat.le_refl _) o

set_option maxRecDepth 100000 in
set_option maxHeartbeats 1000000 in
theorem put_any (B rb : Nat) (l : List W.Tm) (x : W.Tm) (vs : Array Value) (w : World) (hr : Blok w rb 47 vs) (h : RowsIn B l vs w) (hB : B ≤ w.heap.size) (hrb : B ≤ rb) (hx : 0 ≤ x.2 ∧ x.2 ≤ 1073741824) (hl : l.length ≤ 1000) :
    Calls Try.prog 28 #[.pointer (some ⟨rb, 0, none⟩), .agg #[.int .i64 x.1, .int .i64 x.2]] w fun e w' => e = .returned (.tuple #[]) ∧ ∃ vs', Hid (Blok w' rb 47 vs') ∧ Hid (RowsIn B (l ++ [x]) vs' w') ∧ Hid (Others rb w w') ∧ Hid (Below B w w') := by
  obtain ⟨k, hk⟩ : ∃ k : Nat, (k : Int) = x.2 % 16 := ⟨(x.2 % 16).toNat, by omega⟩
  have hk16 : k < 16 := by omega
  have hand : bits .and .i64 x.2 15 = (k : Int) := by
    obtain ⟨m, hm⟩ : ∃ m : Nat, x.2 = m := ⟨x.2.toNat, by omega⟩
    rw [hm] at hk ⊢
    rw [and15 m (by omega)]; omega
  have HK := Lib.hid hk
  obtain ⟨v, hv⟩ : ∃ v, vs[k]! = v := ⟨_, rfl⟩
  have hvk : vs[k]? = some v := by rw [← hv, getElem!_pos vs k (by rw [h.1]; exact hk16)]; simp
  have TB := Lib.hid (tbox_below w x)
  have TK := Lib.hid (tbox_blok w x)
  have HR := Lib.hid (hr.on' TB.out)
  have HRow := Lib.hid (h.on TB.out)
  clear hk
  go_enter Try.func28, Try.ntmps28
  have b0 := TK.out.b0
  have b1 := TK.out.b1
  unfold tbox at b0 b1
  go_wp2_with fail
  obtain ⟨V, hV⟩ : ∃ V, w.alloc (.cells #[.int .i64 x.1, .int .i64 x.2] 40) = V := ⟨_, rfl⟩
  rw [hV] at b0 b1 ⊢
  have HR2 : Hid (Blok V rb 47 vs) := Lib.hid (by rw [← hV]; exact HR.out)
  have HW2 : Hid (RowsIn B l vs V) := Lib.hid (by rw [← hV]; exact HRow.out)
  have HV : Hid (Below w.heap.size w V) := Lib.hid (by rw [← hV]; exact TB.out)
  have hBV : B ≤ V.heap.size := Nat.le_trans hB HV.out.size
  clear hV HR HRow TB TK hr h
  have r0 : V.cell? ⟨rb, k, none⟩ = some v := by rw [HR2.out.cell]; exact hvk
  have r1 : ∀ o, (V.alloc o).cell? ⟨rb, k, none⟩ = some v := fun o => by rw [(HR2.out.alloc o).cell]; exact hvk
  have r2 : ∀ o, (V.drew.alloc o).cell? ⟨rb, k, none⟩ = some v := fun o => by rw [(HR2.out.drew.alloc o).cell]; exact hvk
  have k0 : (0 : Int) ≤ (k : Int) := by omega
  have k1 : (k : Int) < 16 := by omega
  have hrow := HW2.out.2.1 k hk16
  rw [hv] at hrow
  have HRO := Lib.hid hrow
  clear hrow
  have hll : (W.slot (k : Int) l).length ≤ 1000 := Nat.le_trans (List.length_filter_le _ _) hl
  go_region_law (refine step_appendT rfl (.tmp 14) (.tmp 16) 22 rfl Try.underlying22 B v _ (W.slot (k : Int) l) x (by simp [Act.eval]) (ownsRow_below HRO.out (below_da _ _)) V.heap.size 40 (by simp [Act.eval]) (Blok.new V.drew _ _) (Nat.le_trans hll (by decide)) (Nat.le_trans hBV (by simp)) ?_; intro g cap w3 h1 h2 h3 h4; have HR3 := Lib.hid ((HR2.out.on' (below_da V _)).grown h2 (fun e => ownT_ne HRO.out HR2.out (by decide) e.symm rfl)); have r3 : w3.cell? ⟨rb, k, none⟩ = some v := (by rw [HR3.out.cell]; exact hvk); have f3 := HR3.out.frozen k)
  all_goals (
    have G3 : Hid (V.grownBy w3 v.ownBlock) := Lib.hid ((grown_none (below_none (below_da V _))).trans h2)
    have H1 := Lib.hid h1
    have H3 : Hid (v.ownBlock = some g ∨ V.heap.size ≤ g) := Lib.hid (h3.imp id (fun e => by rw [e]; show V.heap.size ≤ (V.alloc _).heap.size; simp))
    clear h1 h2 h3 h4 r3 f3 r0 r1 r2 b0 b1
    obtain ⟨W4, hW4⟩ : ∃ W4, w3.setCell ⟨rb, k, none⟩ (.slice (some ⟨g, 0, none⟩) ((W.slot (k : Int) l).length + 1) cap) = W4 := ⟨_, rfl⟩
    have HG4 : Hid (w3.grownBy W4 (some rb)) := Lib.hid (by rw [← hW4]; exact grown_set _ _ _ _)
    have HR4 : Hid (Blok W4 rb 47 (vs.setIfInBounds k (.slice (some ⟨g, 0, none⟩) ((W.slot (k : Int) l).length + 1) cap))) := Lib.hid (by rw [← hW4]; exact HR3.out.set k _)
    have hgr : g ≠ rb := fun e => ownT_ne H1.out HR3.out (by decide) (show _ = some g from rfl) e.symm
    have hrows := HW2.out.put hk16 HK.out.symm H1.out (by rw [hv]; exact G3.out) (by rw [hv]; exact H3.out)
    have hrows4 : RowsIn B (l ++ [x]) (vs.setIfInBounds k (.slice (some ⟨g, 0, none⟩) ((W.slot (k : Int) l).length + 1) cap)) W4 := ⟨hrows.1, fun j hj => (hrows.2.1 j hj).kept HG4.out (by
      cases hv : (vs.setIfInBounds k (.slice (some ⟨g, 0, none⟩) ((W.slot (k : Int) l).length + 1) cap))[j]!.ownBlock with
      | none => exact .inl rfl
      | some g' => exact .inr (fun e => ownT_ne (hrows.2.1 j hj) HR3.out (by decide) hv (Option.some.inj e).symm)), hrows.2.2⟩
    have HRows4 := Lib.hid hrows4
    clear hrows hrows4
    have HO : Hid (Others rb w W4) := Lib.hid (fun b t cs hb ht hne =>
      ((hb.on' HV.out).grown G3.out (fun e => ownT_ne HRO.out (hb.on' HV.out) ht e.symm rfl)).grown HG4.out (by simpa using hne))
    have HB4 : Hid (Below B w W4) := Lib.hid (((HV.out.mono hB).grown G3.out hBV (fun j hj => (ownT_lt HRO.out hj).1)).grown HG4.out (Nat.le_trans hBV G3.out.size) (fun j hj => by cases hj; exact hrb))
    rw [hW4]
    clear hW4
    go_wp2
    go_end0
    exact ⟨rfl, _, HR4, HRows4, HO, HB4⟩)
end Go.Proofs.Ytmegkfonodcoiaa
