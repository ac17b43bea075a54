/-
  append of pools: one; of whatever slice; slices.Clone.
-/
import Derived.Test.YtejckbnapcdhpaaORows
import Derived.Deep.AppendLies
import Derived.Deep.RegionLaw
namespace Go.Proofs.Ytejckbnapcdhpaa
open Go.RowKit

theorem pool_parts : ∃ i, Try.prog.info? 37 = some i ∧ i.zero = some (.agg #[.int .i64 0, .int .i64 0, .int .i64 0]) ∧ i.size = 3 ∧ i.bytes = 24 := info_parts info_pool
theorem cell_oneO {w : World} {nb : Nat} {x : O.Pl} (hb : O.Bx w nb x) (j : Nat) (u : Value) (hj : (O.cells x)[j]? = some u) : w.cell? ((⟨nb, 0, none⟩ : Addr).add j) = some u := by
  rw [WideShapes.add_plain, Blok.cell hb, Nat.zero_add]
  simpa [O.cells] using hj

/-- append of one pool to a row of the call's own, in a plain region. -/
theorem wpList_appendO {w : World} {ops : Array Oper} {rest : List Oper} {o : Oper} {a : Act} {Q : Exit → Act → World → Prop} (hgd : o.guard = none) (s x : Operand)
    (ho : o.op = .call { callee := .builtin .append, args := #[s, x], argTypes := #[22, 22] })
    (B : Nat) (v : Value) (p : Nat) (l : List O.Pl) (tm : O.Pl) (hs : a.eval s = v) (hown : w.ownsRow B 37 3 v p (O.flat l)) (nb : Nat) (hx : a.eval x = .slice (some ⟨nb, 0, none⟩) 1 1) (hb : O.Bx w nb tm) (hp : p ≤ 10000) (hB : B ≤ w.heap.size)
    (h : ∀ g cap w', w'.ownsRow B 37 3 (.slice (some ⟨g, 0, none⟩) (p + 1) cap) (p + 1) (O.flat (l ++ [tm])) → w.grownBy w' v.ownBlock → (v.ownBlock = some g ∨ g = w.heap.size) → g < w'.heap.size → wpList Try.prog ops Q rest (a.put o.dst (.slice (some ⟨g, 0, none⟩) (p + 1) cap)) w') :
    wpList Try.prog ops Q (o :: rest) a w := by
  obtain ⟨i0, hi, hz0, hz1, hz2⟩ := pool_parts
  exact wpList_append_lies w hgd s x 22 ho B 37 i0 _ 3 24 Try.underlying22 hi hz0 hz1 hz2 rfl (by decide) v p (O.flat l) hs hown ⟨nb, 0, none⟩ 1 1 (O.cells tm) hx rfl (cell_oneO hb) (by intro u hu; simp [O.cells] at hu; rcases hu with rfl | rfl | rfl <;> rfl) (by decide) (by unfold maxLen; omega) (by omega) hB w.heap.size rfl
    (fun g cap w' h1 h2 h3 h4 => h g cap w' (by rw [O.flat_append]; exact h1) h2 h3 h4)
theorem ownO_nil {w : World} {g B : Nat} (h : Blok w g 37 #[]) (hB : B ≤ g) : w.ownsRow B 37 3 (.slice (some ⟨g, 0, none⟩) 0 0) 0 [] :=
  ⟨rfl, .inr ⟨g, 0, #[], rfl, hB, h, Nat.le_refl _, by simp [maxLen], rfl, rfl⟩⟩

/-- append, to a row of the call's own, of whatever slice of pools. -/
theorem wpList_appendOs {w : World} {ops : Array Oper} {rest : List Oper} {o : Oper} {a : Act} {Q : Exit → Act → World → Prop} (hgd : o.guard = none) (s x : Operand)
    (ho : o.op = .call { callee := .builtin .append, args := #[s, x], argTypes := #[22, 22] })
    (B : Nat) (v : Value) (n : Nat) (l : List O.Pl) (hs : a.eval s = v) (hown : w.ownsRow B 37 3 v n (O.flat l))
    (ad : Option Addr) (m c : Nat) (k : List O.Pl) (hx : a.eval x = .slice ad m c) (hd : QIn w ad m c k) (h63 : n + m ≤ 1000000) (hB : B ≤ w.heap.size)
    (h : ∀ v' w', w'.ownsRow B 37 3 v' (n + m) (O.flat (l ++ k)) → w.grownBy w' v.ownBlock → wpList Try.prog ops Q rest (a.put o.dst v') w') : wpList Try.prog ops Q (o :: rest) a w := by
  obtain ⟨i0, hi, hz0, hz1, hz2⟩ := pool_parts
  cases ad with
  | none =>
    obtain ⟨rfl, rfl⟩ := hd.2.2.1 rfl
    obtain rfl : k = [] := List.eq_nil_of_length_eq_zero hd.1
    exact wpList_append_own_none hgd s x 22 ho B 37 i0 3 Try.underlying22 hi v n (O.flat l) hs hown hx (h v w (by simpa using hown) ⟨rfl, rfl, rfl, Nat.le_refl _, fun _ _ _ => rfl⟩)
  | some ad =>
    refine wpList_append_own w hgd s x 22 ho B 37 i0 _ 3 24 Try.underlying22 hi hz0 hz1 hz2 rfl (by decide) v n (O.flat l) hs hown ad m c (O.flat k) hx (by rw [O.flat_len, hd.1]) (fun j u hj => ?_) (O.flat_one k) (by unfold maxLen; omega) (by omega) hB (fun v' w' h1 h2 _ => h v' w' (by rw [O.flat_append]; exact h1) h2)
    obtain ⟨i, y, hy, hju⟩ := O.flat_some hj
    rcases hd.2.2.2 with rfl | ⟨b, off, he, _, hc⟩
    · simp at hy
    · cases he
      rw [WideShapes.add_plain]
      obtain ⟨h1, h2, h3⟩ := hc i y hy
      rcases hju with ⟨rfl, rfl⟩ | ⟨rfl, rfl⟩ | ⟨rfl, rfl⟩
      · exact h1
      · rw [← Nat.add_assoc]; exact h2
      · rw [← Nat.add_assoc]; exact h3

theorem cloneO_any (a : Option Addr) (n c : Nat) (l : List O.Pl) (w : World) (hn : n ≤ 1000) (hd : QIn w a n c l) :
    Calls Try.prog 28 #[.slice a n c] w fun e w' => ∃ v, e = .returned v ∧ Hid (w'.ownsRow w.heap.size 37 3 v n (O.flat l)) ∧ Below w.heap.size w w' := by
  have HD := Lib.hid hd
  cases a with
  | none =>
    obtain ⟨rfl, rfl⟩ := hd.2.2.1 rfl
    obtain rfl : l = [] := List.eq_nil_of_length_eq_zero hd.1
    clear hd
    have he : ∀ w : World, (binOp .eql 22 (.slice none 0 0) (.slice none 0 0)).run Try.prog w = .ok (.bool true) w := fun _ => rfl
    go_enter Try.func28, Try.ntmps28
    go_wp2
    go_ret
    exact ⟨_, rfl, Lib.hid (World.ownsRow_nil _ _ _ _), Below.refl _ _⟩
  | some x =>
    clear hd
    have he : ∀ w : World, (binOp .eql 22 (.slice (some x) n c) (.slice none 0 0)).run Try.prog w = .ok (.bool false) w := fun _ => rfl
    go_enter Try.func28, Try.ntmps28
    go_wp2_with (at_builtin; refine wpList_appendOs rfl _ _ rfl w.heap.size _ 0 [] rfl (ownO_nil (Blok.new w 37 #[]) (Nat.le_refl _)) (some x) n c l rfl (HD.out.below ((Below.refl _ w).alloc (Nat.le_refl _) _)) (by omega) (by simp) ?_; intro v' w2 hown' hgrow)
    go_ret
    rw [Nat.zero_add] at hown'
    exact ⟨v', rfl, Lib.hid (by simpa using hown'), ((Below.refl _ w).alloc (Nat.le_refl _) _).grown hgrow (by simp) (fun k ek => by cases ek; exact Nat.le_refl _)⟩
end Go.Proofs.Ytejckbnapcdhpaa
