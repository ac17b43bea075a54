/-
  What stands where: the methods of blocks, and the closures that ask them.
-/
import Derived.Test.YtbnhaoimdponkaaLRows
import Derived.Lib.QuietBelow
namespace Go.Proofs.Ytbnhaoimdponkaa
open Go.RowKit

set_option maxHeartbeats 400000 in
theorem isOf_any (x : L.T3) (a b : Int) (r : Bool) (hr : L.isOf a b x = r) (w : World) :
    Calls Try.prog 38 #[.agg #[.int .i64 x.a, .int .i64 x.b], .agg #[.int .i64 a, .int .i64 b]] w fun e w' => e = .returned (.bool r) ∧ Below w.heap.size w w' := by
  obtain ⟨xa, xb, xx⟩ := x
  by_cases h1 : xa = a
  · subst h1
    by_cases h2 : xb = b
    · subst h2
      have HE : Hid (r = true) := Lib.hid (by rw [← hr, L.isOf_iff]; exact ⟨rfl, rfl⟩)
      clear hr
      go_enter Try.func38, Try.ntmps38
      go_wp2_with fail
      go_ret
      exact ⟨by rw [HE.out]; rfl, ((Below.refl _ w).alloc (Nat.le_refl _) _).alloc (by simp) _⟩
    · have HE : Hid (r = false) := Lib.hid (by rw [← hr, Bool.eq_false_iff]; intro h; exact h2 (L.isOf_iff.1 h).2)
      clear hr
      go_enter Try.func38, Try.ntmps38
      go_wp2_with fail
      go_ret
      exact ⟨by rw [HE.out]; rfl, ((Below.refl _ w).alloc (Nat.le_refl _) _).alloc (by simp) _⟩
  · have HE : Hid (r = false) := Lib.hid (by rw [← hr, Bool.eq_false_iff]; intro h; exact h1 (L.isOf_iff.1 h).1)
    clear hr
    go_enter Try.func38, Try.ntmps38
    go_wp2_with fail
    go_ret
    exact ⟨by rw [HE.out]; rfl, ((Below.refl _ w).alloc (Nat.le_refl _) _).alloc (by simp) _⟩

set_option maxHeartbeats 400000 in
theorem behind_any (x : L.T3) (a b : Int) (r : Bool) (hr : L.behind a b x = r) (w : World) :
    Calls Try.prog 34 #[.agg #[.int .i64 x.a, .int .i64 x.b], .agg #[.int .i64 a, .int .i64 b]] w fun e w' => e = .returned (.bool r) ∧ Below w.heap.size w w' := by
  obtain ⟨u, hu⟩ : ∃ u, decide (a < x.a) = u := ⟨_, rfl⟩
  obtain ⟨v, hv⟩ : ∃ v, (x.a == a) = v := ⟨_, rfl⟩
  obtain ⟨z, hz⟩ : ∃ z, decide (b < x.b) = z := ⟨_, rfl⟩
  have HE : Hid (r = (u || (v && z))) := Lib.hid (by
    rw [← hr, ← hu, ← hv, ← hz, Bool.eq_iff_iff, L.behind_iff]; simp)
  clear hr
  go_enter Try.func34, Try.ntmps34
  cases u with
  | true =>
    go_wp2_with fail
    go_ret
    exact ⟨by rw [HE.out]; rfl, ((Below.refl _ w).alloc (Nat.le_refl _) _).alloc (by simp) _⟩
  | false =>
    cases v with
    | false =>
      go_wp2_with fail
      go_ret
      exact ⟨by rw [HE.out]; rfl, ((Below.refl _ w).alloc (Nat.le_refl _) _).alloc (by simp) _⟩
    | true =>
      go_wp2_with fail
      go_ret
      exact ⟨by rw [HE.out]; rfl, ((Below.refl _ w).alloc (Nat.le_refl _) _).alloc (by simp) _⟩
/-- What a round keeps: all that lay below H, but for the block X. -/
def KpL (H X : Nat) (W W' : World) : Prop := Below 0 W W' ∧ ∀ i, i < H → i ≠ X → W'.heap[i]? = W.heap[i]?
theorem KpL.r (H X : Nat) (W : World) : KpL H X W W := ⟨Below.refl _ _, fun _ _ _ => rfl⟩
theorem KpL.t {H X : Nat} {A B C : World} (h : KpL H X A B) (k : KpL H X B C) : KpL H X A C := ⟨h.1.trans k.1, fun i hi hx => (k.2 i hi hx).trans (h.2 i hi hx)⟩
theorem KpL.of_below {H H' X : Nat} {W W' : World} (h : Below H' W W') (hH : H ≤ H') : KpL H X W W' := ⟨h.mono (Nat.zero_le _), fun i hi _ => h.block i (by omega)⟩
theorem KpL.blok {H X : Nat} {W W' : World} (h : KpL H X W W') {B : Nat} {t : TypeId} {cs : Array Value} (hb : Blok W B t cs) (hB : B < H) (hx : B ≠ X) : Blok W' B t cs := (h.2 B hB hx).trans hb
/-- Where a row lies that is kept. -/
def Far {α : Type} (H X : Nat) (a : Option Addr) (l : List α) : Prop := l = [] ∨ ∀ x, a = some x → x.block < H ∧ x.block ≠ X
theorem RIn.far {α : Type} [L.Rec α] {w : World} {a : Option Addr} {n c : Nat} {l : List α} (h : RIn w a n c l) {H X : Nat} (hH : w.heap.size ≤ H) (hX : l = [] ∨ ∀ x, a = some x → x.block ≠ X) : Far H X a l := by
  rcases h.2.2.2 with h0 | ⟨b, off, rfl, hlt, _⟩
  · exact .inl h0
  rcases hX with h0 | hX
  · exact .inl h0
  · exact .inr fun x hx => ⟨by cases hx; show b < H; omega, hX x hx⟩
theorem RIn.off {α : Type} [L.Rec α] {w : World} {a : Option Addr} {n c : Nat} {l : List α} (h : RIn w a n c l) {X : Nat} (hX : w.heap.size ≤ X) : l = [] ∨ ∀ x, a = some x → x.block ≠ X := by
  rcases h.2.2.2 with h0 | ⟨b, off, rfl, hlt, _⟩
  · exact .inl h0
  · exact .inr fun x hx => by cases hx; show b ≠ X; omega
theorem KpL.mono {H H' X : Nat} {W W' : World} (h : KpL H X W W') (hH : H' ≤ H) : KpL H' X W W' := ⟨h.1, fun i hi hx => h.2 i (by omega) hx⟩
theorem KpL.rin {α : Type} [L.Rec α] {H X : Nat} {W W' : World} (h : KpL H X W W') {a : Option Addr} {n c : Nat} {l : List α} (hr : RIn W a n c l) (ha : Far H X a l) : RIn W' a n c l := by
  refine ⟨hr.1, hr.2.1, hr.2.2.1, ?_⟩
  rcases hr.2.2.2 with h0 | ⟨b, off, rfl, hlt, hc⟩
  · exact .inl h0
  rcases ha with h0 | ha
  · exact .inl h0
  · have hb := ha _ rfl
    refine .inr ⟨b, off, rfl, Nat.lt_of_lt_of_le hlt h.1.size, fun i x hi j u hj => ?_⟩
    have he : ∀ o, W'.cell? ⟨b, o, none⟩ = W.cell? ⟨b, o, none⟩ := fun o => by unfold World.cell?; rw [h.2 b hb.1 hb.2]
    rw [he]; exact hc i x hi j u hj
/-- A closure over what is of three integers that answers as p says, in whatever world that keeps what lay below H, but for X. -/
def Asks (H X : Nat) (f : FuncId) (lb : Array Value) (p : L.T3 → Bool) (W0 : World) : Prop :=
  ∀ W, KpL H X W0 W → ∀ x, Calls Try.prog f (#[L.val3 x] ++ lb) W fun e w' => e = .returned (.bool (p x)) ∧ Below W.heap.size W w'
theorem Asks.mono {H H' X : Nat} {f : FuncId} {lb : Array Value} {p : L.T3 → Bool} {W0 : World} (h : Asks H X f lb p W0) (hH : H ≤ H') : Asks H' X f lb p W0 := fun W hW x => h W (hW.mono hH) x
theorem Asks.on {H X : Nat} {f : FuncId} {lb : Array Value} {p : L.T3 → Bool} {W0 W1 : World} (h : Asks H X f lb p W0) (hb : KpL H X W0 W1) : Asks H X f lb p W1 := fun W hW x => h W (hb.t hW) x
end Go.Proofs.Ytbnhaoimdponkaa
