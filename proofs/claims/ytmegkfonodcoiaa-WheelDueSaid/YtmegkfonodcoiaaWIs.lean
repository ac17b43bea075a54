/-
  The contracts of wheels with their answers as letters; a box of a wheel that is stored into.
-/
import Derived.Test.YtmegkfonodcoiaaWRefAdd
import Derived.Test.YtmegkfonodcoiaaWRefDrop
import Derived.Test.YtmegkfonodcoiaaWRefStep
import Derived.Test.YtmegkfonodcoiaaWSame
import Derived.Test.YtmegkfonodcoiaaWFacts
import Derived.Lib.QuietBelow
namespace Go.Proofs.Ytmegkfonodcoiaa
open Go.RowKit

/-- A box of a wheel is no row of timers. -/
theorem TIn.set {w w' : World} {a a' : Option Addr} {n c n' c' B : Nat} {t : TypeId} {k : Int} {l : List W.Tm} (h : TIn w a n c l) (hb : Blok w B t #[.int .i64 k, .slice a' n' c']) (hg : w.grownBy w' (some B)) : TIn w' a n c l := by
  rcases h.2.2.2 with rfl | ⟨b, off, rfl, hlt, hc⟩
  · exact ⟨h.1, h.2.1, h.2.2.1, .inl rfl⟩
  · by_cases hl : l = []
    · subst hl; exact ⟨h.1, h.2.1, h.2.2.1, .inl rfl⟩
    · refine h.grown hg (fun x hx he => ?_)
      obtain rfl : (⟨b, off, none⟩ : Addr) = x := Option.some.inj hx
      obtain rfl : b = B := Option.some.inj he
      obtain ⟨y, hy⟩ : ∃ y, l[0]? = some y := by
        cases l with
        | nil => exact absurd rfl hl
        | cons y l => exact ⟨y, rfl⟩
      obtain ⟨h1, h2⟩ := hc 0 y hy
      rw [hb.cell] at h1 h2
      match off, h1, h2 with
      | 0, _, h2 => simp at h2
      | 1, _, h2 => simp at h2
      | off + 2, h1, _ => simp at h1
theorem add_is (k id at' : Int) (a : Option Addr) (n c : Nat) (l : List W.Tm) (l2 : List W.Tm) (n2 : Nat) (er : Int) (w : World) (h : TIn w a n c l) (hn : n ≤ 800) (hs : W.add k l id at' = (l2, er)) (h2 : l2.length = n2) :
    Calls Try.prog 11 #[.agg #[.int .i64 k, .slice a n c], .int .i64 id, .int .i64 at'] w fun e w' => ∃ a2 c2, e = .returned (.tuple #[.agg #[.int .i64 k, .slice a2 n2 c2], .int .i64 er]) ∧ Hid (TIn w' a2 n2 c2 l2) ∧ Below w.heap.size w w' := by
  refine (add_any k id at' a n c l w h hn).mono ?_
  rintro e w' ⟨a2, m, c2, rfl, ht, hb⟩
  rw [hs] at ht ⊢
  obtain rfl : m = n2 := by rw [← h2, ← ht.out.1]
  exact ⟨a2, c2, rfl, ht, hb⟩
theorem drop_is (k id : Int) (a : Option Addr) (n c : Nat) (l : List W.Tm) (l2 : List W.Tm) (n2 : Nat) (er : Bool) (w : World) (h : TIn w a n c l) (hn : n ≤ 800) (hs : W.drop k l id = (l2, er)) (h2 : l2.length = n2) :
    Calls Try.prog 13 #[.agg #[.int .i64 k, .slice a n c], .int .i64 id] w fun e w' => ∃ a2 c2, e = .returned (.tuple #[.agg #[.int .i64 k, .slice a2 n2 c2], .bool er]) ∧ Hid (TIn w' a2 n2 c2 l2) ∧ Below w.heap.size w w' := by
  refine (drop_any k id a n c l w h (by omega)).mono ?_
  rintro e w' ⟨a2, m, c2, rfl, ht, hb⟩
  rw [hs] at ht ⊢
  obtain rfl : m = n2 := by rw [← h2, ← ht.out.1]
  exact ⟨a2, c2, rfl, ht, hb⟩
theorem step_is (k tt : Int) (a : Option Addr) (n c : Nat) (l : List W.Tm) (k2 : Int) (l2 l3 : List W.Tm) (n2 n3 : Nat) (er : Int) (w : World) (h : TIn w a n c l) (hn : n ≤ 800) (hs : W.step k l tt = ((k2, l2), l3, er)) (h2 : l2.length = n2) (h3 : l3.length = n3) :
    Calls Try.prog 15 #[.agg #[.int .i64 k, .slice a n c], .int .i64 tt] w fun e w' => ∃ a2 c2 a3 c3, e = .returned (.tuple #[.agg #[.int .i64 k2, .slice a2 n2 c2], .slice a3 n3 c3, .int .i64 er]) ∧ Hid (TIn w' a2 n2 c2 l2) ∧ Hid (TIn w' a3 n3 c3 l3) ∧ Below w.heap.size w w' := by
  refine (step_any k tt a n c l w h hn).mono ?_
  rintro e w' ⟨a2, m, c2, a3, m3, c3, rfl, ht, ht3, hb⟩
  rw [hs] at ht ht3 ⊢
  obtain rfl : m = n2 := by rw [← h2, ← ht.out.1]
  obtain rfl : m3 = n3 := by rw [← h3, ← ht3.out.1]
  exact ⟨a2, c2, a3, c3, rfl, ht, ht3, hb⟩
theorem new_is (k k2 : Int) (p : Bool) (w : World) (hs : W.new k = (k2, p)) :
    Calls Try.prog 17 #[.int .i64 k] w fun e w' => e = .returned (.tuple #[.agg #[.int .i64 k2, .slice none 0 0], .bool p]) ∧ Below w.heap.size w w' := by
  refine (new_any k w).mono ?_
  rintro e w' ⟨rfl, hb⟩
  rw [hs]
  exact ⟨rfl, hb⟩
theorem refAdd_is (k id at' : Int) (a : Option Addr) (n c : Nat) (l : List W.Tm) (l2 : List W.Tm) (n2 : Nat) (er : Int) (w : World) (h : TIn w a n c l) (hn : n ≤ 800) (hs : W.add k l id at' = (l2, er)) (h2 : l2.length = n2) :
    Calls Try.prog 12 #[.agg #[.int .i64 k, .slice a n c], .int .i64 id, .int .i64 at'] w fun e w' => ∃ a2 c2, e = .returned (.tuple #[.agg #[.int .i64 k, .slice a2 n2 c2], .int .i64 er]) ∧ Hid (TIn w' a2 n2 c2 l2) ∧ Below w.heap.size w w' := by
  refine (refAdd_any k id at' a n c l w h hn).mono ?_
  rintro e w' ⟨a2, m, c2, rfl, ht, hb⟩
  rw [hs] at ht ⊢
  obtain rfl : m = n2 := by rw [← h2, ← ht.out.1]
  exact ⟨a2, c2, rfl, ht, hb⟩
theorem refDrop_is (k id : Int) (a : Option Addr) (n c : Nat) (l : List W.Tm) (l2 : List W.Tm) (n2 : Nat) (er : Bool) (w : World) (h : TIn w a n c l) (hn : n ≤ 800) (hs : W.drop k l id = (l2, er)) (h2 : l2.length = n2) :
    Calls Try.prog 14 #[.agg #[.int .i64 k, .slice a n c], .int .i64 id] w fun e w' => ∃ a2 c2, e = .returned (.tuple #[.agg #[.int .i64 k, .slice a2 n2 c2], .bool er]) ∧ Hid (TIn w' a2 n2 c2 l2) ∧ Below w.heap.size w w' := by
  refine (refDrop_any k id a n c l w h (by omega)).mono ?_
  rintro e w' ⟨a2, m, c2, rfl, ht, hb⟩
  rw [hs] at ht ⊢
  obtain rfl : m = n2 := by rw [← h2, ← ht.out.1]
  exact ⟨a2, c2, rfl, ht, hb⟩
theorem refStep_is (k tt : Int) (a : Option Addr) (n c : Nat) (l : List W.Tm) (k2 : Int) (l2 l3 : List W.Tm) (n2 n3 : Nat) (er : Int) (w : World) (h : TIn w a n c l) (hn : n ≤ 800) (hs : W.step k l tt = ((k2, l2), l3, er)) (h2 : l2.length = n2) (h3 : l3.length = n3) :
    Calls Try.prog 16 #[.agg #[.int .i64 k, .slice a n c], .int .i64 tt] w fun e w' => ∃ a2 c2 a3 c3, e = .returned (.tuple #[.agg #[.int .i64 k2, .slice a2 n2 c2], .slice a3 n3 c3, .int .i64 er]) ∧ Hid (TIn w' a2 n2 c2 l2) ∧ Hid (TIn w' a3 n3 c3 l3) ∧ Below w.heap.size w w' := by
  refine (refStep_any k tt a n c l w h hn).mono ?_
  rintro e w' ⟨a2, m, c2, a3, m3, c3, rfl, ht, ht3, hb⟩
  rw [hs] at ht ht3 ⊢
  obtain rfl : m = n2 := by rw [← h2, ← ht.out.1]
  obtain rfl : m3 = n3 := by rw [← h3, ← ht3.out.1]
  exact ⟨a2, c2, a3, c3, rfl, ht, ht3, hb⟩
theorem refNew_is (k k2 : Int) (p : Bool) (w : World) (hs : W.new k = (k2, p)) :
    Calls Try.prog 18 #[.int .i64 k] w fun e w' => e = .returned (.tuple #[.agg #[.int .i64 k2, .slice none 0 0], .bool p]) ∧ Below w.heap.size w w' := by
  refine (refNew_any k w).mono ?_
  rintro e w' ⟨rfl, hb⟩
  rw [hs]
  exact ⟨rfl, hb⟩
end Go.Proofs.Ytmegkfonodcoiaa
