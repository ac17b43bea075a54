/-
  What the package sort is handed ('SortBy': a function value that compares, one that swaps, a row of whatever elements), for the walks of its functions: whatever the row is made of, whatever blocks a comparison lays.
-/
import Derived.Test.YtmegkfonodcoiaaBlok
import Derived.Sort.AssemblyPlain
import Derived.Shelf.SlSortFunc.Xorshift
import Derived.Shelf.GgSortFunc.Slice
import Derived.Ground.GgsProg
import Derived.Sort.WalkC
import Derived.Sort.WalkB3
namespace Go.Proofs.Ytmegkfonodcoiaa
open Go.RowKit Go.Sort

/-- 'l' (bound to la, holding lb) compares two places by 'lt', 's' (holding sb) swaps them; the row lies in block g, and 'Sw d W' says that it is d in the world W. -/
structure SortBy {α : Type} [Inhabited α] (lt : α → α → Bool) (l : Nat) (la lb : Array Value) (s : Nat) (sb : Array Value) (g n : Nat) (Sw : Array α → World → Prop) : Prop where
  size : ∀ {d W}, Sw d W → d.size = n
  most : n ≤ 1000000
  inb : ∀ {d W}, Sw d W → g < W.heap.size
  keep : ∀ {d W W' row}, Sw d W → W.grownBy W' row → some g ≠ row → Sw d W'
  enters : ∀ args w, (callFunc l args).run Try.prog w = .ok (.enter l args) w
  less : ∀ {d W} (i j : Nat), Sw d W → i < n → j < n → Calls Try.prog l (la ++ (#[.int .i64 i, .int .i64 j] ++ lb)) W fun e W' => e = .returned (.bool (lt d[i]! d[j]!)) ∧ W.grownBy W' none
  swap : ∀ {d W} (i j : Nat), Sw d W → i < n → j < n → ∃ W', (callFunc s (#[.int .i64 i, .int .i64 j] ++ sb)).run Try.prog W = .ok (.value (.tuple #[])) W' ∧ Sw (swp d i j) W' ∧ W.grownBy W' (some g)

variable {α : Type} [Inhabited α] {lt : α → α → Bool} {l : Nat} {la lb : Array Value} {s : Nat} {sb : Array Value} {g n : Nat} {Sw : Array α → World → Prop}

theorem SortBy.lesses (S : SortBy lt l la lb s sb g n Sw) {d : Array α} {W : World} (i j : Nat) (h : Sw d W) (hi : i < n) (hj : j < n) {p : Bool} (hp : lt d[i]! d[j]! = p) :
    Calls Try.prog l (la ++ (#[.int .i64 i, .int .i64 j] ++ lb)) W fun e W' => e = .returned (.bool p) ∧ Hid (Sw d W') ∧ Hid (W.grownBy W' none) :=
  (S.less i j h hi hj).mono fun _ _ ⟨he, hg⟩ => ⟨by rw [he, hp], Lib.hid (S.keep h hg (by simp)), Lib.hid hg⟩
theorem Blok.at0 {W : World} {b : Nat} {t : TypeId} {x y : Value} (h : Blok W b t #[x, y]) : W.cell? ⟨b, 0, none⟩ = some x := h.cell 0
theorem Blok.at1 {W : World} {b : Nat} {t : TypeId} {x y : Value} (h : Blok W b t #[x, y]) : W.cell? ⟨b, 1, none⟩ = some y := h.cell 1
theorem grown_none {a b : World} {row : Option Nat} (h : a.grownBy b none) : a.grownBy b row := ⟨h.os, h.tape, h.output, h.size, fun i hi _ => h.block i hi (by simp)⟩
theorem grown_set (w : World) (b i : Nat) (u : Value) : w.grownBy (w.setCell ⟨b, i, none⟩ u) (some b) :=
  ⟨rfl, rfl, rfl, by simp, fun k _ hk => Below.heap_setCell w ⟨b, i, none⟩ u k (fun e => hk (by simp [e]))⟩
end Go.Proofs.Ytmegkfonodcoiaa
