import Derived.Test.YtijkbflimbffmaaGreatProg
namespace Go.Proofs.YtijkbflimbffmaaGreat
theorem L.same_step {α : Type} {l k : List α} {i : Nat} {x : α} (hx : l[i]? = some x) (hy : k[i]? = some x) (h : l.take i = k.take i) : l.take (i + 1) = k.take (i + 1) := by
 obtain ⟨h0, h1⟩ := List.getElem?_eq_some_iff.1 hx
 obtain ⟨h2, h3⟩ := List.getElem?_eq_some_iff.1 hy
 rw [List.take_succ_eq_append_getElem h0, List.take_succ_eq_append_getElem h2, h, h1, h3]
theorem L.same_bad {α : Type} [DecidableEq α] {l k : List α} {i : Nat} {x y : α} (hx : l[i]? = some x) (hy : k[i]? = some y) (h : ¬ x = y) : decide (l = k) = false := by
 refine decide_eq_false fun e => h ?_
 rw [e, hy] at hx; exact (Option.some.inj hx).symm
end Go.Proofs.YtijkbflimbffmaaGreat
