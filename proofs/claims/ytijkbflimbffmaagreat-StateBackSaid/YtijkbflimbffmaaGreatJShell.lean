import Derived.Test.YtijkbflimbffmaaGreatP44
namespace Go.Proofs.YtijkbflimbffmaaGreat
open Go.RowKit Go.ChangeShapes Go.WideShapes Go.Joins Go.Deep
theorem open_bytes3 {H : Type} {enc : TypeId × Value -> H} {V : World} {held : Bool} {v : Value} {d : DataW H} {p : List MemPlace} (hv : ∃ a n c, v = .slice a n c) (h : DataW.Trod enc Tryz.prog V 0 (fun _ => true) held 36 v d p) : ∃ a n c l, v = .slice a n c /\ l.length = n /\ zfv .u8 V a c l /\ (a = none -> n = 0 /\ c = 0) := by
 obtain ⟨a0, n0, c0, rfl⟩ := hv
 obtain ⟨fuel, hf⟩ := h
 rcases open_ints Tryz.underlying36 Tryz.underlying5 (by kernel_rfl) hf with ⟨hcs, _⟩ | ⟨x, l, c, zs, hcs, _, hl, hm, hz, _, hcell, hwz⟩
 ·simp [Value.cells] at hcs
  obtain ⟨rfl, rfl, rfl⟩ := hcs
  exact ⟨none, 0, 0, [], rfl, rfl, ⟨by simp [maxLen], by simp, .inl rfl⟩, fun _ => ⟨rfl, rfl⟩⟩
 ·simp [Value.cells] at hcs
  obtain ⟨rfl, rfl, rfl⟩ := hcs
  have hr : zsp .u8 V (some x) _ _ zs := .inr ⟨_, rfl, hl, hm, by simpa using hz, hcell, hwz⟩
  exact ⟨some x, _, _, zs.take _, rfl, hr.rowIn.2, hr.rowIn.1, fun e => by cases e⟩
end Go.Proofs.YtijkbflimbffmaaGreat
