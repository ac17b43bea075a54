/-
  What reads events: whichever event.
-/
import Derived.Test.YtebiogadkamgcaaNEvent
namespace Go.Proofs.Ytebiogadkamgcaa
open Go.RowKit
theorem rdEvent_any (g r : Nat) (L : List Int) (t : Int) (w : World) (hl : N.Left w g r L) (hL : L.length ≤ 1000) (hi : ∀ x ∈ L, M.isn x) (hg : g < w.heap.size) (hr : r < w.heap.size) :
    Calls Try.prog 25 #[.pointer (some ⟨g, 0, none⟩), .int .i64 t] w (N.Got w g r (N.one t L).1 (N.one t L).2) := by
  have h0 := (N.head_isn hi).1
  have hk : L.headD 0 % 16 = 0 ∨ L.headD 0 % 16 = 1 ∨ L.headD 0 % 16 = 2 ∨ L.headD 0 % 16 = 3 ∨ L.headD 0 % 16 = 4 ∨ L.headD 0 % 16 = 5 ∨ L.headD 0 % 16 = 6 ∨ 7 ≤ L.headD 0 % 16 := by omega
  rcases hk with hk | hk | hk | hk | hk | hk | hk | hk
  · have e : N.one t L = (⟨0, Go.RowKit.wrap64 (t + L.headD 0 / 16), L.tail.headD 0 / 32, L.tail.headD 0 % 32 / 8, L.tail.headD 0 % 8, Y.zp⟩, L.tail.tail) := by unfold N.one N.body; simp only [hk]; rfl
    rw [e]
    exact rdEvent_0 g r L t _ _ w rfl hk rfl hl hL hi hg hr
  · have e : N.one t L = (⟨1, Go.RowKit.wrap64 (t + L.headD 0 / 16), L.tail.headD 0 / 32, L.tail.headD 0 % 32 / 8, L.tail.headD 0 % 8, Y.zp⟩, L.tail.tail) := by unfold N.one N.body; simp only [hk]; rfl
    rw [e]
    exact rdEvent_1 g r L t _ _ w rfl hk rfl hl hL hi hg hr
  · have e : N.one t L = (⟨2, Go.RowKit.wrap64 (t + L.headD 0 / 16), L.tail.headD 0 / 8, L.tail.headD 0 % 8, 0, Y.zp⟩, L.tail.tail) := by unfold N.one N.body; simp only [hk]; rfl
    rw [e]
    exact rdEvent_2 g r L t _ _ w rfl hk rfl hl hL hi hg hr
  · have e : N.one t L = (⟨3, Go.RowKit.wrap64 (t + L.headD 0 / 16), L.tail.headD 0, 0, 0, Y.zp⟩, L.tail.tail) := by unfold N.one N.body; simp only [hk]; rfl
    rw [e]
    exact rdEvent_3 g r L t _ _ w rfl hk rfl hl hL hi hg hr
  · have e : N.one t L = (⟨4, Go.RowKit.wrap64 (t + L.headD 0 / 16), L.tail.headD 0 / 8, L.tail.headD 0 % 8, 0, Y.zp⟩, L.tail.tail) := by unfold N.one N.body; simp only [hk]; rfl
    rw [e]
    exact rdEvent_4 g r L t _ _ w rfl hk rfl hl hL hi hg hr
  · have e : N.one t L = (⟨5, Go.RowKit.wrap64 (t + L.headD 0 / 16), L.tail.headD 0, 0, 0, Y.zp⟩, L.tail.tail) := by unfold N.one N.body; simp only [hk]; rfl
    rw [e]
    exact rdEvent_5 g r L t _ _ w rfl hk rfl hl hL hi hg hr
  · have e : N.one t L = (⟨6, Go.RowKit.wrap64 (t + L.headD 0 / 16), 0, 0, 0, ⟨L.tail.headD 0, L.tail.tail.headD 0, L.tail.tail.tail.headD 0, decide (L.tail.tail.tail.tail.headD 0 = 1)⟩⟩, L.tail.tail.tail.tail.tail) := by unfold N.one N.body; simp only [hk]; rfl
    rw [e]
    exact rdEvent_6 g r L t _ _ _ _ _ w rfl hk rfl rfl rfl rfl hl hL hi hg hr
  · have e : N.one t L = (⟨L.headD 0 % 16, Go.RowKit.wrap64 (t + L.headD 0 / 16), 0, 0, 0, Y.zp⟩, L.tail) := by
      unfold N.one N.body
      simp only
      rw [if_neg (by omega), if_neg (by omega), if_neg (by omega), if_neg (by omega)]
    rw [e]
    exact rdEvent_7 g r L t _ _ _ hk w rfl rfl rfl hl hL hi hg hr
end Go.Proofs.Ytebiogadkamgcaa
