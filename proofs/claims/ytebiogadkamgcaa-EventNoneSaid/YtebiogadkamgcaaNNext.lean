/-
  What reads events: next, block, span, pool.
-/
import Derived.Test.YtebiogadkamgcaaNMath
import Derived.Test.YtebiogadkamgcaaNRet
import Derived.Test.YtebiogadkamgcaaSl
import Derived.Test.YtebiogadkamgcaaPut
namespace Go.Proofs.Ytebiogadkamgcaa
open Go.RowKit
/-- What is left to be read. -/
def N.Left (w : World) (g r : Nat) (L : List Int) : Prop := r ≠ g ∧ ∃ a c, Blok w g 47 #[.slice a L.length c] ∧ RowIn .i64 w a c L ∧ (L = [] ∨ ∀ q, a = some q → q.block = r)
theorem N.Left.below {w w' : World} {g r : Nat} {L : List Int} (h : N.Left w g r L) (hb : Below w.heap.size w w') : N.Left w' g r L := by
  obtain ⟨hr, a, c, h1, h2, h3⟩ := h
  exact ⟨hr, a, c, h1.below hb h1.lt, h2.below hb, h3⟩
theorem N.Left.kept {w w' : World} {g r b : Nat} {L : List Int} (h : N.Left w g r L) (hb : w.grownBy w' (some b)) (hg : b ≠ g) (hbr : b ≠ r) : N.Left w' g r L := by
  obtain ⟨hr, a, c, h1, h2, h3⟩ := h
  exact ⟨hr, a, c, h1.grown hb (fun e => hg (Option.some.inj e).symm), h2.kept hb (h3.imp_right fun h q hq e => hbr ((Option.some.inj e).symm.trans (h q hq))), h3⟩
theorem N.Left.grown {w w' : World} {g r : Nat} {L : List Int} {row : Option Nat} (h : N.Left w g r L) (hb : w.grownBy w' row) (hg : some g ≠ row) (hbr : some r ≠ row) : N.Left w' g r L := by
  obtain ⟨hr, a, c, h1, h2, h3⟩ := h
  exact ⟨hr, a, c, h1.grown hb hg, h2.kept hb (h3.imp_right fun h q hq => by rw [h q hq]; exact hbr), h3⟩
/-- How many are left. -/
def N.many (w : World) (g : Nat) : Nat := match w.cell? ⟨g, 0, none⟩ with | some (.slice _ n _) => n | _ => 0
theorem N.Left.many {w : World} {g r : Nat} {L : List Int} (h : N.Left w g r L) : N.many w g = L.length := by
  obtain ⟨_, a, c, h1, _, _⟩ := h
  unfold N.many
  rw [h1.cell 0]
  rfl
set_option maxRecDepth 100000 in
set_option maxHeartbeats 400000 in
theorem next_any (g r : Nat) (L : List Int) (w : World) (h : N.Left w g r L) (hL : L.length ≤ 1000) :
    Calls Try.prog 38 #[.pointer (some ⟨g, 0, none⟩)] w fun e w' => e = .returned (.int .i64 (L.headD 0)) ∧ N.Left w' g r L.tail ∧ w.grownBy w' (some g) := by
  obtain ⟨hrg, a, c, hk, hr, hne⟩ := h
  have p0 := Zv hk 0 (.slice a L.length c)
  have z0 := hk.frozen 0
  have HK := Lib.hid hk
  have HR := Lib.hid hr
  have HN := Lib.hid hne
  clear hk hr hne
  go_enter Try.func38, Try.ntmps38
  cases L with
  | nil =>
    have d0 : ((([] : List Int).length : Int) == 0) = true := rfl
    go_wp2_with fail
    go_ret
    exact ⟨rfl, ⟨hrg, a, c, HK.out, HR.out, .inl rfl⟩, rfl, rfl, rfl, Nat.le_refl _, fun _ _ _ => rfl⟩
  | cons x L =>
    obtain ⟨b, off, rfl, hb, hc⟩ := row_at HR.out (i := 0) (by simp)
    have d0 : (((L.length + 1 : Nat) : Int) == 0) = false := by simp; omega
    simp only [List.length_cons] at p0 HK
    have hc0 : w.cell? ⟨b, off, none⟩ = some (.int .i64 x) := by simpa using hc
    have hs : ∀ w, (Instr.sliceAt 40 (.slice (some ⟨b, off, none⟩) (L.length + 1) c) (some (.int .i64 1)) none none).run Try.prog w = .ok (.slice (slk 1 (some ⟨b, off, none⟩) 1 c) L.length (c - 1)) w := fun w => by
      have := slice_l (a := some ⟨b, off, none⟩) (len := L.length + 1) (cap := c) (k := 1) Try.underlying40 (fun _ => rfl) w (q := 1) (by omega)
      simpa using this
    have k0 : (0 : Int) < ((L.length + 1 : Nat) : Int) := by omega
    clear hc
    go_wp2_with fail
    go_ret
    have hg := grown_set1 w g 0 (.slice (slk 1 (some ⟨b, off, none⟩) 1 c) L.length (c - 1))
    refine ⟨rfl, ⟨hrg, _, _, by simpa using HK.out.set 0 _, ?_, ?_⟩, hg⟩
    · have hl := HR.out.1
      simp only [List.length_cons] at hl
      have h1 := row_sliced HR.out (l := 1) (h := L.length + 1) (m := c) (by omega) (by simp) (by omega) hl.2
      rw [sl_slk]
      have h2 : ((x :: L).take (L.length + 1)).drop 1 = L := by simp
      rw [h2] at h1
      refine h1.kept hg ?_
      cases L with
      | nil => exact .inl rfl
      | cons y L =>
        refine .inr fun q hq => ?_
        have hgb : b = r := (HN.out.resolve_left (by simp)) _ rfl
        unfold sl at hq
        rw [if_neg (by simp at hl; omega)] at hq
        simp [WideShapes.add_plain] at hq
        subst hq
        simpa [hgb] using hrg
    · cases L with
      | nil => exact .inl rfl
      | cons y L =>
        refine .inr fun q hq => ?_
        have hl := HR.out.1
        have hgb : b = r := (HN.out.resolve_left (by simp)) _ rfl
        unfold slk at hq
        rw [if_neg (by simp at hl; omega)] at hq
        simp [WideShapes.add_plain] at hq
        subst hq
        exact hgb
end Go.Proofs.Ytebiogadkamgcaa
