/-
  Walks of moorings/disk.within, picker and what it hands out.
-/
import Derived.Test.YtcabhibbajkpkaaDSl
namespace Go.Proofs.Ytcabhibbajkpkaa
open Go.RowKit

theorem within_any (m : Int) (t : Nat) (w : World) :
    Calls Try.prog 44 #[.int .i64 m, .int .i64 (t : Int)] w fun e w' => e = .returned (.int .i64 ((D.kept m t : Nat) : Int)) ∧ w = w' := by
  by_cases h0 : m < 0
  · have HK : Hid (D.kept m t = 0) := Lib.hid (by unfold D.kept; rw [if_pos h0])
    have d0 : decide (m < 0) = true := by simp; omega
    clear h0
    go_enter Try.func44, Try.ntmps44
    go_wp2
    go_ret
    exact ⟨by rw [HK.out]; rfl, rfl⟩
  · have d0 : decide (m < 0) = false := by simp; omega
    by_cases h1 : (t : Int) < m
    · have HK : Hid (D.kept m t = t) := Lib.hid (by unfold D.kept; rw [if_neg h0, if_pos h1])
      have d1 : decide ((t : Int) < m) = true := by simp; omega
      clear h0 h1
      go_enter Try.func44, Try.ntmps44
      go_wp2
      go_ret
      exact ⟨by rw [HK.out]; rfl, rfl⟩
    · have HK : Hid (((D.kept m t : Nat) : Int) = m) := Lib.hid (by unfold D.kept; rw [if_neg h0, if_neg h1]; omega)
      have d1 : decide ((t : Int) < m) = false := by simp; omega
      clear h0 h1
      go_enter Try.func44, Try.ntmps44
      go_wp2
      go_ret
      exact ⟨by rw [HK.out]; rfl, rfl⟩

/-- The picker's two boxes: where it is, and the numbers. -/
structure PickAt (w : World) (g0 g1 : Nat) (i : Nat) (a : Option Addr) (n c : Nat) (ps : List Int) : Prop where
  ne : g0 ≠ g1
  at_ : Blok w g0 3 #[.int .i64 (i : Int)]
  list : Blok w g1 26 #[.slice a n c]
  len : ps.length = n
  row : RowIn .i64 w a c ps
  le : i ≤ n
  far : ∀ b off, a = some ⟨b, off, none⟩ → ps ≠ [] → b ≠ g0
theorem PickAt.on {w w' : World} {g0 g1 i : Nat} {a : Option Addr} {n c : Nat} {ps : List Int} (h : PickAt w g0 g1 i a n c ps) (hb : Below w.heap.size w w') : PickAt w' g0 g1 i a n c ps := ⟨h.ne, h.at_.on hb, h.list.on hb, h.len, h.row.below hb, h.le, h.far⟩

theorem picker_any (a : Option Addr) (n c : Nat) (ps : List Int) (w : World) (hl : ps.length = n) (hr : RowIn .i64 w a c ps) :
    Calls Try.prog 43 #[.slice a n c] w fun e w' => ∃ g0 g1, e = .returned (.func (.func 55) #[] #[.pointer (some ⟨g0, 0, none⟩), .pointer (some ⟨g1, 0, none⟩)]) ∧ (w.heap.size ≤ g0 ∧ w.heap.size ≤ g1) ∧ PickAt w' g0 g1 0 a n c ps ∧ Below w.heap.size w w' := by
  have HL := Lib.hid hl
  have HR := Lib.hid hr
  clear hl hr
  go_enter Try.func43, Try.ntmps43
  go_wp2
  go_ret
  have h1 : Below w.heap.size w (w.alloc (.cells #[.slice a n c] 26)) := (Below.refl _ w).alloc (Nat.le_refl _) _
  have h2 : Below w.heap.size w ((w.alloc (.cells #[.slice a n c] 26)).alloc (.cells #[.int .i64 0] 3)) := h1.alloc (by simp) _
  have hz : (w.alloc (.cells #[.slice a n c] 26)).heap.size = w.heap.size + 1 := by simp
  exact ⟨w.heap.size + 1, w.heap.size, rfl, ⟨Nat.le_succ _, Nat.le_refl _⟩, ⟨by omega, by rw [← hz]; exact Blok.new (w.alloc (.cells #[.slice a n c] 26)) 3 #[.int .i64 0], (Blok.new w 26 #[.slice a n c]).alloc _, HL.out, HR.out.below h2, Nat.zero_le _, fun b off ha h0 hb => by
    rcases HR.out.2.2 with h3 | ⟨b', off', he, hlt, _⟩
    · exact h0 h3
    · rw [ha] at he; cases he; omega⟩, h2⟩

/-- One number of them: the one there, or 0; it stores in its own box alone. -/
theorem pick_any (g0 g1 i : Nat) (a : Option Addr) (n c : Nat) (ps : List Int) (q : Int) (w : World) (h9 : n ≤ 1000) (h : PickAt w g0 g1 i a n c ps) (hq : ps.getD i 0 = q) :
    Calls Try.prog 55 #[.pointer (some ⟨g0, 0, none⟩), .pointer (some ⟨g1, 0, none⟩)] w fun e w' => e = .returned (.int .i64 q) ∧ (∃ j, ps.drop j = (ps.drop i).drop 1 ∧ PickAt w' g0 g1 j a n c ps) ∧ w.grownBy w' (some g0) := by
  have H := Lib.hid h
  have k0 : w.cell? ⟨g0, 0, none⟩ = some (.int .i64 (i : Int)) := h.at_.cell 0
  have k1 : w.cell? ⟨g1, 0, none⟩ = some (.slice a n c) := h.list.cell 0
  have f0 := h.at_.frozen 0
  have hi := h.le
  by_cases hin : i = n
  · have HG : Hid (q = 0) := Lib.hid (by rw [← hq]; simp [List.getD_eq_getElem?_getD, h.len, hin])
    have HJ : Hid (ps.drop i = (ps.drop i).drop 1) := Lib.hid (by rw [List.drop_eq_nil_of_le (by rw [h.len]; omega)]; rfl)
    have hne : ((i : Int) == (n : Int)) = true := by simp; omega
    clear h hq hin
    go_enter Try.func55, Try.ntmps55
    go_wp2
    go_ret
    exact ⟨by rw [HG.out]; rfl, ⟨i, HJ.out, H.out⟩, rfl, rfl, rfl, Nat.le_refl _, fun _ _ _ => rfl⟩
  · have hne : ((i : Int) == (n : Int)) = false := by simp; omega
    have hlt : i < n := by omega
    obtain ⟨b, off, rfl, hb, hc⟩ := row_at h.row (i := i) (by rw [h.len]; exact hlt)
    rw [hq] at hc
    have HJ : Hid (ps.drop (i + 1) = (ps.drop i).drop 1) := Lib.hid (by rw [List.drop_drop])
    have hg := setCell_grown w g0 0 (.int .i64 ((i : Int) + 1))
    have hbne : b ≠ g0 := h.far b off rfl (fun h0 => by have := h.len; rw [h0] at this; simp at this; omega)
    have hw : IntKind.i64.wrap ((i : Int) + 1) = (i : Int) + 1 := wrap_i64_small (by omega) (by omega)
    have hw2 : (i : Int) + 1 - 1 = (i : Int) := by omega
    have A1 : Blok (w.setCell ⟨g0, 0, none⟩ (.int .i64 ((i : Int) + 1))) g0 3 #[.int .i64 ((i + 1 : Nat) : Int)] := by simpa using h.at_.set 0 (.int .i64 ((i : Int) + 1))
    have A2 := h.list.grown hg (by simpa using (Ne.symm h.ne))
    have HR := row_set h.row (.inr (fun x hx => by cases hx; exact hbne)) 0 (.int .i64 ((i : Int) + 1))
    have q0 : (w.setCell ⟨g0, 0, none⟩ (.int .i64 ((i : Int) + 1))).cell? ⟨g0, 0, none⟩ = some (.int .i64 ((i : Int) + 1)) := by simpa using A1.cell 0
    have q1 : (w.setCell ⟨g0, 0, none⟩ (.int .i64 ((i : Int) + 1))).cell? ⟨g1, 0, none⟩ = some (.slice (some ⟨b, off, none⟩) n c) := A2.cell 0
    have q2 : (w.setCell ⟨g0, 0, none⟩ (.int .i64 ((i : Int) + 1))).cell? ⟨b, off + i, none⟩ = some (.int .i64 q) := (cell_set_far (p := ⟨b, off + i, none⟩) hbne).trans hc
    have HP : Hid (PickAt (w.setCell ⟨g0, 0, none⟩ (.int .i64 ((i : Int) + 1))) g0 g1 (i + 1) (some ⟨b, off, none⟩) n c ps) := Lib.hid ⟨h.ne, A1, A2, h.len, HR, hlt, h.far⟩
    have HG := Lib.hid hg
    have hcap : n ≤ c ∧ c ≤ maxLen := by have h1 := h.row.1; have h2 := h.len; omega
    clear h hq hin A1 A2 HR hg hbne
    go_enter Try.func55, Try.ntmps55
    go_wp2
    go_ret
    exact ⟨rfl, ⟨i + 1, HJ.out, HP.out⟩, HG.out⟩
end Go.Proofs.Ytcabhibbajkpkaa
