/-
  VariBack's walk, for every input, out of its parts.
-/
import Derived.Test.YthedkcbkalifgaaBack
namespace Go.Proofs.Ythedkcbkalifgaa
open Go.RowKit

theorem back_short (n p : Int) (a1 a2 : Option Addr) (l1 l2 c1 c2 : Nat) (w : World) (h : 500 < l1 ∨ (l1 ≤ 500 ∧ 500 < l2)) :
    Calls Try.prog 4 #[.int .i64 n, .slice a1 l1 c1, .slice a2 l2 c2, .int .i64 p] w fun e w' => e = .returned (.bool true) ∧ Below w.heap.size w w' := by
  rcases h with h1 | ⟨h1, h3⟩
  · have d1 : decide (500 < (l1 : Int)) = true := by simp; omega
    go_enter Try.func4, Try.ntmps4
    go_wp2_with fail
    refine (awake_any _).mono ?_
    rintro e w1 ⟨rfl, hb1⟩
    have hb : Hid (Below w.heap.size w w1) := Lib.hid hb1
    clear hb1
    go_wp2
    go_ret
    exact ⟨rfl, hb.out⟩
  · have d1 : decide (500 < (l1 : Int)) = false := by simp; omega
    have d3 : decide (500 < (l2 : Int)) = true := by simp; omega
    go_enter Try.func4, Try.ntmps4
    go_wp2_with fail
    refine (awake_any _).mono ?_
    rintro e w1 ⟨rfl, hb1⟩
    have hb : Hid (Below w.heap.size w w1) := Lib.hid hb1
    clear hb1
    go_wp2
    go_ret
    exact ⟨rfl, hb.out⟩

theorem back_any (n p : Int) (a1 a2 : Option Addr) (l1 l2 c1 c2 : Nat) (z1 z2 : List Int) (w : World) (w1 : IsRow .u8 w a1 l1 c1 z1) (w2 : IsRow .u8 w a2 l2 c2 z2) :
    Calls Try.prog 4 #[.int .i64 n, .slice a1 l1 c1, .slice a2 l2 c2, .int .i64 p] w fun e w' => e = .returned (.bool true) ∧ Below w.heap.size w w' := by
  by_cases h1 : 500 < l1
  · exact back_short n p a1 a2 l1 l2 c1 c2 w (.inl h1)
  · by_cases h3 : 500 < l2
    · exact back_short n p a1 a2 l1 l2 c1 c2 w (.inr ⟨by omega, h3⟩)
    · have r2 := w2.rowIn.1
      have hl2 := w2.rowIn.2
      by_cases hp : p < 0
      · exact back_none n p a1 a2 l1 l2 c1 c2 _ _ w w1.rowIn.2 hl2 w1.rowIn.1 r2 w1.nil w2.nil (by omega) (by omega) (get_neg hp)
      · obtain ⟨q, rfl⟩ : ∃ q : Nat, p = q := ⟨p.toNat, by omega⟩
        cases hh : M.head ((z2.take l2).drop q) with
        | none => exact back_none n q a1 a2 l1 l2 c1 c2 _ _ w w1.rowIn.2 hl2 w1.rowIn.1 r2 w1.nil w2.nil (by omega) (by omega) (get_none hh)
        | some r =>
          obtain ⟨m, e⟩ := r
          obtain ⟨_, ht, _, hle, he0⟩ := head_sound (fun c hc => byte_of r2.2.1 c (List.mem_of_mem_drop hc)) hh
          rw [List.length_drop, hl2] at hle
          rcases r2.2.2 with h0 | ⟨bb, off, rfl, _⟩
          · rw [h0] at hl2
            simp at hl2
            omega
          · exact back_some n a1 l1 l2 c1 c2 bb off q e m _ _ w w1.rowIn.2 hl2 w1.rowIn.1 r2 w1.nil (by omega) (by omega) (get_some hh) he0 (by omega) ht
end Go.Proofs.Ythedkcbkalifgaa
