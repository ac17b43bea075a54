/-
  Walks of moorings/vari.isNumber and moorings/vari.Put: a number's bytes, in a slice of the call's own; none for what is no number. No condition.
-/
import Derived.Test.YtebiogadkamgcaaVPutM
namespace Go.Proofs.Ytebiogadkamgcaa
open Go.RowKit

theorem isNumber_yes (n : Int) (w : World) (h0 : 0 ≤ n) (h1 : n ≤ 1099511627776) :
    Calls Try.prog 34 #[.int .i64 n] w fun e w' => e = .returned (.bool true) ∧ w = w' := by
  go_enter Try.func34, Try.ntmps34
  go_wp2
  go_ret
  exact ⟨rfl, rfl⟩

theorem isNumber_no (n : Int) (w : World) (h : ¬ (0 ≤ n ∧ n ≤ 1099511627776)) :
    Calls Try.prog 34 #[.int .i64 n] w fun e w' => e = .returned (.bool false) ∧ w = w' := by
  by_cases h0 : 0 ≤ n
  · have h1 : decide (n ≤ 1099511627776) = false := by simp; omega
    clear h
    go_enter Try.func34, Try.ntmps34
    go_wp2
    go_ret
    exact ⟨rfl, rfl⟩
  · have h1 : n < 0 := by omega
    clear h h0
    go_enter Try.func34, Try.ntmps34
    go_wp2
    go_ret
    exact ⟨rfl, rfl⟩

theorem put_no_any (n : Int) (w : World) (h : ¬ (0 ≤ n ∧ n ≤ 1099511627776)) :
    Calls Try.prog 35 #[.int .i64 n] w (PutIs w.heap.size n w) := by
  have hp := M.put_no h
  have H := Lib.hid h; clear h
  go_enter Try.func35, Try.ntmps35
  go_wp2_with (go_at_call 34; refine (isNumber_no _ _ H.out).mono ?_; rintro e w' ⟨rfl, rfl⟩)
  go_ret
  exact ⟨_, rfl, by rw [hp]; exact World.ownsRow_nil _ _ _ _, Below.refl _ _⟩

set_option maxRecDepth 100000 in
set_option maxHeartbeats 800000 in
theorem put_yes_any (n : Int) (w : World) (h0 : 0 ≤ n) (h1 : n ≤ 1099511627776) :
    Calls Try.prog 35 #[.int .i64 n] w (PutIs w.heap.size n w) := by
  obtain ⟨i0, hi, hz0, hz1, hz2⟩ := info_parts info5
  have hp6 := M.puts_len6 (n := n.toNat) (by omega)
  have HP : Hid (M.put n = M.puts n.toNat) := Lib.hid (M.put_yes h0 h1)
  go_enter Try.func35, Try.ntmps35
  go_wp2_with (go_at_call 34; refine (isNumber_yes _ _ h0 h1).mono ?_; rintro e w' ⟨rfl, rfl⟩)
  go_loopw [0, 3] (fun x v wr => ∃ (m : Nat) (acc : List Int), x = .int .i64 m ∧ m ≤ 1099511627776 ∧ Hid (acc ++ M.puts m = M.puts n.toNat) ∧ wr.ownsRow w.heap.size 5 1 v acc.length (acc.map (Value.int .u8)) ∧ Below w.heap.size w wr) (fun x _ _ => (intOf x).toNat)
  case atStart => exact ⟨n.toNat, [], by rw [Int.toNat_of_nonneg h0], by omega, Lib.hid rfl, World.ownsRow_nil _ _ _ _, Below.refl _ _⟩
  case round =>
    obtain ⟨m, acc, rfl, hm, HA, hown, hB⟩ := hrel
    have hla : acc.length ≤ 6 := by have := congrArg List.length HA.out; simp at this; omega
    have hBs := hB.size
    by_cases hge : 128 ≤ m
    · have hmod : (m : Int) % 128 < 128 := by omega
      go_wp2_with (at_builtin; refine wpList_append_own _ rfl _ _ 23 rfl w.heap.size 5 i0 (.int .u8 0) 1 1 Try.underlying23 hi hz0 hz1 hz2 rfl (by decide) _ _ _ rfl (hown.alloc _) ⟨wr.heap.size, 0, none⟩ 1 1 [.int .u8 ((m : Int) % 128 + 128)] rfl rfl (cell_one_new _ _ _) (by simp [Value.oneCell']) (by unfold maxLen; omega) (by omega) (by simp; omega) ?_; intro v' w1 hown' hgrow _)
      go_roundw
      case rel => exact ⟨m / 128, acc ++ [(m : Int) % 128 + 128], by go_num, by omega, Lib.hid (by rw [← HA.out, M.puts_ge hge]; simp), by simpa using hown', below_appended hown (by omega) hB hgrow⟩
      case measure => simp [intOf]; omega
    · have hlt : (m : Int) < 128 := by omega
      go_wp2_with (at_builtin; refine wpList_append_own _ rfl _ _ 23 rfl w.heap.size 5 i0 (.int .u8 0) 1 1 Try.underlying23 hi hz0 hz1 hz2 rfl (by decide) _ _ _ rfl (hown.alloc _) ⟨wr.heap.size, 0, none⟩ 1 1 [.int .u8 (m : Int)] rfl rfl (cell_one_new _ _ _) (by simp [Value.oneCell']) (by unfold maxLen; omega) (by omega) (by simp; omega) ?_; intro v' w1 hown' hgrow _)
      go_ret
      refine ⟨_, rfl, ?_, below_appended hown (by omega) hB hgrow⟩
      rw [HP.out, ← HA.out, M.puts_lt (by omega)]
      simpa using hown'
theorem put_any (n : Int) (w : World) : Calls Try.prog 35 #[.int .i64 n] w (PutIs w.heap.size n w) := by
  by_cases h : 0 ≤ n ∧ n ≤ 1099511627776
  · exact put_yes_any n w h.1 h.2
  · exact put_no_any n w h

/-- What Put tells, as a slice. -/
theorem putRow_any (n : Int) (w : World) : Calls Try.prog 35 #[.int .i64 n] w fun e w' => ∃ a cap n', e = .returned (.slice a n' cap) ∧ Hid ((M.put n).length = n') ∧ Hid (RowIn .u8 w' a cap (M.put n)) ∧ Below w.heap.size w w' :=
  (put_any n w).mono fun e w' ⟨v, he, ho, hb⟩ => by
    obtain ⟨a', cap', rfl, _, hr⟩ := ownsRow_rowIn ho (put_wf n)
    exact ⟨a', cap', _, he, rfl, hr, hb⟩
end Go.Proofs.Ytebiogadkamgcaa
