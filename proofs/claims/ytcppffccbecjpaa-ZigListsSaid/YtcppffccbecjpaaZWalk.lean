/-
  Walks of package moorings/zig: Zig, Zag, isListed, the closures stepper and summer, Steps, Sums. No condition but on what a closure is handed.
-/
import Derived.Test.YtcppffccbecjpaaZMath
import Derived.Test.YtcppffccbecjpaaBlok
import Derived.Test.YtcppffccbecjpaaVAll
import Derived.Test.YtcppffccbecjpaaVRead
namespace Go.Proofs.Ytcppffccbecjpaa
open Go.RowKit

theorem ret_int {k : IntKind} {a b : Int} (h : a = b) : Ending.returned (.int k a) = .returned (.int k b) := by rw [h]

theorem zig_any (n : Int) (w : World) : Calls Try.prog 9 #[.int .i64 n] w fun e w' => e = .returned (.int .i64 (Z.zig n)) ∧ w = w' := by
  by_cases h : -274877906944 ≤ n ∧ n ≤ 274877906944
  · have hz := Lib.hid (Z.zig_in h)
    obtain ⟨h1, h2⟩ := h
    have d1 : ¬ n < -274877906944 := by omega
    have d2 : decide (274877906944 < n) = false := by simp; omega
    by_cases h0 : n < 0
    · go_enter Try.func9, Try.ntmps9
      go_wp2
      go_ret
      exact ⟨ret_int (by rw [hz.out, if_pos h0]), rfl⟩
    · go_enter Try.func9, Try.ntmps9
      go_wp2
      go_ret
      exact ⟨ret_int (by rw [hz.out, if_neg (by omega)]), rfl⟩
  · have hz := Lib.hid (Z.zig_out h)
    by_cases h0 : n < -274877906944
    · clear h
      go_enter Try.func9, Try.ntmps9
      go_wp2
      go_ret
      exact ⟨ret_int (by rw [hz.out]), rfl⟩
    · have h1 : 274877906944 < n := by omega
      clear h
      go_enter Try.func9, Try.ntmps9
      go_wp2
      go_ret
      exact ⟨ret_int (by rw [hz.out]), rfl⟩

theorem zag_any (k : Int) (w : World) : Calls Try.prog 10 #[.int .i64 k] w fun e w' => e = .returned (.int .i64 (Z.zag k)) ∧ w = w' := by
  by_cases h : 0 ≤ k ∧ k ≤ 549755813888
  · have hz : Hid (Z.zag k = if k % 2 = 1 then -((k + 1) / 2) else k / 2) := Lib.hid (by unfold Z.zag; rw [if_neg (by omega)])
    obtain ⟨h1, h2⟩ := h
    have d1 : ¬ k < 0 := by omega
    have d2 : decide (549755813888 < k) = false := by simp; omega
    by_cases h0 : k % 2 = 1
    · have d3 : (k % 2 == 1) = true := by simpa using h0
      have H0 := Lib.hid h0
      clear h0
      go_enter Try.func10, Try.ntmps10
      go_wp2
      go_ret
      exact ⟨ret_int (by rw [hz.out, if_pos H0.out, Int.tdiv_eq_ediv_of_nonneg (by omega)]; exact (IntWalk.wrap64_in _ ⟨by omega, by omega⟩)), rfl⟩
    · have d3 : (k % 2 == 1) = false := by simpa using h0
      have H0 := Lib.hid h0
      clear h0
      go_enter Try.func10, Try.ntmps10
      go_wp2
      go_ret
      exact ⟨ret_int (by rw [hz.out, if_neg H0.out]), rfl⟩
  · have hz : Hid (Z.zag k = 0) := Lib.hid (by unfold Z.zag; rw [if_pos (by omega)])
    by_cases h0 : k < 0
    · clear h
      go_enter Try.func10, Try.ntmps10
      go_wp2
      go_ret
      exact ⟨ret_int (by rw [hz.out]), rfl⟩
    · have h1 : 549755813888 < k := by omega
      clear h
      go_enter Try.func10, Try.ntmps10
      go_wp2
      go_ret
      exact ⟨ret_int (by rw [hz.out]), rfl⟩

theorem listed_yes (n : Int) (w : World) (h : Z.isl n) : Calls Try.prog 15 #[.int .i64 n] w fun e w' => e = .returned (.bool true) ∧ w = w' := by
  obtain ⟨h0, h1⟩ := h
  go_enter Try.func15, Try.ntmps15
  go_wp2
  go_ret
  exact ⟨rfl, rfl⟩
theorem listed_no (n : Int) (w : World) (h : ¬ Z.isl n) : Calls Try.prog 15 #[.int .i64 n] w fun e w' => e = .returned (.bool false) ∧ w = w' := by
  unfold Z.isl at h
  by_cases h0 : 0 ≤ n
  · have h1 : decide (n < 274877906944) = false := by simp; omega
    clear h
    go_enter Try.func15, Try.ntmps15
    go_wp2
    go_ret
    exact ⟨rfl, rfl⟩
  · have h1 : n < 0 := by omega
    clear h h0
    go_enter Try.func15, Try.ntmps15
    go_wp2
    go_ret
    exact ⟨rfl, rfl⟩
theorem listed_any (n : Int) (w : World) : Calls Try.prog 15 #[.int .i64 n] w fun e w' => e = .returned (.bool (decide (Z.isl n))) ∧ w = w' := by
  by_cases h : Z.isl n
  · rw [decide_eq_true h]; exact listed_yes n w h
  · rw [decide_eq_false h]; exact listed_no n w h

theorem stepper_any (w : World) : Calls Try.prog 14 #[] w fun e w' => e = .returned (.func (.func 19) #[] #[.pointer (some ⟨w.heap.size, 0, none⟩)]) ∧ w' = w.alloc (.cells #[.int .i64 0] 3) := by
  go_enter Try.func14, Try.ntmps14
  go_wp2
  go_ret
  exact ⟨rfl, rfl⟩

theorem step_any (n p : Int) (B : Nat) (w : World) (hn : Z.isl n) (hp : Z.isl p) (hb : Blok w B 3 #[.int .i64 p]) :
    Calls Try.prog 19 #[.int .i64 n, .pointer (some ⟨B, 0, none⟩)] w fun e w' => e = .returned (.int .i64 (Z.zig (n - p))) ∧ w' = w.setCell ⟨B, 0, none⟩ (.int .i64 n) := by
  obtain ⟨n0, n1⟩ := hn
  obtain ⟨p0, p1⟩ := hp
  have c0 : w.cell? ⟨B, 0, none⟩ = some (.int .i64 p) := hb.cell 0
  have f0 : w.frozen? ⟨B, 0, none⟩ = false := hb.frozen 0
  go_enter Try.func19, Try.ntmps19
  go_wp2_with (go_at_call 9; refine (zig_any _ _).mono ?_; rintro e w' ⟨rfl, rfl⟩)
  go_ret
  exact ⟨rfl, rfl⟩
end Go.Proofs.Ytcppffccbecjpaa
