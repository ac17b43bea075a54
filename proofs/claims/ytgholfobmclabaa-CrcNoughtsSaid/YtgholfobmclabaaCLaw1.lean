/-
  Walks of moorings/mooringslaw04: awake, CrcMore, CrcNoughts: for every input they return true.
-/
import Derived.Test.YtgholfobmclabaaCSeal
import Derived.Lib.SlBytesConst
namespace Go.Proofs.Ytgholfobmclabaa
open Go.RowKit

theorem ret_bool {a b : Bool} (h : a = b) : Ending.returned (.bool a) = .returned (.bool b) := by rw [h]

/-- '[]byte("..")' reads as its bytes. -/
theorem row_const (w : World) (L : List Int) (n : Nat) (f : Nat × Nat) (hn : L.length = n) (hl : ∀ c ∈ L, (Lit.int .u8 c).wf = true) (hm : n ≤ maxLen) : RowIn .u8 (w.alloc (.cells (L.map (Value.int .u8)).toArray 5 f)) (some ⟨w.heap.size, 0, none⟩) n L := by
  refine ⟨⟨Nat.le_of_eq hn, hm⟩, hl, .inr ⟨_, 0, rfl, by simp, fun i hi => ?_⟩⟩
  rw [Nat.zero_add, cell_of_row _ w.heap.size i _ 5 f (World.alloc_heap_new w _)]
  simp [hi]

theorem sealx_any (w : World) : Calls Try.prog 16 #[.slice (some ⟨w.heap.size, 0, none⟩) 1 1] (w.alloc (.cells #[.int .u8 120] 5 (1, 2))) fun e w' => ∃ a' cap', e = .returned (.slice a' 5 cap') ∧ Hid (RowIn .u8 w' a' cap' (C.seal [120])) ∧ Below w.heap.size w w' :=
  (sealRow_any _ 1 1 [120] _ (by decide) rfl (row_const w [120] 1 (1, 2) rfl (by decide) (by decide))).mono fun e w' ⟨a', cap', h1, h2, h3⟩ => ⟨a', cap', h1, h2, ((Below.refl _ w).alloc (Nat.le_refl _) _).trans (h3.mono (by simp))⟩
theorem openx_any (a : Option Addr) (cap : Nat) (w : World) (h : RowIn .u8 w a cap (C.seal [120])) : Calls Try.prog 10 #[.slice a 5 cap] w fun e w' => ∃ a' cap', e = .returned (.tuple #[.slice a' 1 cap', .bool true]) ∧ Hid (RowIn .u8 w' a' cap' [120]) ∧ Below w.heap.size w w' :=
  (open_any a 5 cap (C.seal [120]) w (by decide) (by rw [C.seal_len]; rfl) h).mono fun e w' ⟨a', cap', n', h1, h2, h3, h4⟩ => by
    rw [C.open_seal] at h1 h2 h3
    have := h2.out
    simp at this
    subst this
    exact ⟨a', cap', h1, h3, h4⟩
theorem nine_any (w : World) : Calls Try.prog 12 #[.slice (some ⟨w.heap.size, 0, none⟩) 9 9] (w.alloc (.cells #[.int .u8 49, .int .u8 50, .int .u8 51, .int .u8 52, .int .u8 53, .int .u8 54, .int .u8 55, .int .u8 56, .int .u8 57] 5 (9, 10))) fun e w' => e = .returned (.int .u32 4236843288) ∧ Below w.heap.size w w' :=
  (sum_any _ 9 9 [49, 50, 51, 52, 53, 54, 55, 56, 57] _ rfl (row_const w _ 9 (9, 10) rfl (by decide) (by decide))).mono fun e w' ⟨h1, h3⟩ => ⟨by rw [h1]; exact ret_int (by unfold C.n; rw [C.sum_nine]; rfl), ((Below.refl _ w).alloc (Nat.le_refl _) _).trans (h3.mono (by simp))⟩
theorem sumNil_any (w : World) : Calls Try.prog 12 #[.slice none 0 0] w fun e w' => e = .returned (.int .u32 0) ∧ Below w.heap.size w w' :=
  (sum_any none 0 0 [] w rfl (row_nil _ _)).mono fun e w' ⟨h1, h3⟩ => ⟨by rw [h1]; exact ret_int (by rw [C.sum_nil]; rfl), h3⟩
theorem conv_x (w : World) (a : Option Addr) (cap : Nat) (h : RowIn .u8 w a cap [120]) : (convert 22 9 (.slice a 1 cap)).run Try.prog w = .ok (.string { data := #[120] }) w := conv_row h rfl

set_option maxRecDepth 100000 in
set_option maxHeartbeats 2000000 in
theorem awake_any (w : World) : Calls Try.prog 9 #[] w fun e w' => e = .returned (.bool true) ∧ Below w.heap.size w w' := by
  have kc := fun (w : World) (C : Array Value) (n c : Nat) => Lib.run_convert_bytes_const (P := Try.prog) w 22 5 C n c Try.underlying22 Try.underlying5
  go_enter Try.func9, Try.ntmps9
  go_wp2_with fail
  refine (sealx_any w).mono ?_
  rintro e w1 ⟨a1, c1, rfl, R1, hb1⟩
  have W1 := Lib.hid hb1
  clear hb1
  go_wp2_with fail
  refine (openx_any _ _ _ R1.out).mono ?_
  rintro e w2 ⟨a2, c2, rfl, R2, hb2⟩
  have W2 := Lib.hid (W1.out.trans (hb2.mono W1.out.size))
  clear hb2
  go_wp2_with fail
  refine (nine_any w2).mono ?_
  rintro e w3 ⟨rfl, hb3⟩
  have B3 := Lib.hid hb3
  have W3 := Lib.hid (W2.out.trans (hb3.mono W2.out.size))
  clear hb3
  go_wp2_with fail
  refine (sumNil_any _).mono ?_
  rintro e w4 ⟨rfl, hb4⟩
  have B4 := Lib.hid hb4
  have W4 := Lib.hid (W3.out.trans (hb4.mono W3.out.size))
  clear hb4
  have cx := conv_x w4 _ _ ((R2.out.below B3.out).below B4.out)
  go_wp2
  go_ret
  exact ⟨rfl, W4.out⟩
end Go.Proofs.Ytgholfobmclabaa
