/-
  A walk of the package sort's reverseRange_func.
-/
import Derived.Test.YtmegkfonodcoiaaSKit
namespace Go.Proofs.Ytmegkfonodcoiaa
open Go.RowKit Go.Sort
variable {α : Type} [Inhabited α] {lt : α → α → Bool} {l : Nat} {la lb : Array Value} {s : Nat} {sb : Array Value} {g n : Nat} {Sw : Array α → World → Prop}
theorem reverse_go {i j : Nat} {d : Array α} (h : i < j) : reverseLoop i j d = reverseLoop (i + 1) (j - 1) (swp d i j) := by rw [reverseLoop, if_pos h]
theorem reverse_end {i j : Nat} {d : Array α} (h : ¬ i < j) : reverseLoop i j d = d := by rw [reverseLoop, if_neg h]

set_option maxRecDepth 100000 in
set_option maxHeartbeats 400000 in
theorem reverse_any (S : SortBy lt l la lb s sb g n Sw) (a b : Nat) (d : Array α) (w : World) (hab : a < b) (hb : b ≤ n) (h : Sw d w) :
    Calls Try.prog 59 #[.agg #[.func (.func l) la lb, .func (.func s) #[] sb], .int .i64 a, .int .i64 b] w fun e w' => e = .returned (.tuple #[]) ∧ Hid (Sw (reverseRange d a b) w') ∧ Hid (w.grownBy w' (some g)) := by
  have BX : Hid (Blok (w.alloc (.cells #[.func (.func l) la lb, .func (.func s) #[] sb] 73)) w.heap.size 73 #[.func (.func l) la lb, .func (.func s) #[] sb]) := Lib.hid (Blok.new _ _ _)
  have GX : Hid (w.grownBy (w.alloc (.cells #[.func (.func l) la lb, .func (.func s) #[] sb] 73)) none) := Lib.hid (World.grownBy_alloc _ _ _)
  have H1 := Lib.hid (S.keep h GX.out (by simp))
  have SS := Lib.hid S
  have hm := S.most
  have hgw := S.inb h
  clear h S
  go_enter Try.func59, Try.ntmps59
  go_wp2_with fail
  go_loopw [6, 7] (fun i j wr => ∃ (x y : Nat) (dk : Array α), i = .int .i64 x ∧ j = .int .i64 y ∧ x ≤ y + 1 ∧ y < b ∧ Hid (reverseLoop x y dk = reverseRange d a b) ∧ Hid (Sw dk wr) ∧ Hid (Blok wr w.heap.size 73 #[.func (.func l) la lb, .func (.func s) #[] sb]) ∧ Hid (w.grownBy wr (some g))) (fun i j _ => (intOf j + 1 - intOf i).toNat)
  case atStart => exact ⟨a, b - 1, d, by go_num, by go_num, by omega, by omega, Lib.hid rfl, H1, BX, Lib.hid (grown_none GX.out)⟩
  case round =>
    obtain ⟨x, y, dk, rfl, rfl, hxy, hyb, HO, HS, HB, HG⟩ := hrel
    by_cases hlt : x < y
    · have d1 : decide ((x : Int) < y) = true := by simp; omega
      obtain ⟨w7, hr, HS7, HG7⟩ := SS.out.swap x y HS.out (by omega) (by omega)
      have HS7 := Lib.hid HS7
      have HG8 := Lib.hid (HG.out.trans HG7)
      have HB8 := Lib.hid (HB.out.grown HG7 (by simp; omega))
      have c1 := HB.out.at1
      clear HG7
      go_wp2
      go_roundw
      case rel => exact ⟨x + 1, y - 1, swp dk x y, by go_num, by go_num, by omega, by omega, Lib.hid (by rw [← HO.out, reverse_go hlt]), HS7, HB8, HG8⟩
      case measure => simp [intOf] <;> omega
    · have d1 : decide ((x : Int) < y) = false := by simp; omega
      have HE : Hid (dk = reverseRange d a b) := Lib.hid (by rw [← HO.out, reverse_end hlt])
      go_wp2
      go_end0
      exact ⟨rfl, Lib.hid (by rw [← HE.out]; exact HS.out), HG⟩
end Go.Proofs.Ytmegkfonodcoiaa
