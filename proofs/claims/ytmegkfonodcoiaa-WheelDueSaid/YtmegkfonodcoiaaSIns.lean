/-
  A walk of the package sort's insertionSort_func.
-/
import Derived.Test.YtmegkfonodcoiaaSKit
namespace Go.Proofs.Ytmegkfonodcoiaa
open Go.RowKit Go.Sort
variable {α : Type} [Inhabited α] {lt : α → α → Bool} {l : Nat} {la lb : Array Value} {s : Nat} {sb : Array Value} {g n : Nat} {Sw : Array α → World → Prop}

set_option maxRecDepth 100000 in
set_option maxHeartbeats 400000 in
theorem sins_any (S : SortBy lt l la lb s sb g n Sw) (a b : Nat) (d : Array α) (w : World) (hab : a ≤ b) (hb : b ≤ n) (h : Sw d w) :
    Calls Try.prog 55 #[.agg #[.func (.func l) la lb, .func (.func s) #[] sb], .int .i64 a, .int .i64 b] w fun e w' => e = .returned (.tuple #[]) ∧ Hid (Sw (insertionSort lt d a b) w') ∧ Hid (w.grownBy w' (some g)) := by
  have hm := S.most
  have hgw := S.inb h
  have BX : Hid (Blok (w.alloc (.cells #[.func (.func l) la lb, .func (.func s) #[] sb] 73)) w.heap.size 73 #[.func (.func l) la lb, .func (.func s) #[] sb]) := Lib.hid (Blok.new _ _ _)
  have GX : Hid (w.grownBy (w.alloc (.cells #[.func (.func l) la lb, .func (.func s) #[] sb] 73)) none) := Lib.hid (World.grownBy_alloc _ _ _)
  have H1 := Lib.hid (S.keep h GX.out (by simp))
  have SS := Lib.hid S
  clear h S
  go_enter Try.func55, Try.ntmps55
  go_wp2_with fail
  go_loopw [6] (fun i wr => ∃ (k : Nat) (dk : Array α), i = .int .i64 k ∧ a < k ∧ k ≤ b + 1 ∧ Hid (insOuter lt a b k dk = insertionSort lt d a b) ∧ Hid (Sw dk wr) ∧ Hid (Blok wr w.heap.size 73 #[.func (.func l) la lb, .func (.func s) #[] sb]) ∧ Hid (w.grownBy wr (some g))) (fun i _ => b + 1 - (intOf i).toNat)
  case atStart => exact ⟨a + 1, d, by go_num, by omega, by omega, Lib.hid rfl, H1, BX, Lib.hid (grown_none GX.out)⟩
  case round =>
    obtain ⟨k, dk, rfl, hak, hkb, HO, HS, HB, HG⟩ := hrel
    by_cases hlt : k < b
    · have d1 : decide ((k : Int) < b) = true := by simp; omega
      go_wp2_with fail
      go_loopw [7] (fun i wr2 => ∃ (j : Nat) (dj : Array α), i = .int .i64 j ∧ a ≤ j ∧ j ≤ k ∧ Hid (insInner lt a j dj = insInner lt a k dk) ∧ Hid (Sw dj wr2) ∧ Hid (Blok wr2 w.heap.size 73 #[.func (.func l) la lb, .func (.func s) #[] sb]) ∧ Hid (w.grownBy wr2 (some g))) (fun i _ => (intOf i).toNat)
      case atStart => exact ⟨k, dk, rfl, by omega, by omega, Lib.hid rfl, HS, HB, HG⟩
      case round =>
        obtain ⟨j, dj, rfl, haj, hjk, HI, HSj, HBj, HGj⟩ := hrel
        have c0 := HBj.out.at0
        have c1 := HBj.out.at1
        have OUT : (j ≤ a ∨ lt dj[j]! dj[j - 1]! = false) → insOuter lt a b (k + 1) dj = insertionSort lt d a b := fun h => by
          rw [← HO.out, insOuter_go lt a b k dk hlt, ← HI.out, insInner_stop lt a j dj h]
        by_cases hja : a < j
        · have d2 : decide ((a : Int) < j) = true := by simp; omega
          obtain ⟨p, hp⟩ : ∃ p, lt dj[j]! dj[j - 1]! = p := ⟨_, rfl⟩
          have hl := SS.out.lesses j (j - 1) HSj.out (by omega) (by omega) hp
          rw [show (((j - 1 : Nat) : Int)) = (j : Int) - 1 by omega] at hl
          have eg := SS.out.enters
          have HP := Lib.hid hp
          have OU := Lib.hid OUT
          clear hp OUT
          go_wp2_with fail
          refine hl.mono ?_
          rintro e w3 ⟨rfl, HS3, HG3⟩
          clear hl
          have HG4 := Lib.hid (HGj.out.trans (grown_none HG3.out))
          have HB4 := Lib.hid (HBj.out.grown HG3.out (by simp))
          clear c0 c1
          have c0 := HB4.out.at0
          have c1 := HB4.out.at1
          cases p with
          | false =>
            go_wp2
            go_roundw
            case rel => exact ⟨k + 1, dj, by go_num, by omega, by omega, Lib.hid (OU.out (.inr HP.out)), HS3, HB4, HG4⟩
            case measure => simp [intOf]; omega
          | true =>
            obtain ⟨w5, hr, HS5, HG5⟩ := SS.out.swap j (j - 1) HS3.out (by omega) (by omega)
            rw [show (((j - 1 : Nat) : Int)) = (j : Int) - 1 by omega] at hr
            have HS5 := Lib.hid HS5
            have HG6 := Lib.hid (HG4.out.trans HG5)
            have HB6 := Lib.hid (HB4.out.grown HG5 (by simp; omega))
            clear HG5
            go_wp2
            go_roundw
            case rel => exact ⟨j - 1, swp dj j (j - 1), by go_num, by omega, by omega, Lib.hid (by rw [← HI.out, insInner_go lt a j dj hja HP.out]), HS5, HB6, HG6⟩
            case measure => simp [intOf]; omega
        · have d2 : decide ((a : Int) < j) = false := by simp; omega
          have OU := Lib.hid (OUT (.inl (by omega)))
          clear OUT
          go_wp2
          go_roundw
          case rel => exact ⟨k + 1, dj, by go_num, by omega, by omega, OU, HSj, HBj, HGj⟩
          case measure => simp [intOf]; omega
    · have d1 : decide ((k : Int) < b) = false := by simp; omega
      have HE : Hid (dk = insertionSort lt d a b) := Lib.hid (by rw [← HO.out, insOuter_stop lt a b k dk hlt])
      go_wp2
      go_end0
      exact ⟨rfl, Lib.hid (by rw [← HE.out]; exact HS.out), HG⟩
end Go.Proofs.Ytmegkfonodcoiaa
