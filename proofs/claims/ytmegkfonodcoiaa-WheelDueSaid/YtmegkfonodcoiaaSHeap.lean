/-
  Walks of the package sort's siftDown_func and heapSort_func.
-/
import Derived.Test.YtmegkfonodcoiaaSKit
namespace Go.Proofs.Ytmegkfonodcoiaa
open Go.RowKit Go.Sort
variable {α : Type} [Inhabited α] {lt : α → α → Bool} {l : Nat} {la lb : Array Value} {s : Nat} {sb : Array Value} {g n : Nat} {Sw : Array α → World → Prop}

/-- The child that siftDown takes. -/
def kid (lt : α → α → Bool) (hi first root : Nat) (d : Array α) : Nat := if 2 * root + 1 + 1 < hi && lt d[first + (2 * root + 1)]! d[first + (2 * root + 1) + 1]! then 2 * root + 2 else 2 * root + 1
theorem kid_one {hi first root : Nat} {d : Array α} (h : ¬ 2 * root + 2 < hi ∨ lt d[first + (2 * root + 1)]! d[first + (2 * root + 2)]! = false) : kid lt hi first root d = 2 * root + 1 := by
  unfold kid
  rcases h with h | h
  · rw [if_neg (by simp; omega)]
  · rw [if_neg (by rw [show first + (2 * root + 1) + 1 = first + (2 * root + 2) by omega, h]; simp)]
theorem kid_two {hi first root : Nat} {d : Array α} (h : 2 * root + 2 < hi) (h2 : lt d[first + (2 * root + 1)]! d[first + (2 * root + 2)]! = true) : kid lt hi first root d = 2 * root + 2 := by
  unfold kid
  rw [if_pos (by rw [show first + (2 * root + 1) + 1 = first + (2 * root + 2) by omega, h2]; simp; omega)]
theorem sift_end {hi first root : Nat} {d : Array α} (h : ¬ 2 * root + 1 < hi) : siftDown lt hi first root d = d := by rw [siftDown]; simp [show 2 * root + 1 ≥ hi by omega]
theorem sift_stop {hi first root c : Nat} {d : Array α} (h : 2 * root + 1 < hi) (hc : kid lt hi first root d = c) (h2 : lt d[first + root]! d[first + c]! = false) : siftDown lt hi first root d = d := by
  rw [siftDown, dif_neg (by omega)]
  unfold kid at hc
  split at hc
  · rename_i h3; subst hc; rw [if_pos h3, if_pos (by simp [h2])]
  · rename_i h3; subst hc; rw [if_neg h3, if_pos (by simp [h2])]
theorem sift_go {hi first root c : Nat} {d : Array α} (h : 2 * root + 1 < hi) (hc : kid lt hi first root d = c) (h2 : lt d[first + root]! d[first + c]! = true) : siftDown lt hi first root d = siftDown lt hi first c (swp d (first + root) (first + c)) := by
  rw [siftDown, dif_neg (by omega)]
  unfold kid at hc
  split at hc
  · rename_i h3; subst hc; rw [if_pos h3, if_neg (by simp [h2]), dif_pos (by simp at h3; omega)]
  · rename_i h3; subst hc; rw [if_neg h3, if_neg (by simp [h2])]

set_option maxRecDepth 100000 in
set_option maxHeartbeats 400000 in
theorem sift_any (S : SortBy lt l la lb s sb g n Sw) (lo hi first : Nat) (d : Array α) (w : World) (hn : first + hi ≤ n) (hlo : lo ≤ hi) (h : Sw d w) :
    Calls Try.prog 63 #[.agg #[.func (.func l) la lb, .func (.func s) #[] sb], .int .i64 lo, .int .i64 hi, .int .i64 first] w fun e w' => e = .returned (.tuple #[]) ∧ Hid (Sw (siftDown lt hi first lo d) w') ∧ Hid (w.grownBy w' (some g)) := by
  have BX : Hid (Blok (w.alloc (.cells #[.func (.func l) la lb, .func (.func s) #[] sb] 73)) w.heap.size 73 #[.func (.func l) la lb, .func (.func s) #[] sb]) := Lib.hid (Blok.new _ _ _)
  have GX : Hid (w.grownBy (w.alloc (.cells #[.func (.func l) la lb, .func (.func s) #[] sb] 73)) none) := Lib.hid (World.grownBy_alloc _ _ _)
  have H1 := Lib.hid (S.keep h GX.out (by simp))
  have SS := Lib.hid S
  have hm := S.most
  have hgw := S.inb h
  have eg := S.enters
  clear h S
  go_enter Try.func63, Try.ntmps63
  go_wp2_with fail
  go_loopw [8] (fun i wr => ∃ (r : Nat) (dk : Array α), i = .int .i64 r ∧ r ≤ hi ∧ Hid (siftDown lt hi first r dk = siftDown lt hi first lo d) ∧ Hid (Sw dk wr) ∧ Hid (Blok wr w.heap.size 73 #[.func (.func l) la lb, .func (.func s) #[] sb]) ∧ Hid (w.grownBy wr (some g))) (fun i _ => hi - (intOf i).toNat)
  case atStart => exact ⟨lo, d, by go_num, by omega, Lib.hid rfl, H1, BX, Lib.hid (grown_none GX.out)⟩
  case round =>
    obtain ⟨r, dk, rfl, hrh, HO, HS, HB, HG⟩ := hrel
    by_cases hlt : 2 * r + 1 < hi
    · have d1 : decide ((hi : Int) ≤ 2 * (r : Int) + 1) = false := by simp; omega
      by_cases hl2 : 2 * r + 2 < hi
      · have d2 : decide (2 * (r : Int) + 1 + 1 < (hi : Int)) = true := by simp; omega
        obtain ⟨p, hp⟩ : ∃ p, lt dk[first + (2 * r + 1)]! dk[first + (2 * r + 2)]! = p := ⟨_, rfl⟩
        have hl := SS.out.lesses (first + (2 * r + 1)) (first + (2 * r + 2)) HS.out (by omega) (by omega) hp
        rw [show ((first + (2 * r + 1) : Nat) : Int) = (first : Int) + (2 * r + 1) by omega, show ((first + (2 * r + 2) : Nat) : Int) = (first : Int) + (2 * r + 1) + 1 by omega] at hl
        have HP := Lib.hid hp
        clear hp
        have c0 := HB.out.at0
        go_wp2_with fail
        refine hl.mono ?_
        rintro e w3 ⟨rfl, HS3, HG3⟩
        clear hl c0
        have HG4 := Lib.hid (HG.out.trans (grown_none HG3.out))
        have HB4 := Lib.hid (HB.out.grown HG3.out (by simp))
        have HS4 := HS3
        cases p with
        | false =>
          obtain ⟨p2, hp2⟩ : ∃ p, lt dk[first + r]! dk[first + (2 * r + 1)]! = p := ⟨_, rfl⟩
          have hl2 := SS.out.lesses (first + r) (first + (2 * r + 1)) HS4.out (by omega) (by omega) hp2
          rw [show ((first + r : Nat) : Int) = (first : Int) + r by omega, show ((first + (2 * r + 1) : Nat) : Int) = (first : Int) + (2 * r + 1) by omega] at hl2
          have HP2 := Lib.hid hp2
          clear hp2
          have c0 := HB4.out.at0
          go_wp2_with fail
          refine hl2.mono ?_
          rintro e w5 ⟨rfl, HS5, HG5⟩
          clear hl2 c0
          have HG6 := Lib.hid (HG4.out.trans (grown_none HG5.out))
          have HB6 := Lib.hid (HB4.out.grown HG5.out (by simp))
          have c1 := HB6.out.at1
          cases p2 with
          | false =>
            have HE : Hid (dk = siftDown lt hi first lo d) := Lib.hid (by rw [← HO.out, sift_stop hlt (kid_one (.inr HP.out)) HP2.out])
            go_wp2
            refine bodyPost_ret (results_none rfl _ _ _) rfl ?_
            exact ⟨rfl, Lib.hid (by rw [← HE.out]; exact HS5.out), HG6⟩
          | true =>
            obtain ⟨w7, hr, HS7, HG7⟩ := SS.out.swap (first + r) (first + (2 * r + 1)) HS5.out (by omega) (by omega)
            rw [show ((first + r : Nat) : Int) = (first : Int) + r by omega, show ((first + (2 * r + 1) : Nat) : Int) = (first : Int) + (2 * r + 1) by omega] at hr
            have HS7 := Lib.hid HS7
            have HG8 := Lib.hid (HG6.out.trans HG7)
            have HB8 := Lib.hid (HB6.out.grown HG7 (by simp; omega))
            clear HG7
            go_wp2
            go_roundw
            case rel => exact ⟨2 * r + 1, swp dk (first + r) (first + (2 * r + 1)), by go_num, by omega, Lib.hid (by rw [← HO.out, sift_go hlt (kid_one (.inr HP.out)) HP2.out]), HS7, HB8, HG8⟩
            case measure => simp [intOf]; omega
        | true =>
          obtain ⟨p2, hp2⟩ : ∃ p, lt dk[first + r]! dk[first + (2 * r + 2)]! = p := ⟨_, rfl⟩
          have hl2 := SS.out.lesses (first + r) (first + (2 * r + 2)) HS4.out (by omega) (by omega) hp2
          rw [show ((first + r : Nat) : Int) = (first : Int) + r by omega, show ((first + (2 * r + 2) : Nat) : Int) = (first : Int) + (2 * r + 1 + 1) by omega] at hl2
          have HP2 := Lib.hid hp2
          clear hp2
          have c0 := HB4.out.at0
          go_wp2_with fail
          refine hl2.mono ?_
          rintro e w5 ⟨rfl, HS5, HG5⟩
          clear hl2 c0
          have HG6 := Lib.hid (HG4.out.trans (grown_none HG5.out))
          have HB6 := Lib.hid (HB4.out.grown HG5.out (by simp))
          have c1 := HB6.out.at1
          cases p2 with
          | false =>
            have HE : Hid (dk = siftDown lt hi first lo d) := Lib.hid (by rw [← HO.out, sift_stop hlt (kid_two hl2 HP.out) HP2.out])
            go_wp2
            refine bodyPost_ret (results_none rfl _ _ _) rfl ?_
            exact ⟨rfl, Lib.hid (by rw [← HE.out]; exact HS5.out), HG6⟩
          | true =>
            obtain ⟨w7, hr, HS7, HG7⟩ := SS.out.swap (first + r) (first + (2 * r + 2)) HS5.out (by omega) (by omega)
            rw [show ((first + r : Nat) : Int) = (first : Int) + r by omega, show ((first + (2 * r + 2) : Nat) : Int) = (first : Int) + (2 * r + 1 + 1) by omega] at hr
            have HS7 := Lib.hid HS7
            have HG8 := Lib.hid (HG6.out.trans HG7)
            have HB8 := Lib.hid (HB6.out.grown HG7 (by simp; omega))
            clear HG7
            go_wp2
            go_roundw
            case rel => exact ⟨2 * r + 2, swp dk (first + r) (first + (2 * r + 2)), by go_num, by omega, Lib.hid (by rw [← HO.out, sift_go hlt (kid_two hl2 HP.out) HP2.out]), HS7, HB8, HG8⟩
            case measure => simp [intOf]; omega
      · have d2 : decide (2 * (r : Int) + 1 + 1 < (hi : Int)) = false := by simp; omega
        obtain ⟨p2, hp2⟩ : ∃ p, lt dk[first + r]! dk[first + (2 * r + 1)]! = p := ⟨_, rfl⟩
        have hl2 := SS.out.lesses (first + r) (first + (2 * r + 1)) HS.out (by omega) (by omega) hp2
        rw [show ((first + r : Nat) : Int) = (first : Int) + r by omega, show ((first + (2 * r + 1) : Nat) : Int) = (first : Int) + (2 * r + 1) by omega] at hl2
        have HP2 := Lib.hid hp2
        clear hp2
        have c0 := HB.out.at0
        go_wp2_with fail
        refine hl2.mono ?_
        rintro e w5 ⟨rfl, HS5, HG5⟩
        clear hl2 c0
        have HG6 := Lib.hid (HG.out.trans (grown_none HG5.out))
        have HB6 := Lib.hid (HB.out.grown HG5.out (by simp))
        have c1 := HB6.out.at1
        cases p2 with
        | false =>
          have HE : Hid (dk = siftDown lt hi first lo d) := Lib.hid (by rw [← HO.out, sift_stop hlt (kid_one (.inl hl2)) HP2.out])
          go_wp2
          refine bodyPost_ret (results_none rfl _ _ _) rfl ?_
          exact ⟨rfl, Lib.hid (by rw [← HE.out]; exact HS5.out), HG6⟩
        | true =>
          obtain ⟨w7, hr, HS7, HG7⟩ := SS.out.swap (first + r) (first + (2 * r + 1)) HS5.out (by omega) (by omega)
          rw [show ((first + r : Nat) : Int) = (first : Int) + r by omega, show ((first + (2 * r + 1) : Nat) : Int) = (first : Int) + (2 * r + 1) by omega] at hr
          have HS7 := Lib.hid HS7
          have HG8 := Lib.hid (HG6.out.trans HG7)
          have HB8 := Lib.hid (HB6.out.grown HG7 (by simp; omega))
          clear HG7
          go_wp2
          go_roundw
          case rel => exact ⟨2 * r + 1, swp dk (first + r) (first + (2 * r + 1)), by go_num, by omega, Lib.hid (by rw [← HO.out, sift_go hlt (kid_one (.inl hl2)) HP2.out]), HS7, HB8, HG8⟩
          case measure => simp [intOf]; omega
    · have d1 : decide ((hi : Int) ≤ 2 * (r : Int) + 1) = true := by simp; omega
      have HE : Hid (dk = siftDown lt hi first lo d) := Lib.hid (by rw [← HO.out, sift_end hlt])
      go_wp2
      go_end0
      exact ⟨rfl, Lib.hid (by rw [← HE.out]; exact HS.out), HG⟩

set_option maxRecDepth 100000 in
set_option maxHeartbeats 400000 in
theorem heap_any (S : SortBy lt l la lb s sb g n Sw) (a b : Nat) (d : Array α) (w : World) (hab : a < b) (hb : b ≤ n) (h : Sw d w) :
    Calls Try.prog 56 #[.agg #[.func (.func l) la lb, .func (.func s) #[] sb], .int .i64 a, .int .i64 b] w fun e w' => e = .returned (.tuple #[]) ∧ Hid (Sw (heapSort lt d a b) w') ∧ Hid (w.grownBy w' (some g)) := by
  have BX : Hid (Blok (w.alloc (.cells #[.func (.func l) la lb, .func (.func s) #[] sb] 73)) w.heap.size 73 #[.func (.func l) la lb, .func (.func s) #[] sb]) := Lib.hid (Blok.new _ _ _)
  have GX : Hid (w.grownBy (w.alloc (.cells #[.func (.func l) la lb, .func (.func s) #[] sb] 73)) none) := Lib.hid (World.grownBy_alloc _ _ _)
  have H1 := Lib.hid (S.keep h GX.out (by simp))
  have SS := Lib.hid S
  have hm := S.most
  have hgw := S.inb h
  have eg := S.enters
  clear h S
  obtain ⟨hi, hhi⟩ : ∃ hi, b = a + hi := ⟨b - a, by omega⟩
  have hw : (b : Int) - (a : Int) = (hi : Int) := by omega
  have h0 : 0 < hi := by omega
  have hnn : a + hi ≤ n := by omega
  have HH := Lib.hid hhi
  clear hhi
  go_enter Try.func56, Try.ntmps56
  go_wp2_with fail
  go_loopw [9] (fun i wr => ∃ (k : Nat) (dk : Array α), i = .int .i64 ((k : Int) - 1) ∧ k ≤ hi ∧ Hid (heapBuild lt hi a k dk = heapBuild lt hi a ((hi - 1) / 2 + 1) d) ∧ Hid (Sw dk wr) ∧ Hid (Blok wr w.heap.size 73 #[.func (.func l) la lb, .func (.func s) #[] sb]) ∧ Hid (w.grownBy wr (some g))) (fun i _ => (intOf i + 1).toNat)
  case atStart => exact ⟨(hi - 1) / 2 + 1, d, by go_num, by omega, Lib.hid rfl, H1, BX, Lib.hid (grown_none GX.out)⟩
  case round =>
    obtain ⟨k, dk, rfl, hkh, HO, HS, HB, HG⟩ := hrel
    have c0 := HB.out.at0
    have c1 := HB.out.at1
    cases k with
    | succ k =>
      have e1 : ((k + 1 : Nat) : Int) - 1 = k := by omega
      rw [e1]
      have hc := sift_any SS.out k hi a dk wr (by omega) (by omega) HS.out
      go_wp2_with fail
      refine hc.mono ?_
      rintro e w3 ⟨rfl, HS3, HG3⟩
      have HB3 := Lib.hid (HB.out.grown HG3.out (by simp; omega))
      have HG4 := Lib.hid (HG.out.trans HG3.out)
      clear hc c0 c1
      go_wp2
      go_roundw
      case rel => exact ⟨k, siftDown lt hi a k dk, by go_num, by omega, Lib.hid (by rw [← HO.out]; rfl), HS3, HB3, HG4⟩
      case measure => simp [intOf] <;> omega
    | zero =>
      rw [show ((0 : Nat) : Int) - 1 = -1 from rfl]
      have HD : Hid (heapPop lt a hi dk = heapSort lt d a b) := Lib.hid (by
        unfold heapSort
        rw [show b - a = hi by have := HH.out; omega, ← HO.out]; rfl)
      clear HO
      go_wp2_with fail
      go_loopw [10] (fun i wr => ∃ (k : Nat) (dk : Array α), i = .int .i64 ((k : Int) - 1) ∧ k ≤ hi ∧ Hid (heapPop lt a k dk = heapSort lt d a b) ∧ Hid (Sw dk wr) ∧ Hid (Blok wr w.heap.size 73 #[.func (.func l) la lb, .func (.func s) #[] sb]) ∧ Hid (w.grownBy wr (some g))) (fun i _ => (intOf i + 1).toNat)
      case atStart => exact ⟨hi, dk, by go_num, by omega, HD, HS, HB, HG⟩
      case round =>
        obtain ⟨k, dj, rfl, hkh, HOj, HSj, HBj, HGj⟩ := hrel
        clear c0 c1
        have c0 := HBj.out.at0
        have c1 := HBj.out.at1
        cases k with
        | succ k =>
          have e1 : ((k + 1 : Nat) : Int) - 1 = k := by omega
          rw [e1]
          obtain ⟨w7, hr, HS7, HG7⟩ := SS.out.swap a (a + k) HSj.out (by omega) (by omega)
          rw [show ((a + k : Nat) : Int) = (a : Int) + k by omega] at hr
          have HG8 := Lib.hid (HGj.out.trans HG7)
          have HB8 := Lib.hid (HBj.out.grown HG7 (by simp; omega))
          have d0 := HB8.out.at0
          have d1 := HB8.out.at1
          have hc := sift_any SS.out 0 k a (swp dj a (a + k)) w7 (by omega) (by omega) HS7
          clear HG7 HS7
          go_wp2_with fail
          refine hc.mono ?_
          rintro e w3 ⟨rfl, HS3, HG3⟩
          have HB3 := Lib.hid (HB8.out.grown HG3.out (by simp; omega))
          have HG4 := Lib.hid (HG8.out.trans HG3.out)
          clear hc c0 c1 d0 d1 hr
          go_wp2
          go_roundw
          case rel => exact ⟨k, siftDown lt k a 0 (swp dj a (a + k)), by go_num, by omega, Lib.hid (by rw [← HOj.out]; rfl), HS3, HB3, HG4⟩
          case measure => simp [intOf] <;> omega
        | zero =>
          have HE : Hid (dj = heapSort lt d a b) := HOj
          go_wp2
          go_end0
          exact ⟨rfl, Lib.hid (by rw [← HE.out]; exact HSj.out), HGj⟩
end Go.Proofs.Ytmegkfonodcoiaa
