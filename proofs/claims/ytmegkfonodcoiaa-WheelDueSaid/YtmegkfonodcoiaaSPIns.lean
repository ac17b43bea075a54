/-
  A walk of the package sort's partialInsertionSort_func.
-/
import Derived.Test.YtmegkfonodcoiaaSKit
import Derived.Sort.WalkA6
namespace Go.Proofs.Ytmegkfonodcoiaa
open Go.RowKit Go.Sort
variable {α : Type} [Inhabited α] {lt : α → α → Bool} {l : Nat} {la lb : Array Value} {s : Nat} {sb : Array Value} {g n : Nat} {Sw : Array α → World → Prop}

set_option maxRecDepth 100000 in
set_option maxHeartbeats 1000000 in
theorem partialIns_any (S : SortBy lt l la lb s sb g n Sw) (a b : Nat) (r : Bool) (d d' : Array α) (w : World) (hab : a < b) (hb : b ≤ n) (h : Sw d w) (hr : partialInsertionSort lt d a b = (d', r)) :
    Calls Try.prog 60 #[.agg #[.func (.func l) la lb, .func (.func s) #[] sb], .int .i64 a, .int .i64 b] w fun e w' => e = .returned (.bool r) ∧ Hid (Sw d' w') ∧ Hid (w.grownBy w' (some g)) := by
  have BX : Hid (Blok (w.alloc (.cells #[.func (.func l) la lb, .func (.func s) #[] sb] 73)) w.heap.size 73 #[.func (.func l) la lb, .func (.func s) #[] sb]) := Lib.hid (Blok.new _ _ _)
  have GX : Hid (w.grownBy (w.alloc (.cells #[.func (.func l) la lb, .func (.func s) #[] sb] 73)) none) := Lib.hid (World.grownBy_alloc _ _ _)
  have H1 := Lib.hid (S.keep h GX.out (by simp))
  have G1 := Lib.hid (grown_none (row := some g) GX.out)
  have SS := Lib.hid S
  have hm := S.most
  have hgw := S.inb h
  have eg := S.enters
  clear h S GX
  have HR : Hid (partialIns lt a b (5 - 0) (a + 1) d = (d', r)) := Lib.hid hr
  clear hr
  go_enter Try.func60, Try.ntmps60
  go_wp2_with fail
  go_loopw [7, 8] (fun i j wr => ∃ (x st : Nat) (dk : Array α), i = .int .i64 x ∧ j = .int .i64 st ∧ a + 1 ≤ x ∧ x ≤ b ∧ st ≤ 5 ∧ Hid (partialIns lt a b (5 - st) x dk = (d', r)) ∧ Hid (Sw dk wr) ∧ Hid (Blok wr w.heap.size 73 #[.func (.func l) la lb, .func (.func s) #[] sb]) ∧ Hid (w.grownBy wr (some g))) (fun _ j _ => (5 - intOf j).toNat)
  case atStart => exact ⟨a + 1, 0, d, by go_num, by go_num, by omega, by omega, by omega, HR, H1, BX, G1⟩
  case round =>
    obtain ⟨X, st, dk, rfl, rfl, hX1, hX2, hst, HO, HS, HB, HG⟩ := hrel
    by_cases hs5 : st < 5
    · have ds : decide ((st : Int) < 5) = true := by simp; omega
      have hs6 : 5 - st = (5 - (st + 1)) + 1 := by omega
      have HN : Hid ((if scanSorted lt dk b X = b then (dk, true) else if b - a < 50 then (dk, false) else
        partialIns lt a b (5 - (st + 1)) (scanSorted lt dk b X) (fixUp lt b (scanSorted lt dk b X) (fixDown lt a (scanSorted lt dk b X) (swp dk (scanSorted lt dk b X) (scanSorted lt dk b X - 1))))) = (d', r)) := Lib.hid (by
        rw [← partialIns_succ, ← hs6]; exact HO.out)
      clear hs6 HO
      go_wp2_with fail
      go_loopw [7] (fun i wr => ∃ (x : Nat), i = .int .i64 x ∧ a + 1 ≤ x ∧ x ≤ b ∧ Hid (scanSorted lt dk b x = scanSorted lt dk b X) ∧ Hid (Sw dk wr) ∧ Hid (Blok wr w.heap.size 73 #[.func (.func l) la lb, .func (.func s) #[] sb]) ∧ Hid (w.grownBy wr (some g))) (fun i _ => b - (intOf i).toNat)
      case atStart => exact ⟨X, by go_num, by omega, by omega, Lib.hid rfl, HS, HB, HG⟩
      case round =>
        obtain ⟨x, rfl, hx1, hx2, HOx, HSx, HBx, HGx⟩ := hrel
        by_cases hlx : x < b
        · have dx : decide ((x : Int) < b) = true := by simp; omega
          have c0 := HBx.out.at0
          obtain ⟨p1, hp1⟩ : ∃ p, lt dk[x]! dk[x - 1]! = p := ⟨_, rfl⟩
          have hc1 := SS.out.lesses (x) (x - 1) HSx.out (by omega) (by omega) hp1
          rw [show ((x - 1 : Nat) : Int) = (x : Int) - 1 by omega] at hc1
          have HP1 := Lib.hid hp1
          clear hp1
          go_wp2_with fail
          refine hc1.mono ?_
          rintro e wb1 ⟨rfl, HSb1, HG01⟩
          clear hc1 c0
          have HGb1 := Lib.hid (HGx.out.trans (grown_none HG01.out))
          have HBb1 := Lib.hid (HBx.out.grown HG01.out (by simp))
          clear HG01
          cases p1 with
          | false =>
            go_wp2
            go_roundw
            case rel => exact ⟨x + 1, by go_num, by omega, by omega, Lib.hid (by rw [← HOx.out, scanSorted_go lt _ _ _ hlx HP1.out]), HSb1, HBb1, HGb1⟩
            case measure => simp [intOf] <;> omega
          | true =>
            have HX : Hid (scanSorted lt dk b X = x) := Lib.hid (by rw [← HOx.out, scanSorted_stop lt _ _ _ (.inr HP1.out)])
            have dxb : decide ((x : Int) = b) = false := by simp; omega
            have dxb2 : ((x : Int) == (b : Int)) = false := by simp; omega
            by_cases h50 : b - a < 50
            · have d50 : decide ((b : Int) - a < 50) = true := by simp; omega
              have HF : Hid (d' = dk ∧ r = false) := Lib.hid (by
                have h1 := HN.out
                rw [HX.out, if_neg (by omega), if_pos h50] at h1
                simp only [Prod.mk.injEq] at h1
                exact ⟨h1.1.symm, h1.2.symm⟩)
              obtain ⟨rfl, rfl⟩ := HF.out
              go_wp2
              go_ret
              exact ⟨rfl, HSb1, HGb1⟩
            · have d50 : decide ((b : Int) - a < 50) = false := by simp; omega
              have HN2 : Hid (partialIns lt a b (5 - (st + 1)) x (fixUp lt b x (fixDown lt a x (swp dk x (x - 1)))) = (d', r)) := Lib.hid (by
                have h1 := HN.out
                rw [HX.out, if_neg (by omega), if_neg h50] at h1
                exact h1)
              clear HN HX
              obtain ⟨w2, hr2, HS2, HG02⟩ := SS.out.swap (x) (x - 1) HSb1.out (by omega) (by omega)
              have HS2 := Lib.hid HS2
              have HG2 := Lib.hid (HGb1.out.trans HG02)
              have HB2 := Lib.hid (HBb1.out.grown HG02 (by simp; omega))
              have c1 := HBb1.out.at1
              clear HG02
              rw [show ((x - 1 : Nat) : Int) = (x : Int) - 1 by omega] at hr2
              obtain ⟨D1, hD1⟩ : ∃ D, swp dk x (x - 1) = D := ⟨_, rfl⟩
              rw [hD1] at HN2 HS2
              clear hD1
              by_cases h2a : x - a ≥ 2
              · have d2a : decide (2 ≤ (x : Int) - a) = true := by simp; omega
                go_wp2_with fail
                go_loopw [9] (fun i wr => ∃ (y3 : Nat) (dj3 : Array α), i = .int .i64 y3 ∧ 0 ≤ y3 ∧ y3 ≤ x - 1 ∧ Hid (shiftDown lt y3 dj3 = shiftDown lt (x - 1) D1) ∧ Hid (Sw dj3 wr) ∧ Hid (Blok wr w.heap.size 73 #[.func (.func l) la lb, .func (.func s) #[] sb]) ∧ Hid (w.grownBy wr (some g))) (fun i _ => (intOf i).toNat)
                case atStart => exact ⟨x - 1, D1, by go_num, by omega, by omega, Lib.hid rfl, HS2, HB2, HG2⟩
                case round =>
                  obtain ⟨y3, dj3, rfl, ha3, hb3, HO3, HS3, HB3, HG3⟩ := hrel
                  by_cases hl3 : 1 ≤ y3
                  · have dl3 : decide (1 ≤ (y3 : Int)) = true := by simp; omega
                    have c0 := HB3.out.at0
                    obtain ⟨p3, hp3⟩ : ∃ p, lt dj3[y3]! dj3[y3 - 1]! = p := ⟨_, rfl⟩
                    have hc3 := SS.out.lesses (y3) (y3 - 1) HS3.out (by omega) (by omega) hp3
                    rw [show ((y3 - 1 : Nat) : Int) = (y3 : Int) - 1 by omega] at hc3
                    have HP3 := Lib.hid hp3
                    clear hp3
                    go_wp2_with fail
                    refine hc3.mono ?_
                    rintro e wb3 ⟨rfl, HSb3, HG03⟩
                    clear hc3 c0
                    have HGb3 := Lib.hid (HG3.out.trans (grown_none HG03.out))
                    have HBb3 := Lib.hid (HB3.out.grown HG03.out (by simp))
                    clear HG03
                    cases p3 with
                    | true =>
                      obtain ⟨w4, hr4, HS4, HG04⟩ := SS.out.swap (y3) (y3 - 1) HSb3.out (by omega) (by omega)
                      have HS4 := Lib.hid HS4
                      have HG4 := Lib.hid (HGb3.out.trans HG04)
                      have HB4 := Lib.hid (HBb3.out.grown HG04 (by simp; omega))
                      have c1 := HBb3.out.at1
                      clear HG04
                      rw [show ((y3 - 1 : Nat) : Int) = (y3 : Int) - 1 by omega] at hr4
                      go_wp2
                      go_roundw
                      case rel => exact ⟨y3 - 1, swp dj3 (y3) (y3 - 1), by go_num, by omega, by omega, Lib.hid (by rw [← HO3.out, shiftDown_go lt y3 dj3 hl3 HP3.out]), HS4, HB4, HG4⟩
                      case measure => simp [intOf] <;> omega
                    | false =>
                      have HE3 : Hid (shiftDown lt (x - 1) D1 = dj3) := Lib.hid (by rw [← HO3.out, shiftDown_stop lt y3 dj3 (.inr HP3.out)])
                      have HN3 : Hid (partialIns lt a b (5 - (st + 1)) x (fixUp lt b x dj3) = (d', r)) := Lib.hid (by have h1 := HN2.out; unfold fixDown at h1; rw [if_pos h2a, HE3.out] at h1; exact h1)
                      clear HN2
                      by_cases h2b : b - x ≥ 2
                      · have d2b : decide (2 ≤ (b : Int) - x) = true := by simp; omega
                        go_wp2_with fail
                        go_loopw [10] (fun i wr => ∃ (z5 : Nat) (dj5 : Array α), i = .int .i64 z5 ∧ x + 1 ≤ z5 ∧ z5 ≤ b ∧ Hid (shiftUp lt b z5 dj5 = shiftUp lt b (x + 1) dj3) ∧ Hid (Sw dj5 wr) ∧ Hid (Blok wr w.heap.size 73 #[.func (.func l) la lb, .func (.func s) #[] sb]) ∧ Hid (w.grownBy wr (some g))) (fun i _ => b - (intOf i).toNat)
                        case atStart => exact ⟨x + 1, dj3, by go_num, by omega, by omega, Lib.hid rfl, HSb3, HBb3, HGb3⟩
                        case round =>
                          obtain ⟨z5, dj5, rfl, ha5, hb5, HO5, HS5, HB5, HG5⟩ := hrel
                          by_cases hl5 : z5 < b
                          · have dl5 : decide ((z5 : Int) < b) = true := by simp; omega
                            have c0 := HB5.out.at0
                            obtain ⟨p5, hp5⟩ : ∃ p, lt dj5[z5]! dj5[z5 - 1]! = p := ⟨_, rfl⟩
                            have hc5 := SS.out.lesses (z5) (z5 - 1) HS5.out (by omega) (by omega) hp5
                            rw [show ((z5 - 1 : Nat) : Int) = (z5 : Int) - 1 by omega] at hc5
                            have HP5 := Lib.hid hp5
                            clear hp5
                            go_wp2_with fail
                            refine hc5.mono ?_
                            rintro e wb5 ⟨rfl, HSb5, HG05⟩
                            clear hc5 c0
                            have HGb5 := Lib.hid (HG5.out.trans (grown_none HG05.out))
                            have HBb5 := Lib.hid (HB5.out.grown HG05.out (by simp))
                            clear HG05
                            cases p5 with
                            | true =>
                              obtain ⟨w6, hr6, HS6, HG06⟩ := SS.out.swap (z5) (z5 - 1) HSb5.out (by omega) (by omega)
                              have HS6 := Lib.hid HS6
                              have HG6 := Lib.hid (HGb5.out.trans HG06)
                              have HB6 := Lib.hid (HBb5.out.grown HG06 (by simp; omega))
                              have c1 := HBb5.out.at1
                              clear HG06
                              rw [show ((z5 - 1 : Nat) : Int) = (z5 : Int) - 1 by omega] at hr6
                              go_wp2
                              go_roundw
                              case rel => exact ⟨z5 + 1, swp dj5 (z5) (z5 - 1), by go_num, by omega, by omega, Lib.hid (by rw [← HO5.out, shiftUp_go lt b z5 dj5 hl5 HP5.out]), HS6, HB6, HG6⟩
                              case measure => simp [intOf] <;> omega
                            | false =>
                              have HE5 : Hid (shiftUp lt b (x + 1) dj3 = dj5) := Lib.hid (by rw [← HO5.out, shiftUp_stop lt b z5 dj5 (.inr HP5.out)])
                              go_wp2
                              go_roundw
                              case rel => exact ⟨x, st + 1, dj5, by go_num, by go_num, by omega, by omega, by omega, Lib.hid (by have h1 := HN3.out; unfold fixUp at h1; rw [if_pos h2b, HE5.out] at h1; exact h1), HSb5, HBb5, HGb5⟩
                              case measure => simp [intOf] <;> omega
                          · have dl5 : decide ((z5 : Int) < b) = false := by simp; omega
                            have HE5 : Hid (shiftUp lt b (x + 1) dj3 = dj5) := Lib.hid (by rw [← HO5.out, shiftUp_stop lt b z5 dj5 (.inl (by omega))])
                            go_wp2
                            go_roundw
                            case rel => exact ⟨x, st + 1, dj5, by go_num, by go_num, by omega, by omega, by omega, Lib.hid (by have h1 := HN3.out; unfold fixUp at h1; rw [if_pos h2b, HE5.out] at h1; exact h1), HS5, HB5, HG5⟩
                            case measure => simp [intOf] <;> omega
                      · have d2b : decide (2 ≤ (b : Int) - x) = false := by simp; omega
                        go_wp2
                        go_roundw
                        case rel => exact ⟨x, st + 1, dj3, by go_num, by go_num, by omega, by omega, by omega, Lib.hid (by have h1 := HN3.out; unfold fixUp at h1; rw [if_neg h2b] at h1; exact h1), HSb3, HBb3, HGb3⟩
                        case measure => simp [intOf] <;> omega
                  · have dl3 : decide (1 ≤ (y3 : Int)) = false := by simp; omega
                    have HE3 : Hid (shiftDown lt (x - 1) D1 = dj3) := Lib.hid (by rw [← HO3.out, shiftDown_stop lt y3 dj3 (.inl (by omega))])
                    have HN3 : Hid (partialIns lt a b (5 - (st + 1)) x (fixUp lt b x dj3) = (d', r)) := Lib.hid (by have h1 := HN2.out; unfold fixDown at h1; rw [if_pos h2a, HE3.out] at h1; exact h1)
                    clear HN2
                    by_cases h2b : b - x ≥ 2
                    · have d2b : decide (2 ≤ (b : Int) - x) = true := by simp; omega
                      go_wp2_with fail
                      go_loopw [10] (fun i wr => ∃ (z7 : Nat) (dj7 : Array α), i = .int .i64 z7 ∧ x + 1 ≤ z7 ∧ z7 ≤ b ∧ Hid (shiftUp lt b z7 dj7 = shiftUp lt b (x + 1) dj3) ∧ Hid (Sw dj7 wr) ∧ Hid (Blok wr w.heap.size 73 #[.func (.func l) la lb, .func (.func s) #[] sb]) ∧ Hid (w.grownBy wr (some g))) (fun i _ => b - (intOf i).toNat)
                      case atStart => exact ⟨x + 1, dj3, by go_num, by omega, by omega, Lib.hid rfl, HS3, HB3, HG3⟩
                      case round =>
                        obtain ⟨z7, dj7, rfl, ha7, hb7, HO7, HS7, HB7, HG7⟩ := hrel
                        by_cases hl7 : z7 < b
                        · have dl7 : decide ((z7 : Int) < b) = true := by simp; omega
                          have c0 := HB7.out.at0
                          obtain ⟨p7, hp7⟩ : ∃ p, lt dj7[z7]! dj7[z7 - 1]! = p := ⟨_, rfl⟩
                          have hc7 := SS.out.lesses (z7) (z7 - 1) HS7.out (by omega) (by omega) hp7
                          rw [show ((z7 - 1 : Nat) : Int) = (z7 : Int) - 1 by omega] at hc7
                          have HP7 := Lib.hid hp7
                          clear hp7
                          go_wp2_with fail
                          refine hc7.mono ?_
                          rintro e wb7 ⟨rfl, HSb7, HG07⟩
                          clear hc7 c0
                          have HGb7 := Lib.hid (HG7.out.trans (grown_none HG07.out))
                          have HBb7 := Lib.hid (HB7.out.grown HG07.out (by simp))
                          clear HG07
                          cases p7 with
                          | true =>
                            obtain ⟨w8, hr8, HS8, HG08⟩ := SS.out.swap (z7) (z7 - 1) HSb7.out (by omega) (by omega)
                            have HS8 := Lib.hid HS8
                            have HG8 := Lib.hid (HGb7.out.trans HG08)
                            have HB8 := Lib.hid (HBb7.out.grown HG08 (by simp; omega))
                            have c1 := HBb7.out.at1
                            clear HG08
                            rw [show ((z7 - 1 : Nat) : Int) = (z7 : Int) - 1 by omega] at hr8
                            go_wp2
                            go_roundw
                            case rel => exact ⟨z7 + 1, swp dj7 (z7) (z7 - 1), by go_num, by omega, by omega, Lib.hid (by rw [← HO7.out, shiftUp_go lt b z7 dj7 hl7 HP7.out]), HS8, HB8, HG8⟩
                            case measure => simp [intOf] <;> omega
                          | false =>
                            have HE7 : Hid (shiftUp lt b (x + 1) dj3 = dj7) := Lib.hid (by rw [← HO7.out, shiftUp_stop lt b z7 dj7 (.inr HP7.out)])
                            go_wp2
                            go_roundw
                            case rel => exact ⟨x, st + 1, dj7, by go_num, by go_num, by omega, by omega, by omega, Lib.hid (by have h1 := HN3.out; unfold fixUp at h1; rw [if_pos h2b, HE7.out] at h1; exact h1), HSb7, HBb7, HGb7⟩
                            case measure => simp [intOf] <;> omega
                        · have dl7 : decide ((z7 : Int) < b) = false := by simp; omega
                          have HE7 : Hid (shiftUp lt b (x + 1) dj3 = dj7) := Lib.hid (by rw [← HO7.out, shiftUp_stop lt b z7 dj7 (.inl (by omega))])
                          go_wp2
                          go_roundw
                          case rel => exact ⟨x, st + 1, dj7, by go_num, by go_num, by omega, by omega, by omega, Lib.hid (by have h1 := HN3.out; unfold fixUp at h1; rw [if_pos h2b, HE7.out] at h1; exact h1), HS7, HB7, HG7⟩
                          case measure => simp [intOf] <;> omega
                    · have d2b : decide (2 ≤ (b : Int) - x) = false := by simp; omega
                      go_wp2
                      go_roundw
                      case rel => exact ⟨x, st + 1, dj3, by go_num, by go_num, by omega, by omega, by omega, Lib.hid (by have h1 := HN3.out; unfold fixUp at h1; rw [if_neg h2b] at h1; exact h1), HS3, HB3, HG3⟩
                      case measure => simp [intOf] <;> omega
              · have d2a : decide (2 ≤ (x : Int) - a) = false := by simp; omega
                have HN3 : Hid (partialIns lt a b (5 - (st + 1)) x (fixUp lt b x D1) = (d', r)) := Lib.hid (by have h1 := HN2.out; unfold fixDown at h1; rw [if_neg h2a] at h1; exact h1)
                clear HN2
                by_cases h2b : b - x ≥ 2
                · have d2b : decide (2 ≤ (b : Int) - x) = true := by simp; omega
                  go_wp2_with fail
                  go_loopw [10] (fun i wr => ∃ (z9 : Nat) (dj9 : Array α), i = .int .i64 z9 ∧ x + 1 ≤ z9 ∧ z9 ≤ b ∧ Hid (shiftUp lt b z9 dj9 = shiftUp lt b (x + 1) D1) ∧ Hid (Sw dj9 wr) ∧ Hid (Blok wr w.heap.size 73 #[.func (.func l) la lb, .func (.func s) #[] sb]) ∧ Hid (w.grownBy wr (some g))) (fun i _ => b - (intOf i).toNat)
                  case atStart => exact ⟨x + 1, D1, by go_num, by omega, by omega, Lib.hid rfl, HS2, HB2, HG2⟩
                  case round =>
                    obtain ⟨z9, dj9, rfl, ha9, hb9, HO9, HS9, HB9, HG9⟩ := hrel
                    by_cases hl9 : z9 < b
                    · have dl9 : decide ((z9 : Int) < b) = true := by simp; omega
                      have c0 := HB9.out.at0
                      obtain ⟨p9, hp9⟩ : ∃ p, lt dj9[z9]! dj9[z9 - 1]! = p := ⟨_, rfl⟩
                      have hc9 := SS.out.lesses (z9) (z9 - 1) HS9.out (by omega) (by omega) hp9
                      rw [show ((z9 - 1 : Nat) : Int) = (z9 : Int) - 1 by omega] at hc9
                      have HP9 := Lib.hid hp9
                      clear hp9
                      go_wp2_with fail
                      refine hc9.mono ?_
                      rintro e wb9 ⟨rfl, HSb9, HG09⟩
                      clear hc9 c0
                      have HGb9 := Lib.hid (HG9.out.trans (grown_none HG09.out))
                      have HBb9 := Lib.hid (HB9.out.grown HG09.out (by simp))
                      clear HG09
                      cases p9 with
                      | true =>
                        obtain ⟨w10, hr10, HS10, HG010⟩ := SS.out.swap (z9) (z9 - 1) HSb9.out (by omega) (by omega)
                        have HS10 := Lib.hid HS10
                        have HG10 := Lib.hid (HGb9.out.trans HG010)
                        have HB10 := Lib.hid (HBb9.out.grown HG010 (by simp; omega))
                        have c1 := HBb9.out.at1
                        clear HG010
                        rw [show ((z9 - 1 : Nat) : Int) = (z9 : Int) - 1 by omega] at hr10
                        go_wp2
                        go_roundw
                        case rel => exact ⟨z9 + 1, swp dj9 (z9) (z9 - 1), by go_num, by omega, by omega, Lib.hid (by rw [← HO9.out, shiftUp_go lt b z9 dj9 hl9 HP9.out]), HS10, HB10, HG10⟩
                        case measure => simp [intOf] <;> omega
                      | false =>
                        have HE9 : Hid (shiftUp lt b (x + 1) D1 = dj9) := Lib.hid (by rw [← HO9.out, shiftUp_stop lt b z9 dj9 (.inr HP9.out)])
                        go_wp2
                        go_roundw
                        case rel => exact ⟨x, st + 1, dj9, by go_num, by go_num, by omega, by omega, by omega, Lib.hid (by have h1 := HN3.out; unfold fixUp at h1; rw [if_pos h2b, HE9.out] at h1; exact h1), HSb9, HBb9, HGb9⟩
                        case measure => simp [intOf] <;> omega
                    · have dl9 : decide ((z9 : Int) < b) = false := by simp; omega
                      have HE9 : Hid (shiftUp lt b (x + 1) D1 = dj9) := Lib.hid (by rw [← HO9.out, shiftUp_stop lt b z9 dj9 (.inl (by omega))])
                      go_wp2
                      go_roundw
                      case rel => exact ⟨x, st + 1, dj9, by go_num, by go_num, by omega, by omega, by omega, Lib.hid (by have h1 := HN3.out; unfold fixUp at h1; rw [if_pos h2b, HE9.out] at h1; exact h1), HS9, HB9, HG9⟩
                      case measure => simp [intOf] <;> omega
                · exfalso; omega
        · have dx : decide ((x : Int) < b) = false := by simp; omega
          obtain rfl : x = b := by omega
          have HX : Hid (scanSorted lt dk x X = x) := Lib.hid (by rw [← HOx.out, scanSorted_stop lt _ _ _ (.inl hlx)])
          have HF : Hid (d' = dk ∧ r = true) := Lib.hid (by
            have h1 := HN.out
            rw [HX.out, if_pos rfl] at h1
            simp only [Prod.mk.injEq] at h1
            exact ⟨h1.1.symm, h1.2.symm⟩)
          obtain ⟨rfl, rfl⟩ := HF.out
          go_wp2
          go_ret
          exact ⟨rfl, HSx, HGx⟩
    · have ds : decide ((st : Int) < 5) = false := by simp; omega
      have HF : Hid (d' = dk ∧ r = false) := Lib.hid (by
        have h1 := HO.out
        rw [show 5 - st = 0 by omega] at h1
        simp only [partialIns, Prod.mk.injEq] at h1
        exact ⟨h1.1.symm, h1.2.symm⟩)
      obtain ⟨rfl, rfl⟩ := HF.out
      go_wp2
      go_ret
      exact ⟨rfl, HS, HG⟩
end Go.Proofs.Ytmegkfonodcoiaa
