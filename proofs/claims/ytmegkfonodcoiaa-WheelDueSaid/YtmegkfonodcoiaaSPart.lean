/-
  Walks of the package sort's partition_func and partitionEqual_func.
-/
import Derived.Test.YtmegkfonodcoiaaSKit
namespace Go.Proofs.Ytmegkfonodcoiaa
open Go.RowKit Go.Sort
variable {α : Type} [Inhabited α] {lt : α → α → Bool} {l : Nat} {la lb : Array Value} {s : Nat} {sb : Array Value} {g n : Nat} {Sw : Array α → World → Prop}

theorem scanUp_go {p : α → Bool} {d : Array α} {j i : Nat} (h : i ≤ j) (hp : p d[i]! = true) : scanUp p d j i = scanUp p d j (i + 1) := by
  rw [scanUp]; simp [h, hp]
theorem scanUp_end {p : α → Bool} {d : Array α} {j i : Nat} (h : ¬ i ≤ j ∨ p d[i]! = false) : scanUp p d j i = i := by
  rw [scanUp]; rcases h with h | h <;> simp [h]
theorem scanDown_go {p : α → Bool} {d : Array α} {j i : Nat} (h : i ≤ j) (hp : p d[j]! = true) (hi : 0 < j := by omega) : scanDown p d i j = scanDown p d i (j - 1) := by
  obtain ⟨j, rfl⟩ : ∃ m, j = m + 1 := ⟨j - 1, by omega⟩
  rw [scanDown]; simp [h, hp]
theorem scanDown_end {p : α → Bool} {d : Array α} {j i : Nat} (h : ¬ i ≤ j ∨ p d[j]! = false) : scanDown p d i j = j := by
  cases j with
  | zero => rfl
  | succ j => rw [scanDown]; rcases h with h | h <;> simp [h]
theorem part_early {a b pv x y : Nat} {d : Array α} (hx : scanUp (fun x => lt x (swp d a pv)[a]!) (swp d a pv) (b - 1) (a + 1) = x) (hy : scanDown (fun x => !lt x (swp d a pv)[a]!) (swp d a pv) x (b - 1) = y) (h : y < x) : Sort.partition lt d a b pv = (y, true, swp (swp d a pv) y a) := by
  unfold Sort.partition
  simp only [hx, hy]
  rw [if_pos h]
theorem part_late {a b pv x y : Nat} {d : Array α} (hx : scanUp (fun x => lt x (swp d a pv)[a]!) (swp d a pv) (b - 1) (a + 1) = x) (hy : scanDown (fun x => !lt x (swp d a pv)[a]!) (swp d a pv) x (b - 1) = y) (h : ¬ y < x) : Sort.partition lt d a b pv = ((partLoop lt a (x + 1) (y - 1) (swp (swp d a pv) x y)).1, false, swp (partLoop lt a (x + 1) (y - 1) (swp (swp d a pv) x y)).2 (partLoop lt a (x + 1) (y - 1) (swp (swp d a pv) x y)).1 a) := by
  unfold Sort.partition
  simp only [hx, hy]
  rw [if_neg h]
theorem ploop_end {a i j x y : Nat} {d : Array α} (hx : scanUp (fun x => lt x d[a]!) d j i = x) (hy : scanDown (fun x => !lt x d[a]!) d x j = y) (h : y < x) : partLoop lt a i j d = (y, d) := by
  rw [partLoop_eq, hx, hy, if_pos h]
theorem ploop_go {a i j x y : Nat} {d : Array α} (hx : scanUp (fun x => lt x d[a]!) d j i = x) (hy : scanDown (fun x => !lt x d[a]!) d x j = y) (h : ¬ y < x) : partLoop lt a i j d = partLoop lt a (x + 1) (y - 1) (swp d x y) := by
  rw [partLoop_eq, hx, hy, if_neg h]
theorem peq_end {a i j x y : Nat} {d : Array α} (hx : scanUp (fun x => !lt d[a]! x) d j i = x) (hy : scanDown (fun x => lt d[a]! x) d x j = y) (h : y < x) : partEqLoop lt a i j d = (x, d) := by
  rw [partEqLoop_eq, hx, hy, if_pos h]
theorem peq_go {a i j x y : Nat} {d : Array α} (hx : scanUp (fun x => !lt d[a]! x) d j i = x) (hy : scanDown (fun x => lt d[a]! x) d x j = y) (h : ¬ y < x) : partEqLoop lt a i j d = partEqLoop lt a (x + 1) (y - 1) (swp d x y) := by
  rw [partEqLoop_eq, hx, hy, if_neg h]

set_option maxRecDepth 100000 in
set_option maxHeartbeats 1000000 in
theorem part_any (S : SortBy lt l la lb s sb g n Sw) (a b pv mid : Nat) (ap : Bool) (d d' : Array α) (w : World) (ha : a ≤ pv) (hpv : pv < b) (hb : b ≤ n) (h : Sw d w) (hr : Sort.partition lt d a b pv = (mid, ap, d')) :
    Calls Try.prog 62 #[.agg #[.func (.func l) la lb, .func (.func s) #[] sb], .int .i64 a, .int .i64 b, .int .i64 pv] w fun e w' => e = .returned (.tuple #[.int .i64 mid, .bool ap]) ∧ Hid (Sw d' w') ∧ Hid (w.grownBy w' (some g)) := by
  have BX : Hid (Blok (w.alloc (.cells #[.func (.func l) la lb, .func (.func s) #[] sb] 73)) w.heap.size 73 #[.func (.func l) la lb, .func (.func s) #[] sb]) := Lib.hid (Blok.new _ _ _)
  have GX : Hid (w.grownBy (w.alloc (.cells #[.func (.func l) la lb, .func (.func s) #[] sb] 73)) none) := Lib.hid (World.grownBy_alloc _ _ _)
  have H1 := Lib.hid (S.keep h GX.out (by simp))
  have G1 := Lib.hid (grown_none (row := some g) GX.out)
  have SS := Lib.hid S
  have hm := S.most
  have hgw := S.inb h
  have eg := S.enters
  clear h S GX
  have HR := Lib.hid hr
  clear hr
  obtain ⟨y0, hy0⟩ : ∃ y, y = b - 1 := ⟨_, rfl⟩
  have hyb : (b : Int) - 1 = (y0 : Int) := by omega
  have HY := Lib.hid hy0
  have hy1 : y0 < b := by omega
  have hy2 : a ≤ y0 := by omega
  clear hy0
  obtain ⟨w1, hr1, HS1, HG01⟩ := SS.out.swap (a) (pv) H1.out (by omega) (by omega)
  have HS1 := Lib.hid HS1
  have HG1 := Lib.hid (G1.out.trans HG01)
  have HB1 := Lib.hid (BX.out.grown HG01 (by simp; omega))
  have c1 := BX.out.at1
  clear HG01
  obtain ⟨d1, hd1⟩ : ∃ x, x = swp d a pv := ⟨_, rfl⟩
  rw [← hd1] at HS1
  have HD1 := Lib.hid hd1
  clear hd1
  go_enter Try.func62, Try.ntmps62
  go_wp2_with fail
  go_loopw [10] (fun i wr => ∃ x2 : Nat, i = .int .i64 x2 ∧ a + 1 ≤ x2 ∧ x2 ≤ b ∧ Hid (scanUp (fun x => lt x d1[a]!) d1 y0 x2 = scanUp (fun x => lt x d1[a]!) d1 y0 (a + 1)) ∧ Hid (Sw d1 wr) ∧ Hid (Blok wr w.heap.size 73 #[.func (.func l) la lb, .func (.func s) #[] sb]) ∧ Hid (w.grownBy wr (some g))) (fun i _ => b + 1 - (intOf i).toNat)
  case atStart => exact ⟨(a + 1), by go_num, by omega, by omega, Lib.hid rfl, HS1, HB1, HG1⟩
  case round =>
    obtain ⟨x2, rfl, ha2, hb2, HO2, HS2, HB2, HG2⟩ := hrel
    by_cases hl2 : x2 ≤ y0
    · have dl2 : decide ((x2 : Int) ≤ y0) = true := by simp; omega
      have c0 := HB2.out.at0
      obtain ⟨p2, hp2⟩ : ∃ p, lt d1[x2]! d1[a]! = p := ⟨_, rfl⟩
      have hc2 := SS.out.lesses x2 a HS2.out (by omega) (by omega) hp2
      have HP2 := Lib.hid hp2
      clear hp2
      go_wp2_with fail
      refine hc2.mono ?_
      rintro e wb2 ⟨rfl, HSb2, HG02⟩
      clear hc2 c0
      have HGb2 := Lib.hid (HG2.out.trans (grown_none HG02.out))
      have HBb2 := Lib.hid (HB2.out.grown HG02.out (by simp))
      clear HG02
      cases p2 with
      | true =>
        go_wp2
        go_roundw
        case rel => exact ⟨x2 + 1, by go_num, by omega, by omega, Lib.hid (by rw [← HO2.out, scanUp_go hl2 (by simp [HP2.out])]), HSb2, HBb2, HGb2⟩
        case measure => simp [intOf] <;> omega
      | false =>
        have HE2 : Hid (scanUp (fun x => lt x d1[a]!) d1 y0 (a + 1) = x2) := Lib.hid (by rw [← HO2.out, scanUp_end (.inr (by simp [HP2.out]))])
        go_wp2_with fail
        go_loopw [11] (fun i wr => ∃ y3 : Nat, i = .int .i64 y3 ∧ a ≤ y3 ∧ y3 ≤ y0 ∧ Hid (scanDown (fun x => !lt x d1[a]!) d1 x2 y3 = scanDown (fun x => !lt x d1[a]!) d1 x2 y0) ∧ Hid (Sw d1 wr) ∧ Hid (Blok wr w.heap.size 73 #[.func (.func l) la lb, .func (.func s) #[] sb]) ∧ Hid (w.grownBy wr (some g))) (fun i _ => (intOf i).toNat)
        case atStart => exact ⟨y0, by go_num, by omega, by omega, Lib.hid rfl, HSb2, HBb2, HGb2⟩
        case round =>
          obtain ⟨y3, rfl, ha3, hb3, HO3, HS3, HB3, HG3⟩ := hrel
          by_cases hl3 : x2 ≤ y3
          · have dl3 : decide ((x2 : Int) ≤ y3) = true := by simp; omega
            have c0 := HB3.out.at0
            obtain ⟨p3, hp3⟩ : ∃ p, lt d1[y3]! d1[a]! = p := ⟨_, rfl⟩
            have hc3 := SS.out.lesses y3 a HS3.out (by omega) (by omega) hp3
            have HP3 := Lib.hid hp3
            clear hp3
            go_wp2_with fail
            refine hc3.mono ?_
            rintro e wb3 ⟨rfl, HSb3, HG03⟩
            clear hc3 c0
            have HGb3 := Lib.hid (HG3.out.trans (grown_none HG03.out))
            have HBb3 := Lib.hid (HB3.out.grown HG03.out (by simp))
            clear HG03
            cases p3 with
            | false =>
              go_wp2
              go_roundw
              case rel => exact ⟨y3 - 1, by go_num, by omega, by omega, Lib.hid (by rw [← HO3.out, scanDown_go hl3 (by simp [HP3.out])]), HSb3, HBb3, HGb3⟩
              case measure => simp [intOf] <;> omega
            | true =>
              have HE3 : Hid (scanDown (fun x => !lt x d1[a]!) d1 x2 y0 = y3) := Lib.hid (by rw [← HO3.out, scanDown_end (.inr (by simp [HP3.out]))])
              have hgt : decide (y3 < x2) = false := by simp; omega
              obtain ⟨w4, hr4, HS4, HG04⟩ := SS.out.swap (x2) (y3) HSb3.out (by omega) (by omega)
              have HS4 := Lib.hid HS4
              have HG4 := Lib.hid (HGb3.out.trans HG04)
              have HB4 := Lib.hid (HBb3.out.grown HG04 (by simp; omega))
              have c1 := HBb3.out.at1
              clear HG04
              have HF : Hid (partLoop lt a (x2 + 1) (y3 - 1) (swp d1 x2 y3) = (mid, (partLoop lt a (x2 + 1) (y3 - 1) (swp d1 x2 y3)).2) ∧ ap = false ∧ d' = swp (partLoop lt a (x2 + 1) (y3 - 1) (swp d1 x2 y3)).2 mid a) := Lib.hid (by
                have h1 := HE2.out
                have h2 := HE3.out
                rw [HY.out, HD1.out] at h1 h2
                have h3 := part_late h1 h2 (by omega)
                rw [HR.out, ← HD1.out] at h3
                simp only [Prod.mk.injEq] at h3
                obtain ⟨h4, h5, h6⟩ := h3
                rw [← h4] at h6
                exact ⟨Prod.ext h4.symm rfl, h5, h6⟩)
              obtain ⟨dd, hdd⟩ : ∃ x, (partLoop lt a (x2 + 1) (y3 - 1) (swp d1 x2 y3)).2 = x := ⟨_, rfl⟩
              rw [hdd] at HF
              have HPL : Hid (partLoop lt a (x2 + 1) (y3 - 1) (swp d1 x2 y3) = (mid, dd)) := Lib.hid HF.out.1
              have HAP := Lib.hid HF.out.2.1
              have HDD := Lib.hid HF.out.2.2
              clear HF hdd
              obtain ⟨d2, hd2⟩ : ∃ x, x = swp d1 x2 y3 := ⟨_, rfl⟩
              rw [← hd2] at HS4 HPL
              clear hd2
              go_wp2_with fail
              go_loopw [10, 11] (fun i j wr => ∃ (x y : Nat) (dk : Array α), i = .int .i64 x ∧ j = .int .i64 y ∧ a + 1 ≤ x ∧ x ≤ b ∧ a ≤ y ∧ y < b ∧ Hid (partLoop lt a x y dk = (mid, dd)) ∧ Hid (Sw dk wr) ∧ Hid (Blok wr w.heap.size 73 #[.func (.func l) la lb, .func (.func s) #[] sb]) ∧ Hid (w.grownBy wr (some g))) (fun _ j _ => (intOf j).toNat)
              case atStart => exact ⟨x2 + 1, y3 - 1, d2, by go_num, by go_num, by omega, by omega, by omega, by omega, HPL, HS4, HB4, HG4⟩
              case round =>
                obtain ⟨X, Y, dk, rfl, rfl, hX1, hX2, hY1, hY2, HO, HS, HB, HG⟩ := hrel
                go_wp2_with fail
                go_loopw [10] (fun i wr => ∃ x5 : Nat, i = .int .i64 x5 ∧ a + 1 ≤ x5 ∧ x5 ≤ b ∧ Hid (scanUp (fun x => lt x dk[a]!) dk Y x5 = scanUp (fun x => lt x dk[a]!) dk Y X) ∧ Hid (Sw dk wr) ∧ Hid (Blok wr w.heap.size 73 #[.func (.func l) la lb, .func (.func s) #[] sb]) ∧ Hid (w.grownBy wr (some g))) (fun i _ => b + 1 - (intOf i).toNat)
                case atStart => exact ⟨X, by go_num, by omega, by omega, Lib.hid rfl, HS, HB, HG⟩
                case round =>
                  obtain ⟨x5, rfl, ha5, hb5, HO5, HS5, HB5, HG5⟩ := hrel
                  by_cases hl5 : x5 ≤ Y
                  · have dl5 : decide ((x5 : Int) ≤ Y) = true := by simp; omega
                    have c0 := HB5.out.at0
                    obtain ⟨p5, hp5⟩ : ∃ p, lt dk[x5]! dk[a]! = p := ⟨_, rfl⟩
                    have hc5 := SS.out.lesses x5 a HS5.out (by omega) (by omega) hp5
                    have HP5 := Lib.hid hp5
                    clear hp5
                    go_wp2_with fail
                    refine hc5.mono ?_
                    rintro e wb5 ⟨rfl, HSb5, HG05⟩
                    clear hc5 c0
                    have HGb5 := Lib.hid (HG5.out.trans (grown_none HG05.out))
                    have HBb5 := Lib.hid (HB5.out.grown HG05.out (by simp))
                    clear HG05
                    cases p5 with
                    | true =>
                      go_wp2
                      go_roundw
                      case rel => exact ⟨x5 + 1, by go_num, by omega, by omega, Lib.hid (by rw [← HO5.out, scanUp_go hl5 (by simp [HP5.out])]), HSb5, HBb5, HGb5⟩
                      case measure => simp [intOf] <;> omega
                    | false =>
                      have HE5 : Hid (scanUp (fun x => lt x dk[a]!) dk Y X = x5) := Lib.hid (by rw [← HO5.out, scanUp_end (.inr (by simp [HP5.out]))])
                      go_wp2_with fail
                      go_loopw [11] (fun i wr => ∃ y6 : Nat, i = .int .i64 y6 ∧ a ≤ y6 ∧ y6 ≤ Y ∧ Hid (scanDown (fun x => !lt x dk[a]!) dk x5 y6 = scanDown (fun x => !lt x dk[a]!) dk x5 Y) ∧ Hid (Sw dk wr) ∧ Hid (Blok wr w.heap.size 73 #[.func (.func l) la lb, .func (.func s) #[] sb]) ∧ Hid (w.grownBy wr (some g))) (fun i _ => (intOf i).toNat)
                      case atStart => exact ⟨Y, by go_num, by omega, by omega, Lib.hid rfl, HSb5, HBb5, HGb5⟩
                      case round =>
                        obtain ⟨y6, rfl, ha6, hb6, HO6, HS6, HB6, HG6⟩ := hrel
                        by_cases hl6 : x5 ≤ y6
                        · have dl6 : decide ((x5 : Int) ≤ y6) = true := by simp; omega
                          have c0 := HB6.out.at0
                          obtain ⟨p6, hp6⟩ : ∃ p, lt dk[y6]! dk[a]! = p := ⟨_, rfl⟩
                          have hc6 := SS.out.lesses y6 a HS6.out (by omega) (by omega) hp6
                          have HP6 := Lib.hid hp6
                          clear hp6
                          go_wp2_with fail
                          refine hc6.mono ?_
                          rintro e wb6 ⟨rfl, HSb6, HG06⟩
                          clear hc6 c0
                          have HGb6 := Lib.hid (HG6.out.trans (grown_none HG06.out))
                          have HBb6 := Lib.hid (HB6.out.grown HG06.out (by simp))
                          clear HG06
                          cases p6 with
                          | false =>
                            go_wp2
                            go_roundw
                            case rel => exact ⟨y6 - 1, by go_num, by omega, by omega, Lib.hid (by rw [← HO6.out, scanDown_go hl6 (by simp [HP6.out])]), HSb6, HBb6, HGb6⟩
                            case measure => simp [intOf] <;> omega
                          | true =>
                            have HE6 : Hid (scanDown (fun x => !lt x dk[a]!) dk x5 Y = y6) := Lib.hid (by rw [← HO6.out, scanDown_end (.inr (by simp [HP6.out]))])
                            have hgt : decide (y6 < x5) = false := by simp; omega
                            obtain ⟨w7, hr7, HS7, HG07⟩ := SS.out.swap (x5) (y6) HSb6.out (by omega) (by omega)
                            have HS7 := Lib.hid HS7
                            have HG7 := Lib.hid (HGb6.out.trans HG07)
                            have HB7 := Lib.hid (HBb6.out.grown HG07 (by simp; omega))
                            have c1 := HBb6.out.at1
                            clear HG07
                            go_wp2
                            go_roundw
                            case rel => exact ⟨x5 + 1, y6 - 1, swp dk x5 y6, by go_num, by go_num, by omega, by omega, by omega, by omega, Lib.hid (by rw [← HO.out, ploop_go HE5.out HE6.out (by omega)]), HS7, HB7, HG7⟩
                            case measure => simp [intOf] <;> omega
                        · have dl6 : decide ((x5 : Int) ≤ y6) = false := by simp; omega
                          have HE6 : Hid (scanDown (fun x => !lt x dk[a]!) dk x5 Y = y6) := Lib.hid (by rw [← HO6.out, scanDown_end (.inl hl6)])
                          have hgt : decide (y6 < x5) = true := by simp; omega
                          obtain ⟨w8, hr8, HS8, HG08⟩ := SS.out.swap (y6) (a) HS6.out (by omega) (by omega)
                          have HS8 := Lib.hid HS8
                          have HG8 := Lib.hid (HG6.out.trans HG08)
                          have HB8 := Lib.hid (HB6.out.grown HG08 (by simp; omega))
                          have c1 := HB6.out.at1
                          clear HG08
                          have HF : Hid (mid = y6 ∧ dd = dk) := Lib.hid (by
                            have h3 := ploop_end HE5.out HE6.out (by omega)
                            rw [HO.out] at h3
                            simpa only [Prod.mk.injEq] using h3)
                          obtain ⟨rfl, rfl⟩ := HF.out
                          rw [← HDD.out] at HS8
                          obtain rfl := HAP.out
                          go_wp2
                          go_ret2
                          exact ⟨rfl, HS8, HG8⟩
                  · have dl5 : decide ((x5 : Int) ≤ Y) = false := by simp; omega
                    have HE5 : Hid (scanUp (fun x => lt x dk[a]!) dk Y X = x5) := Lib.hid (by rw [← HO5.out, scanUp_end (.inl hl5)])
                    go_wp2_with fail
                    go_loopw [11] (fun i wr => ∃ y9 : Nat, i = .int .i64 y9 ∧ a ≤ y9 ∧ y9 ≤ Y ∧ Hid (scanDown (fun x => !lt x dk[a]!) dk x5 y9 = scanDown (fun x => !lt x dk[a]!) dk x5 Y) ∧ Hid (Sw dk wr) ∧ Hid (Blok wr w.heap.size 73 #[.func (.func l) la lb, .func (.func s) #[] sb]) ∧ Hid (w.grownBy wr (some g))) (fun i _ => (intOf i).toNat)
                    case atStart => exact ⟨Y, by go_num, by omega, by omega, Lib.hid rfl, HS5, HB5, HG5⟩
                    case round =>
                      obtain ⟨y9, rfl, ha9, hb9, HO9, HS9, HB9, HG9⟩ := hrel
                      by_cases hl9 : x5 ≤ y9
                      · omega
                      · have dl9 : decide ((x5 : Int) ≤ y9) = false := by simp; omega
                        have HE9 : Hid (scanDown (fun x => !lt x dk[a]!) dk x5 Y = y9) := Lib.hid (by rw [← HO9.out, scanDown_end (.inl hl9)])
                        have hgt : decide (y9 < x5) = true := by simp; omega
                        obtain ⟨w10, hr10, HS10, HG010⟩ := SS.out.swap (y9) (a) HS9.out (by omega) (by omega)
                        have HS10 := Lib.hid HS10
                        have HG10 := Lib.hid (HG9.out.trans HG010)
                        have HB10 := Lib.hid (HB9.out.grown HG010 (by simp; omega))
                        have c1 := HB9.out.at1
                        clear HG010
                        have HF : Hid (mid = y9 ∧ dd = dk) := Lib.hid (by
                          have h3 := ploop_end HE5.out HE9.out (by omega)
                          rw [HO.out] at h3
                          simpa only [Prod.mk.injEq] using h3)
                        obtain ⟨rfl, rfl⟩ := HF.out
                        rw [← HDD.out] at HS10
                        obtain rfl := HAP.out
                        go_wp2
                        go_ret2
                        exact ⟨rfl, HS10, HG10⟩
          · have dl3 : decide ((x2 : Int) ≤ y3) = false := by simp; omega
            have HE3 : Hid (scanDown (fun x => !lt x d1[a]!) d1 x2 y0 = y3) := Lib.hid (by rw [← HO3.out, scanDown_end (.inl hl3)])
            have hgt : decide (y3 < x2) = true := by simp; omega
            obtain ⟨w11, hr11, HS11, HG011⟩ := SS.out.swap (y3) (a) HS3.out (by omega) (by omega)
            have HS11 := Lib.hid HS11
            have HG11 := Lib.hid (HG3.out.trans HG011)
            have HB11 := Lib.hid (HB3.out.grown HG011 (by simp; omega))
            have c1 := HB3.out.at1
            clear HG011
            have HF : Hid (mid = y3 ∧ ap = true ∧ d' = swp d1 y3 a) := Lib.hid (by
              have h1 := HE2.out
              have h2 := HE3.out
              rw [HY.out, HD1.out] at h1 h2
              have h3 := part_early h1 h2 (by omega)
              rw [HR.out, ← HD1.out] at h3
              simp only [Prod.mk.injEq] at h3
              exact h3)
            obtain ⟨rfl, rfl, hd'⟩ := HF.out
            rw [← hd'] at HS11
            clear HF hd'
            go_wp2
            go_ret2
            exact ⟨rfl, HS11, HG11⟩
    · have dl2 : decide ((x2 : Int) ≤ y0) = false := by simp; omega
      have HE2 : Hid (scanUp (fun x => lt x d1[a]!) d1 y0 (a + 1) = x2) := Lib.hid (by rw [← HO2.out, scanUp_end (.inl hl2)])
      go_wp2_with fail
      go_loopw [11] (fun i wr => ∃ y12 : Nat, i = .int .i64 y12 ∧ a ≤ y12 ∧ y12 ≤ y0 ∧ Hid (scanDown (fun x => !lt x d1[a]!) d1 x2 y12 = scanDown (fun x => !lt x d1[a]!) d1 x2 y0) ∧ Hid (Sw d1 wr) ∧ Hid (Blok wr w.heap.size 73 #[.func (.func l) la lb, .func (.func s) #[] sb]) ∧ Hid (w.grownBy wr (some g))) (fun i _ => (intOf i).toNat)
      case atStart => exact ⟨y0, by go_num, by omega, by omega, Lib.hid rfl, HS2, HB2, HG2⟩
      case round =>
        obtain ⟨y12, rfl, ha12, hb12, HO12, HS12, HB12, HG12⟩ := hrel
        by_cases hl12 : x2 ≤ y12
        · omega
        · have dl12 : decide ((x2 : Int) ≤ y12) = false := by simp; omega
          have HE12 : Hid (scanDown (fun x => !lt x d1[a]!) d1 x2 y0 = y12) := Lib.hid (by rw [← HO12.out, scanDown_end (.inl hl12)])
          have hgt : decide (y12 < x2) = true := by simp; omega
          obtain ⟨w13, hr13, HS13, HG013⟩ := SS.out.swap (y12) (a) HS12.out (by omega) (by omega)
          have HS13 := Lib.hid HS13
          have HG13 := Lib.hid (HG12.out.trans HG013)
          have HB13 := Lib.hid (HB12.out.grown HG013 (by simp; omega))
          have c1 := HB12.out.at1
          clear HG013
          have HF : Hid (mid = y12 ∧ ap = true ∧ d' = swp d1 y12 a) := Lib.hid (by
            have h1 := HE2.out
            have h2 := HE12.out
            rw [HY.out, HD1.out] at h1 h2
            have h3 := part_early h1 h2 (by omega)
            rw [HR.out, ← HD1.out] at h3
            simp only [Prod.mk.injEq] at h3
            exact h3)
          obtain ⟨rfl, rfl, hd'⟩ := HF.out
          rw [← hd'] at HS13
          clear HF hd'
          go_wp2
          go_ret2
          exact ⟨rfl, HS13, HG13⟩
end Go.Proofs.Ytmegkfonodcoiaa
