import Derived.Test.YtonejangijkdmaaGreatSA
import Derived.Sort.WalkA6
namespace Go.Proofs.YtonejangijkdmaaGreat
set_option maxHeartbeats 1000000
set_option maxRecDepth 100000
open Go.RowKit Go.Sort
variable {α : Type} [Inhabited α] {lt : α -> α -> Bool} {l : Nat} {la lb : Array Value} {s : Nat} {sb : Array Value} {g n : Nat} {Sw : Array α -> World -> Prop}
theorem zdr {p : α -> Bool} {d : Array α} {j i : Nat} (h : i <= j) (hp : p d[i]! = true) : scanUp p d j i = scanUp p d j (i + 1) := by
 rw [scanUp]; simp [h, hp]
theorem zbn {p : α -> Bool} {d : Array α} {j i : Nat} (h : ¬ i <= j \/ p d[i]! = false) : scanUp p d j i = i := by
 rw [scanUp]; rcases h with h | h <;> simp [h]
theorem zch {p : α -> Bool} {d : Array α} {j i : Nat} (h : i <= j) (hp : p d[j]! = true) (hi : 0 < j := by omega) : scanDown p d i j = scanDown p d i (j - 1) := by
 obtain ⟨j, rfl⟩ : ∃ m, j = m + 1 := ⟨j - 1, by omega⟩
 rw [scanDown]; simp [h, hp]
theorem zav {p : α -> Bool} {d : Array α} {j i : Nat} (h : ¬ i <= j \/ p d[j]! = false) : scanDown p d i j = j := by
 cases j with
 | zero => rfl
 | succ j => rw [scanDown]; rcases h with h | h <;> simp [h]
theorem zet {a b pv x y : Nat} {d : Array α} (hx : scanUp (fun x => lt x (swp d a pv)[a]!) (swp d a pv) (b - 1) (a + 1) = x) (hy : scanDown (fun x => !lt x (swp d a pv)[a]!) (swp d a pv) x (b - 1) = y) (h : y < x) : Sort.partition lt d a b pv = (y, true, swp (swp d a pv) y a) := by
 unfold Sort.partition
 simp only [hx, hy]
 rw [if_pos h]
theorem zi0 {a b pv x y : Nat} {d : Array α} (hx : scanUp (fun x => lt x (swp d a pv)[a]!) (swp d a pv) (b - 1) (a + 1) = x) (hy : scanDown (fun x => !lt x (swp d a pv)[a]!) (swp d a pv) x (b - 1) = y) (h : ¬ y < x) : Sort.partition lt d a b pv = ((partLoop lt a (x + 1) (y - 1) (swp (swp d a pv) x y)).1, false, swp (partLoop lt a (x + 1) (y - 1) (swp (swp d a pv) x y)).2 (partLoop lt a (x + 1) (y - 1) (swp (swp d a pv) x y)).1 a) := by
 unfold Sort.partition
 simp only [hx, hy]
 rw [if_neg h]
theorem zfc {a i j x y : Nat} {d : Array α} (hx : scanUp (fun x => lt x d[a]!) d j i = x) (hy : scanDown (fun x => !lt x d[a]!) d x j = y) (h : y < x) : partLoop lt a i j d = (y, d) := by
 rw [partLoop_eq, hx, hy, if_pos h]
theorem zki {a i j x y : Nat} {d : Array α} (hx : scanUp (fun x => lt x d[a]!) d j i = x) (hy : scanDown (fun x => !lt x d[a]!) d x j = y) (h : ¬ y < x) : partLoop lt a i j d = partLoop lt a (x + 1) (y - 1) (swp d x y) := by
 rw [partLoop_eq, hx, hy, if_neg h]
theorem zi1 {a i j x y : Nat} {d : Array α} (hx : scanUp (fun x => !lt d[a]! x) d j i = x) (hy : scanDown (fun x => lt d[a]! x) d x j = y) (h : y < x) : partEqLoop lt a i j d = (x, d) := by
 rw [partEqLoop_eq, hx, hy, if_pos h]
theorem zmg {a i j x y : Nat} {d : Array α} (hx : scanUp (fun x => !lt d[a]! x) d j i = x) (hy : scanDown (fun x => lt d[a]! x) d x j = y) (h : ¬ y < x) : partEqLoop lt a i j d = partEqLoop lt a (x + 1) (y - 1) (swp d x y) := by
 rw [partEqLoop_eq, hx, hy, if_neg h]
theorem zkj (S : SortBy lt l la lb s sb g n Sw) (a b pv mid : Nat) (ap : Bool) (d d' : Array α) (w : World) (ha : a <= pv) (hpv : pv < b) (hb : b <= n) (h : Sw d w) (hr : Sort.partition lt d a b pv = (mid, ap, d')) :
  Calls Tryz.prog 252 #[.agg #[.func (.func l) la lb, .func (.func s) #[] sb], .int .i64 a, .int .i64 b, .int .i64 pv] w fun e w' => e = .returned (.tuple #[.int .i64 mid, .bool ap]) /\ Hid (Sw d' w') /\ Hid (w.grownBy w' (some g)) := by
 have BX : Hid (Blok (w.alloc (.cells #[.func (.func l) la lb, .func (.func s) #[] sb] 228)) w.heap.size 228 #[.func (.func l) la lb, .func (.func s) #[] sb]) := Zh (Blok.new _ _ _)
 have GX : Hid (w.grownBy (w.alloc (.cells #[.func (.func l) la lb, .func (.func s) #[] sb] 228)) none) := Zh (World.grownBy_alloc _ _ _)
 have H1 := Zh (S.keep h GX.out (by simp))
 have G1 := Zh (zac (row := some g) GX.out)
 have SS := Zh S
 have hm := S.most
 have hgw := S.inb h
 have eg := S.enters
 clear h S GX
 have HR := Zh hr
 clear hr
 obtain ⟨y0, hy0⟩ : ∃ y, y = b - 1 := ⟨_, rfl⟩
 have hyb : (b : Int) - 1 = (y0 : Int) := by omega
 have HY := Zh hy0
 have hy1 : y0 < b := by omega
 have hy2 : a <= y0 := by omega
 clear hy0
 obtain ⟨w1, hr1, HS1, HG01⟩ := SS.out.swap (a) (pv) H1.out (by omega) (by omega)
 have HS1 := Zh HS1
 have HG1 := Zh (G1.out.trans HG01)
 have HB1 := Zh (BX.out.grown HG01 (by simp; omega))
 have c1 := BX.out.at1
 clear HG01
 obtain ⟨d1, hd1⟩ : ∃ x, x = swp d a pv := ⟨_, rfl⟩
 rw [<- hd1] at HS1
 have HD1 := Zh hd1
 clear hd1
 go_enter Tryz.func252, Tryz.ntmps252
 go_wp2_with fail
 go_loopw [10] (fun i wr => ∃ x2 : Nat, i = .int .i64 x2 /\ a + 1 <= x2 /\ x2 <= b /\ Hid (scanUp (fun x => lt x d1[a]!) d1 y0 x2 = scanUp (fun x => lt x d1[a]!) d1 y0 (a + 1)) /\ Hid (Sw d1 wr) /\ Hid (Blok wr w.heap.size 228 #[.func (.func l) la lb, .func (.func s) #[] sb]) /\ Hid (w.grownBy wr (some g))) (fun i _ => b + 1 - (intOf i).toNat)
 case atStart => exact ⟨(a + 1), by go_num, by omega, by omega, Zh rfl, HS1, HB1, HG1⟩
 case round =>
  obtain ⟨x2, rfl, ha2, hb2, HO2, HS2, HB2, HG2⟩ := hrel
  by_cases hl2 : x2 <= y0
  ·have dl2 : decide ((x2 : Int) <= y0) = true := by simp; omega
   have c0 := HB2.out.at0
   obtain ⟨p2, hp2⟩ : ∃ p, lt d1[x2]! d1[a]! = p := ⟨_, rfl⟩
   have hc2 := SS.out.lesses x2 a HS2.out (by omega) (by omega) hp2
   have HP2 := Zh hp2
   clear hp2
   go_wp2_with fail
   refine hc2.mono ?_
   rintro e wb2 ⟨rfl, HSb2, HG02⟩
   clear hc2 c0
   have HGb2 := Zh (HG2.out.trans (zac HG02.out))
   have HBb2 := Zh (HB2.out.grown HG02.out (by simp))
   clear HG02
   cases p2 with
   | true =>
    go_wp2
    go_roundw
    case rel => exact ⟨x2 + 1, by go_num, by omega, by omega, Zh (by rw [<- HO2.out, zdr hl2 (by simp [HP2.out])]), HSb2, HBb2, HGb2⟩
    case measure => simp [intOf] <;> omega
   | false =>
    have HE2 : Hid (scanUp (fun x => lt x d1[a]!) d1 y0 (a + 1) = x2) := Zh (by rw [<- HO2.out, zbn (.inr (by simp [HP2.out]))])
    go_wp2_with fail
    go_loopw [11] (fun i wr => ∃ y3 : Nat, i = .int .i64 y3 /\ a <= y3 /\ y3 <= y0 /\ Hid (scanDown (fun x => !lt x d1[a]!) d1 x2 y3 = scanDown (fun x => !lt x d1[a]!) d1 x2 y0) /\ Hid (Sw d1 wr) /\ Hid (Blok wr w.heap.size 228 #[.func (.func l) la lb, .func (.func s) #[] sb]) /\ Hid (w.grownBy wr (some g))) (fun i _ => (intOf i).toNat)
    case atStart => exact ⟨y0, by go_num, by omega, by omega, Zh rfl, HSb2, HBb2, HGb2⟩
    case round =>
     obtain ⟨y3, rfl, ha3, hb3, HO3, HS3, HB3, HG3⟩ := hrel
     by_cases hl3 : x2 <= y3
     ·have dl3 : decide ((x2 : Int) <= y3) = true := by simp; omega
      have c0 := HB3.out.at0
      obtain ⟨p3, hp3⟩ : ∃ p, lt d1[y3]! d1[a]! = p := ⟨_, rfl⟩
      have hc3 := SS.out.lesses y3 a HS3.out (by omega) (by omega) hp3
      have HP3 := Zh hp3
      clear hp3
      go_wp2_with fail
      refine hc3.mono ?_
      rintro e wb3 ⟨rfl, HSb3, HG03⟩
      clear hc3 c0
      have HGb3 := Zh (HG3.out.trans (zac HG03.out))
      have HBb3 := Zh (HB3.out.grown HG03.out (by simp))
      clear HG03
      cases p3 with
      | false =>
       go_wp2
       go_roundw
       case rel => exact ⟨y3 - 1, by go_num, by omega, by omega, Zh (by rw [<- HO3.out, zch hl3 (by simp [HP3.out])]), HSb3, HBb3, HGb3⟩
       case measure => simp [intOf] <;> omega
      | true =>
       have HE3 : Hid (scanDown (fun x => !lt x d1[a]!) d1 x2 y0 = y3) := Zh (by rw [<- HO3.out, zav (.inr (by simp [HP3.out]))])
       have hgt : decide (y3 < x2) = false := by simp; omega
       obtain ⟨w4, hr4, HS4, HG04⟩ := SS.out.swap (x2) (y3) HSb3.out (by omega) (by omega)
       have HS4 := Zh HS4
       have HG4 := Zh (HGb3.out.trans HG04)
       have HB4 := Zh (HBb3.out.grown HG04 (by simp; omega))
       have c1 := HBb3.out.at1
       clear HG04
       have HF : Hid (partLoop lt a (x2 + 1) (y3 - 1) (swp d1 x2 y3) = (mid, (partLoop lt a (x2 + 1) (y3 - 1) (swp d1 x2 y3)).2) /\ ap = false /\ d' = swp (partLoop lt a (x2 + 1) (y3 - 1) (swp d1 x2 y3)).2 mid a) := Zh (by
        have h1 := HE2.out
        have h2 := HE3.out
        rw [HY.out, HD1.out] at h1 h2
        have h3 := zi0 h1 h2 (by omega)
        rw [HR.out, <- HD1.out] at h3
        simp only [Prod.mk.injEq] at h3
        obtain ⟨h4, h5, h6⟩ := h3
        rw [<- h4] at h6
        exact ⟨Prod.ext h4.symm rfl, h5, h6⟩)
       obtain ⟨dd, hdd⟩ : ∃ x, (partLoop lt a (x2 + 1) (y3 - 1) (swp d1 x2 y3)).2 = x := ⟨_, rfl⟩
       rw [hdd] at HF
       have HPL : Hid (partLoop lt a (x2 + 1) (y3 - 1) (swp d1 x2 y3) = (mid, dd)) := Zh HF.out.1
       have HAP := Zh HF.out.2.1
       have HDD := Zh HF.out.2.2
       clear HF hdd
       obtain ⟨d2, hd2⟩ : ∃ x, x = swp d1 x2 y3 := ⟨_, rfl⟩
       rw [<- hd2] at HS4 HPL
       clear hd2
       go_wp2_with fail
       go_loopw [10, 11] (fun i j wr => ∃ (x y : Nat) (dk : Array α), i = .int .i64 x /\ j = .int .i64 y /\ a + 1 <= x /\ x <= b /\ a <= y /\ y < b /\ Hid (partLoop lt a x y dk = (mid, dd)) /\ Hid (Sw dk wr) /\ Hid (Blok wr w.heap.size 228 #[.func (.func l) la lb, .func (.func s) #[] sb]) /\ Hid (w.grownBy wr (some g))) (fun _ j _ => (intOf j).toNat)
       case atStart => exact ⟨x2 + 1, y3 - 1, d2, by go_num, by go_num, by omega, by omega, by omega, by omega, HPL, HS4, HB4, HG4⟩
       case round =>
        obtain ⟨X, Y, dk, rfl, rfl, hX1, hX2, hY1, hY2, HO, HS, HB, HG⟩ := hrel
        go_wp2_with fail
        go_loopw [10] (fun i wr => ∃ x5 : Nat, i = .int .i64 x5 /\ a + 1 <= x5 /\ x5 <= b /\ Hid (scanUp (fun x => lt x dk[a]!) dk Y x5 = scanUp (fun x => lt x dk[a]!) dk Y X) /\ Hid (Sw dk wr) /\ Hid (Blok wr w.heap.size 228 #[.func (.func l) la lb, .func (.func s) #[] sb]) /\ Hid (w.grownBy wr (some g))) (fun i _ => b + 1 - (intOf i).toNat)
        case atStart => exact ⟨X, by go_num, by omega, by omega, Zh rfl, HS, HB, HG⟩
        case round =>
         obtain ⟨x5, rfl, ha5, hb5, HO5, HS5, HB5, HG5⟩ := hrel
         by_cases hl5 : x5 <= Y
         ·have dl5 : decide ((x5 : Int) <= Y) = true := by simp; omega
          have c0 := HB5.out.at0
          obtain ⟨p5, hp5⟩ : ∃ p, lt dk[x5]! dk[a]! = p := ⟨_, rfl⟩
          have hc5 := SS.out.lesses x5 a HS5.out (by omega) (by omega) hp5
          have HP5 := Zh hp5
          clear hp5
          go_wp2_with fail
          refine hc5.mono ?_
          rintro e wb5 ⟨rfl, HSb5, HG05⟩
          clear hc5 c0
          have HGb5 := Zh (HG5.out.trans (zac HG05.out))
          have HBb5 := Zh (HB5.out.grown HG05.out (by simp))
          clear HG05
          cases p5 with
          | true =>
           go_wp2
           go_roundw
           case rel => exact ⟨x5 + 1, by go_num, by omega, by omega, Zh (by rw [<- HO5.out, zdr hl5 (by simp [HP5.out])]), HSb5, HBb5, HGb5⟩
           case measure => simp [intOf] <;> omega
          | false =>
           have HE5 : Hid (scanUp (fun x => lt x dk[a]!) dk Y X = x5) := Zh (by rw [<- HO5.out, zbn (.inr (by simp [HP5.out]))])
           go_wp2_with fail
           go_loopw [11] (fun i wr => ∃ y6 : Nat, i = .int .i64 y6 /\ a <= y6 /\ y6 <= Y /\ Hid (scanDown (fun x => !lt x dk[a]!) dk x5 y6 = scanDown (fun x => !lt x dk[a]!) dk x5 Y) /\ Hid (Sw dk wr) /\ Hid (Blok wr w.heap.size 228 #[.func (.func l) la lb, .func (.func s) #[] sb]) /\ Hid (w.grownBy wr (some g))) (fun i _ => (intOf i).toNat)
           case atStart => exact ⟨Y, by go_num, by omega, by omega, Zh rfl, HSb5, HBb5, HGb5⟩
           case round =>
            obtain ⟨y6, rfl, ha6, hb6, HO6, HS6, HB6, HG6⟩ := hrel
            by_cases hl6 : x5 <= y6
            ·have dl6 : decide ((x5 : Int) <= y6) = true := by simp; omega
             have c0 := HB6.out.at0
             obtain ⟨p6, hp6⟩ : ∃ p, lt dk[y6]! dk[a]! = p := ⟨_, rfl⟩
             have hc6 := SS.out.lesses y6 a HS6.out (by omega) (by omega) hp6
             have HP6 := Zh hp6
             clear hp6
             go_wp2_with fail
             refine hc6.mono ?_
             rintro e wb6 ⟨rfl, HSb6, HG06⟩
             clear hc6 c0
             have HGb6 := Zh (HG6.out.trans (zac HG06.out))
             have HBb6 := Zh (HB6.out.grown HG06.out (by simp))
             clear HG06
             cases p6 with
             | false =>
              go_wp2
              go_roundw
              case rel => exact ⟨y6 - 1, by go_num, by omega, by omega, Zh (by rw [<- HO6.out, zch hl6 (by simp [HP6.out])]), HSb6, HBb6, HGb6⟩
              case measure => simp [intOf] <;> omega
             | true =>
              have HE6 : Hid (scanDown (fun x => !lt x dk[a]!) dk x5 Y = y6) := Zh (by rw [<- HO6.out, zav (.inr (by simp [HP6.out]))])
              have hgt : decide (y6 < x5) = false := by simp; omega
              obtain ⟨w7, hr7, HS7, HG07⟩ := SS.out.swap (x5) (y6) HSb6.out (by omega) (by omega)
              have HS7 := Zh HS7
              have HG7 := Zh (HGb6.out.trans HG07)
              have HB7 := Zh (HBb6.out.grown HG07 (by simp; omega))
              have c1 := HBb6.out.at1
              clear HG07
              go_wp2
              go_roundw
              case rel => exact ⟨x5 + 1, y6 - 1, swp dk x5 y6, by go_num, by go_num, by omega, by omega, by omega, by omega, Zh (by rw [<- HO.out, zki HE5.out HE6.out (by omega)]), HS7, HB7, HG7⟩
              case measure => simp [intOf] <;> omega
            ·have dl6 : decide ((x5 : Int) <= y6) = false := by simp; omega
             have HE6 : Hid (scanDown (fun x => !lt x dk[a]!) dk x5 Y = y6) := Zh (by rw [<- HO6.out, zav (.inl hl6)])
             have hgt : decide (y6 < x5) = true := by simp; omega
             obtain ⟨w8, hr8, HS8, HG08⟩ := SS.out.swap (y6) (a) HS6.out (by omega) (by omega)
             have HS8 := Zh HS8
             have HG8 := Zh (HG6.out.trans HG08)
             have HB8 := Zh (HB6.out.grown HG08 (by simp; omega))
             have c1 := HB6.out.at1
             clear HG08
             have HF : Hid (mid = y6 /\ dd = dk) := Zh (by
              have h3 := zfc HE5.out HE6.out (by omega)
              rw [HO.out] at h3
              simpa only [Prod.mk.injEq] using h3)
             obtain ⟨rfl, rfl⟩ := HF.out
             rw [<- HDD.out] at HS8
             obtain rfl := HAP.out
             go_wp2
             go_ret2
             exact ⟨rfl, HS8, HG8⟩
         ·have dl5 : decide ((x5 : Int) <= Y) = false := by simp; omega
          have HE5 : Hid (scanUp (fun x => lt x dk[a]!) dk Y X = x5) := Zh (by rw [<- HO5.out, zbn (.inl hl5)])
          go_wp2_with fail
          go_loopw [11] (fun i wr => ∃ y9 : Nat, i = .int .i64 y9 /\ a <= y9 /\ y9 <= Y /\ Hid (scanDown (fun x => !lt x dk[a]!) dk x5 y9 = scanDown (fun x => !lt x dk[a]!) dk x5 Y) /\ Hid (Sw dk wr) /\ Hid (Blok wr w.heap.size 228 #[.func (.func l) la lb, .func (.func s) #[] sb]) /\ Hid (w.grownBy wr (some g))) (fun i _ => (intOf i).toNat)
          case atStart => exact ⟨Y, by go_num, by omega, by omega, Zh rfl, HS5, HB5, HG5⟩
          case round =>
           obtain ⟨y9, rfl, ha9, hb9, HO9, HS9, HB9, HG9⟩ := hrel
           by_cases hl9 : x5 <= y9
           ·omega
           ·have dl9 : decide ((x5 : Int) <= y9) = false := by simp; omega
            have HE9 : Hid (scanDown (fun x => !lt x dk[a]!) dk x5 Y = y9) := Zh (by rw [<- HO9.out, zav (.inl hl9)])
            have hgt : decide (y9 < x5) = true := by simp; omega
            obtain ⟨w10, hr10, HS10, HG010⟩ := SS.out.swap (y9) (a) HS9.out (by omega) (by omega)
            have HS10 := Zh HS10
            have HG10 := Zh (HG9.out.trans HG010)
            have HB10 := Zh (HB9.out.grown HG010 (by simp; omega))
            have c1 := HB9.out.at1
            clear HG010
            have HF : Hid (mid = y9 /\ dd = dk) := Zh (by
             have h3 := zfc HE5.out HE9.out (by omega)
             rw [HO.out] at h3
             simpa only [Prod.mk.injEq] using h3)
            obtain ⟨rfl, rfl⟩ := HF.out
            rw [<- HDD.out] at HS10
            obtain rfl := HAP.out
            go_wp2
            go_ret2
            exact ⟨rfl, HS10, HG10⟩
     ·have dl3 : decide ((x2 : Int) <= y3) = false := by simp; omega
      have HE3 : Hid (scanDown (fun x => !lt x d1[a]!) d1 x2 y0 = y3) := Zh (by rw [<- HO3.out, zav (.inl hl3)])
      have hgt : decide (y3 < x2) = true := by simp; omega
      obtain ⟨w11, hr11, HS11, HG011⟩ := SS.out.swap (y3) (a) HS3.out (by omega) (by omega)
      have HS11 := Zh HS11
      have HG11 := Zh (HG3.out.trans HG011)
      have HB11 := Zh (HB3.out.grown HG011 (by simp; omega))
      have c1 := HB3.out.at1
      clear HG011
      have HF : Hid (mid = y3 /\ ap = true /\ d' = swp d1 y3 a) := Zh (by
       have h1 := HE2.out
       have h2 := HE3.out
       rw [HY.out, HD1.out] at h1 h2
       have h3 := zet h1 h2 (by omega)
       rw [HR.out, <- HD1.out] at h3
       simp only [Prod.mk.injEq] at h3
       exact h3)
      obtain ⟨rfl, rfl, hd'⟩ := HF.out
      rw [<- hd'] at HS11
      clear HF hd'
      go_wp2
      go_ret2
      exact ⟨rfl, HS11, HG11⟩
  ·have dl2 : decide ((x2 : Int) <= y0) = false := by simp; omega
   have HE2 : Hid (scanUp (fun x => lt x d1[a]!) d1 y0 (a + 1) = x2) := Zh (by rw [<- HO2.out, zbn (.inl hl2)])
   go_wp2_with fail
   go_loopw [11] (fun i wr => ∃ y12 : Nat, i = .int .i64 y12 /\ a <= y12 /\ y12 <= y0 /\ Hid (scanDown (fun x => !lt x d1[a]!) d1 x2 y12 = scanDown (fun x => !lt x d1[a]!) d1 x2 y0) /\ Hid (Sw d1 wr) /\ Hid (Blok wr w.heap.size 228 #[.func (.func l) la lb, .func (.func s) #[] sb]) /\ Hid (w.grownBy wr (some g))) (fun i _ => (intOf i).toNat)
   case atStart => exact ⟨y0, by go_num, by omega, by omega, Zh rfl, HS2, HB2, HG2⟩
   case round =>
    obtain ⟨y12, rfl, ha12, hb12, HO12, HS12, HB12, HG12⟩ := hrel
    by_cases hl12 : x2 <= y12
    ·omega
    ·have dl12 : decide ((x2 : Int) <= y12) = false := by simp; omega
     have HE12 : Hid (scanDown (fun x => !lt x d1[a]!) d1 x2 y0 = y12) := Zh (by rw [<- HO12.out, zav (.inl hl12)])
     have hgt : decide (y12 < x2) = true := by simp; omega
     obtain ⟨w13, hr13, HS13, HG013⟩ := SS.out.swap (y12) (a) HS12.out (by omega) (by omega)
     have HS13 := Zh HS13
     have HG13 := Zh (HG12.out.trans HG013)
     have HB13 := Zh (HB12.out.grown HG013 (by simp; omega))
     have c1 := HB12.out.at1
     clear HG013
     have HF : Hid (mid = y12 /\ ap = true /\ d' = swp d1 y12 a) := Zh (by
      have h1 := HE2.out
      have h2 := HE12.out
      rw [HY.out, HD1.out] at h1 h2
      have h3 := zet h1 h2 (by omega)
      rw [HR.out, <- HD1.out] at h3
      simp only [Prod.mk.injEq] at h3
      exact h3)
     obtain ⟨rfl, rfl, hd'⟩ := HF.out
     rw [<- hd'] at HS13
     clear HF hd'
     go_wp2
     go_ret2
     exact ⟨rfl, HS13, HG13⟩
open Go.RowKit Go.Sort
variable {α : Type} [Inhabited α] {lt : α -> α -> Bool} {l : Nat} {la lb : Array Value} {s : Nat} {sb : Array Value} {g n : Nat} {Sw : Array α -> World -> Prop}
theorem zhg (S : SortBy lt l la lb s sb g n Sw) (a b pv mid : Nat) (d d' : Array α) (w : World) (ha : a <= pv) (hpv : pv < b) (hb : b <= n) (h : Sw d w) (hr : partitionEqual lt d a b pv = (mid, d')) :
  Calls Tryz.prog 251 #[.agg #[.func (.func l) la lb, .func (.func s) #[] sb], .int .i64 a, .int .i64 b, .int .i64 pv] w fun e w' => e = .returned (.int .i64 mid) /\ Hid (Sw d' w') /\ Hid (w.grownBy w' (some g)) := by
 have BX : Hid (Blok (w.alloc (.cells #[.func (.func l) la lb, .func (.func s) #[] sb] 228)) w.heap.size 228 #[.func (.func l) la lb, .func (.func s) #[] sb]) := Zh (Blok.new _ _ _)
 have GX : Hid (w.grownBy (w.alloc (.cells #[.func (.func l) la lb, .func (.func s) #[] sb] 228)) none) := Zh (World.grownBy_alloc _ _ _)
 have H1 := Zh (S.keep h GX.out (by simp))
 have G1 := Zh (zac (row := some g) GX.out)
 have SS := Zh S
 have hm := S.most
 have hgw := S.inb h
 have eg := S.enters
 clear h S GX
 obtain ⟨y0, hy0⟩ : ∃ y, y = b - 1 := ⟨_, rfl⟩
 have hyb : (b : Int) - 1 = (y0 : Int) := by omega
 have hy1 : y0 < b := by omega
 have hy2 : a <= y0 := by omega
 obtain ⟨w14, hr14, HS14, HG014⟩ := SS.out.swap (a) (pv) H1.out (by omega) (by omega)
 have HS14 := Zh HS14
 have HG14 := Zh (G1.out.trans HG014)
 have HB14 := Zh (BX.out.grown HG014 (by simp; omega))
 have c1 := BX.out.at1
 clear HG014
 obtain ⟨d1, hd1⟩ : ∃ x, x = swp d a pv := ⟨_, rfl⟩
 have HR : Hid (partEqLoop lt a (a + 1) y0 d1 = (mid, d')) := Zh (by rw [hd1, hy0]; exact hr)
 rw [<- hd1] at HS14
 clear hd1 hr hy0
 go_enter Tryz.func251, Tryz.ntmps251
 go_wp2_with fail
 go_loopw [9, 10] (fun i j wr => ∃ (x y : Nat) (dk : Array α), i = .int .i64 x /\ j = .int .i64 y /\ a + 1 <= x /\ x <= b /\ a <= y /\ y < b /\ Hid (partEqLoop lt a x y dk = (mid, d')) /\ Hid (Sw dk wr) /\ Hid (Blok wr w.heap.size 228 #[.func (.func l) la lb, .func (.func s) #[] sb]) /\ Hid (w.grownBy wr (some g))) (fun _ j _ => (intOf j).toNat)
 case atStart => exact ⟨a + 1, y0, d1, by go_num, by go_num, by omega, by omega, by omega, by omega, HR, HS14, HB14, HG14⟩
 case round =>
  obtain ⟨X, Y, dk, rfl, rfl, hX1, hX2, hY1, hY2, HO, HS, HB, HG⟩ := hrel
  go_wp2_with fail
  go_loopw [9] (fun i wr => ∃ x15 : Nat, i = .int .i64 x15 /\ a + 1 <= x15 /\ x15 <= b /\ Hid (scanUp (fun x => !lt dk[a]! x) dk Y x15 = scanUp (fun x => !lt dk[a]! x) dk Y X) /\ Hid (Sw dk wr) /\ Hid (Blok wr w.heap.size 228 #[.func (.func l) la lb, .func (.func s) #[] sb]) /\ Hid (w.grownBy wr (some g))) (fun i _ => b + 1 - (intOf i).toNat)
  case atStart => exact ⟨X, by go_num, by omega, by omega, Zh rfl, HS, HB, HG⟩
  case round =>
   obtain ⟨x15, rfl, ha15, hb15, HO15, HS15, HB15, HG15⟩ := hrel
   by_cases hl15 : x15 <= Y
   ·have dl15 : decide ((x15 : Int) <= Y) = true := by simp; omega
    have c0 := HB15.out.at0
    obtain ⟨p15, hp15⟩ : ∃ p, lt dk[a]! dk[x15]! = p := ⟨_, rfl⟩
    have hc15 := SS.out.lesses a x15 HS15.out (by omega) (by omega) hp15
    have HP15 := Zh hp15
    clear hp15
    go_wp2_with fail
    refine hc15.mono ?_
    rintro e wb15 ⟨rfl, HSb15, HG015⟩
    clear hc15 c0
    have HGb15 := Zh (HG15.out.trans (zac HG015.out))
    have HBb15 := Zh (HB15.out.grown HG015.out (by simp))
    clear HG015
    cases p15 with
    | false =>
     go_wp2
     go_roundw
     case rel => exact ⟨x15 + 1, by go_num, by omega, by omega, Zh (by rw [<- HO15.out, zdr hl15 (by simp [HP15.out])]), HSb15, HBb15, HGb15⟩
     case measure => simp [intOf] <;> omega
    | true =>
     have HE15 : Hid (scanUp (fun x => !lt dk[a]! x) dk Y X = x15) := Zh (by rw [<- HO15.out, zbn (.inr (by simp [HP15.out]))])
     go_wp2_with fail
     go_loopw [10] (fun i wr => ∃ y16 : Nat, i = .int .i64 y16 /\ a <= y16 /\ y16 <= Y /\ Hid (scanDown (fun x => lt dk[a]! x) dk x15 y16 = scanDown (fun x => lt dk[a]! x) dk x15 Y) /\ Hid (Sw dk wr) /\ Hid (Blok wr w.heap.size 228 #[.func (.func l) la lb, .func (.func s) #[] sb]) /\ Hid (w.grownBy wr (some g))) (fun i _ => (intOf i).toNat)
     case atStart => exact ⟨Y, by go_num, by omega, by omega, Zh rfl, HSb15, HBb15, HGb15⟩
     case round =>
      obtain ⟨y16, rfl, ha16, hb16, HO16, HS16, HB16, HG16⟩ := hrel
      by_cases hl16 : x15 <= y16
      ·have dl16 : decide ((x15 : Int) <= y16) = true := by simp; omega
       have c0 := HB16.out.at0
       obtain ⟨p16, hp16⟩ : ∃ p, lt dk[a]! dk[y16]! = p := ⟨_, rfl⟩
       have hc16 := SS.out.lesses a y16 HS16.out (by omega) (by omega) hp16
       have HP16 := Zh hp16
       clear hp16
       go_wp2_with fail
       refine hc16.mono ?_
       rintro e wb16 ⟨rfl, HSb16, HG016⟩
       clear hc16 c0
       have HGb16 := Zh (HG16.out.trans (zac HG016.out))
       have HBb16 := Zh (HB16.out.grown HG016.out (by simp))
       clear HG016
       cases p16 with
       | true =>
        go_wp2
        go_roundw
        case rel => exact ⟨y16 - 1, by go_num, by omega, by omega, Zh (by rw [<- HO16.out, zch hl16 (by simp [HP16.out])]), HSb16, HBb16, HGb16⟩
        case measure => simp [intOf] <;> omega
       | false =>
        have HE16 : Hid (scanDown (fun x => lt dk[a]! x) dk x15 Y = y16) := Zh (by rw [<- HO16.out, zav (.inr (by simp [HP16.out]))])
        have hgt : decide (y16 < x15) = false := by simp; omega
        obtain ⟨w17, hr17, HS17, HG017⟩ := SS.out.swap (x15) (y16) HSb16.out (by omega) (by omega)
        have HS17 := Zh HS17
        have HG17 := Zh (HGb16.out.trans HG017)
        have HB17 := Zh (HBb16.out.grown HG017 (by simp; omega))
        have c1 := HBb16.out.at1
        clear HG017
        go_wp2
        go_roundw
        case rel => exact ⟨x15 + 1, y16 - 1, swp dk x15 y16, by go_num, by go_num, by omega, by omega, by omega, by omega, Zh (by rw [<- HO.out, zmg HE15.out HE16.out (by omega)]), HS17, HB17, HG17⟩
        case measure => simp [intOf] <;> omega
      ·have dl16 : decide ((x15 : Int) <= y16) = false := by simp; omega
       have HE16 : Hid (scanDown (fun x => lt dk[a]! x) dk x15 Y = y16) := Zh (by rw [<- HO16.out, zav (.inl hl16)])
       have hgt : decide (y16 < x15) = true := by simp; omega
       have HF : Hid (mid = x15 /\ d' = dk) := Zh (by
        have h3 := zi1 HE15.out HE16.out (by omega)
        rw [HO.out] at h3
        simpa only [Prod.mk.injEq] using h3)
       obtain ⟨rfl, rfl⟩ := HF.out
       go_wp2
       go_ret
       exact ⟨rfl, HS16, HG16⟩
   ·have dl15 : decide ((x15 : Int) <= Y) = false := by simp; omega
    have HE15 : Hid (scanUp (fun x => !lt dk[a]! x) dk Y X = x15) := Zh (by rw [<- HO15.out, zbn (.inl hl15)])
    go_wp2_with fail
    go_loopw [10] (fun i wr => ∃ y18 : Nat, i = .int .i64 y18 /\ a <= y18 /\ y18 <= Y /\ Hid (scanDown (fun x => lt dk[a]! x) dk x15 y18 = scanDown (fun x => lt dk[a]! x) dk x15 Y) /\ Hid (Sw dk wr) /\ Hid (Blok wr w.heap.size 228 #[.func (.func l) la lb, .func (.func s) #[] sb]) /\ Hid (w.grownBy wr (some g))) (fun i _ => (intOf i).toNat)
    case atStart => exact ⟨Y, by go_num, by omega, by omega, Zh rfl, HS15, HB15, HG15⟩
    case round =>
     obtain ⟨y18, rfl, ha18, hb18, HO18, HS18, HB18, HG18⟩ := hrel
     by_cases hl18 : x15 <= y18
     ·omega
     ·have dl18 : decide ((x15 : Int) <= y18) = false := by simp; omega
      have HE18 : Hid (scanDown (fun x => lt dk[a]! x) dk x15 Y = y18) := Zh (by rw [<- HO18.out, zav (.inl hl18)])
      have hgt : decide (y18 < x15) = true := by simp; omega
      have HF : Hid (mid = x15 /\ d' = dk) := Zh (by
       have h3 := zi1 HE15.out HE18.out (by omega)
       rw [HO.out] at h3
       simpa only [Prod.mk.injEq] using h3)
      obtain ⟨rfl, rfl⟩ := HF.out
      go_wp2
      go_ret
      exact ⟨rfl, HS18, HG18⟩
open Go.RowKit Go.Sort
variable {α : Type} [Inhabited α] {lt : α -> α -> Bool} {l : Nat} {la lb : Array Value} {s : Nat} {sb : Array Value} {g n : Nat} {Sw : Array α -> World -> Prop}
theorem zed (S : SortBy lt l la lb s sb g n Sw) (a b : Nat) (r : Bool) (d d' : Array α) (w : World) (hab : a < b) (hb : b <= n) (h : Sw d w) (hr : partialInsertionSort lt d a b = (d', r)) :
  Calls Tryz.prog 250 #[.agg #[.func (.func l) la lb, .func (.func s) #[] sb], .int .i64 a, .int .i64 b] w fun e w' => e = .returned (.bool r) /\ Hid (Sw d' w') /\ Hid (w.grownBy w' (some g)) := by
 have BX : Hid (Blok (w.alloc (.cells #[.func (.func l) la lb, .func (.func s) #[] sb] 228)) w.heap.size 228 #[.func (.func l) la lb, .func (.func s) #[] sb]) := Zh (Blok.new _ _ _)
 have GX : Hid (w.grownBy (w.alloc (.cells #[.func (.func l) la lb, .func (.func s) #[] sb] 228)) none) := Zh (World.grownBy_alloc _ _ _)
 have H1 := Zh (S.keep h GX.out (by simp))
 have G1 := Zh (zac (row := some g) GX.out)
 have SS := Zh S
 have hm := S.most
 have hgw := S.inb h
 have eg := S.enters
 clear h S GX
 have HR : Hid (partialIns lt a b (5 - 0) (a + 1) d = (d', r)) := Zh hr
 clear hr
 go_enter Tryz.func250, Tryz.ntmps250
 go_wp2_with fail
 go_loopw [7, 8] (fun i j wr => ∃ (x st : Nat) (dk : Array α), i = .int .i64 x /\ j = .int .i64 st /\ a + 1 <= x /\ x <= b /\ st <= 5 /\ Hid (partialIns lt a b (5 - st) x dk = (d', r)) /\ Hid (Sw dk wr) /\ Hid (Blok wr w.heap.size 228 #[.func (.func l) la lb, .func (.func s) #[] sb]) /\ Hid (w.grownBy wr (some g))) (fun _ j _ => (5 - intOf j).toNat)
 case atStart => exact ⟨a + 1, 0, d, by go_num, by go_num, by omega, by omega, by omega, HR, H1, BX, G1⟩
 case round =>
  obtain ⟨X, st, dk, rfl, rfl, hX1, hX2, hst, HO, HS, HB, HG⟩ := hrel
  by_cases hs5 : st < 5
  ·have ds : decide ((st : Int) < 5) = true := by simp; omega
   have hs6 : 5 - st = (5 - (st + 1)) + 1 := by omega
   have HN : Hid ((if scanSorted lt dk b X = b then (dk, true) else if b - a < 50 then (dk, false) else
    partialIns lt a b (5 - (st + 1)) (scanSorted lt dk b X) (fixUp lt b (scanSorted lt dk b X) (fixDown lt a (scanSorted lt dk b X) (swp dk (scanSorted lt dk b X) (scanSorted lt dk b X - 1))))) = (d', r)) := Zh (by
    rw [<- partialIns_succ, <- hs6]; exact HO.out)
   clear hs6 HO
   go_wp2_with fail
   go_loopw [7] (fun i wr => ∃ (x : Nat), i = .int .i64 x /\ a + 1 <= x /\ x <= b /\ Hid (scanSorted lt dk b x = scanSorted lt dk b X) /\ Hid (Sw dk wr) /\ Hid (Blok wr w.heap.size 228 #[.func (.func l) la lb, .func (.func s) #[] sb]) /\ Hid (w.grownBy wr (some g))) (fun i _ => b - (intOf i).toNat)
   case atStart => exact ⟨X, by go_num, by omega, by omega, Zh rfl, HS, HB, HG⟩
   case round =>
    obtain ⟨x, rfl, hx1, hx2, HOx, HSx, HBx, HGx⟩ := hrel
    by_cases hlx : x < b
    ·have dx : decide ((x : Int) < b) = true := by simp; omega
     have c0 := HBx.out.at0
     obtain ⟨p1, hp1⟩ : ∃ p, lt dk[x]! dk[x - 1]! = p := ⟨_, rfl⟩
     have hc1 := SS.out.lesses (x) (x - 1) HSx.out (by omega) (by omega) hp1
     rw [show ((x - 1 : Nat) : Int) = (x : Int) - 1 by omega] at hc1
     have HP1 := Zh hp1
     clear hp1
     go_wp2_with fail
     refine hc1.mono ?_
     rintro e wb1 ⟨rfl, HSb1, HG01⟩
     clear hc1 c0
     have HGb1 := Zh (HGx.out.trans (zac HG01.out))
     have HBb1 := Zh (HBx.out.grown HG01.out (by simp))
     clear HG01
     cases p1 with
     | false =>
      go_wp2
      go_roundw
      case rel => exact ⟨x + 1, by go_num, by omega, by omega, Zh (by rw [<- HOx.out, scanSorted_go lt _ _ _ hlx HP1.out]), HSb1, HBb1, HGb1⟩
      case measure => simp [intOf] <;> omega
     | true =>
      have HX : Hid (scanSorted lt dk b X = x) := Zh (by rw [<- HOx.out, scanSorted_stop lt _ _ _ (.inr HP1.out)])
      have dxb : decide ((x : Int) = b) = false := by simp; omega
      have dxb2 : ((x : Int) == (b : Int)) = false := by simp; omega
      by_cases h50 : b - a < 50
      ·have d50 : decide ((b : Int) - a < 50) = true := by simp; omega
       have HF : Hid (d' = dk /\ r = false) := Zh (by
        have h1 := HN.out
        rw [HX.out, if_neg (by omega), if_pos h50] at h1
        simp only [Prod.mk.injEq] at h1
        exact ⟨h1.1.symm, h1.2.symm⟩)
       obtain ⟨rfl, rfl⟩ := HF.out
       go_wp2
       go_ret
       exact ⟨rfl, HSb1, HGb1⟩
      ·have d50 : decide ((b : Int) - a < 50) = false := by simp; omega
       have HN2 : Hid (partialIns lt a b (5 - (st + 1)) x (fixUp lt b x (fixDown lt a x (swp dk x (x - 1)))) = (d', r)) := Zh (by
        have h1 := HN.out
        rw [HX.out, if_neg (by omega), if_neg h50] at h1
        exact h1)
       clear HN HX
       obtain ⟨w2, hr2, HS2, HG02⟩ := SS.out.swap (x) (x - 1) HSb1.out (by omega) (by omega)
       have HS2 := Zh HS2
       have HG2 := Zh (HGb1.out.trans HG02)
       have HB2 := Zh (HBb1.out.grown HG02 (by simp; omega))
       have c1 := HBb1.out.at1
       clear HG02
       rw [show ((x - 1 : Nat) : Int) = (x : Int) - 1 by omega] at hr2
       obtain ⟨D1, hD1⟩ : ∃ D, swp dk x (x - 1) = D := ⟨_, rfl⟩
       rw [hD1] at HN2 HS2
       clear hD1
       by_cases h2a : x - a ≥ 2
       ·have d2a : decide (2 <= (x : Int) - a) = true := by simp; omega
        go_wp2_with fail
        go_loopw [9] (fun i wr => ∃ (y3 : Nat) (dj3 : Array α), i = .int .i64 y3 /\ 0 <= y3 /\ y3 <= x - 1 /\ Hid (shiftDown lt y3 dj3 = shiftDown lt (x - 1) D1) /\ Hid (Sw dj3 wr) /\ Hid (Blok wr w.heap.size 228 #[.func (.func l) la lb, .func (.func s) #[] sb]) /\ Hid (w.grownBy wr (some g))) (fun i _ => (intOf i).toNat)
        case atStart => exact ⟨x - 1, D1, by go_num, by omega, by omega, Zh rfl, HS2, HB2, HG2⟩
        case round =>
         obtain ⟨y3, dj3, rfl, ha3, hb3, HO3, HS3, HB3, HG3⟩ := hrel
         by_cases hl3 : 1 <= y3
         ·have dl3 : decide (1 <= (y3 : Int)) = true := by simp; omega
          have c0 := HB3.out.at0
          obtain ⟨p3, hp3⟩ : ∃ p, lt dj3[y3]! dj3[y3 - 1]! = p := ⟨_, rfl⟩
          have hc3 := SS.out.lesses (y3) (y3 - 1) HS3.out (by omega) (by omega) hp3
          rw [show ((y3 - 1 : Nat) : Int) = (y3 : Int) - 1 by omega] at hc3
          have HP3 := Zh hp3
          clear hp3
          go_wp2_with fail
          refine hc3.mono ?_
          rintro e wb3 ⟨rfl, HSb3, HG03⟩
          clear hc3 c0
          have HGb3 := Zh (HG3.out.trans (zac HG03.out))
          have HBb3 := Zh (HB3.out.grown HG03.out (by simp))
          clear HG03
          cases p3 with
          | true =>
           obtain ⟨w4, hr4, HS4, HG04⟩ := SS.out.swap (y3) (y3 - 1) HSb3.out (by omega) (by omega)
           have HS4 := Zh HS4
           have HG4 := Zh (HGb3.out.trans HG04)
           have HB4 := Zh (HBb3.out.grown HG04 (by simp; omega))
           have c1 := HBb3.out.at1
           clear HG04
           rw [show ((y3 - 1 : Nat) : Int) = (y3 : Int) - 1 by omega] at hr4
           go_wp2
           go_roundw
           case rel => exact ⟨y3 - 1, swp dj3 (y3) (y3 - 1), by go_num, by omega, by omega, Zh (by rw [<- HO3.out, shiftDown_go lt y3 dj3 hl3 HP3.out]), HS4, HB4, HG4⟩
           case measure => simp [intOf] <;> omega
          | false =>
           have HE3 : Hid (shiftDown lt (x - 1) D1 = dj3) := Zh (by rw [<- HO3.out, shiftDown_stop lt y3 dj3 (.inr HP3.out)])
           have HN3 : Hid (partialIns lt a b (5 - (st + 1)) x (fixUp lt b x dj3) = (d', r)) := Zh (by have h1 := HN2.out; unfold fixDown at h1; rw [if_pos h2a, HE3.out] at h1; exact h1)
           clear HN2
           by_cases h2b : b - x ≥ 2
           ·have d2b : decide (2 <= (b : Int) - x) = true := by simp; omega
            go_wp2_with fail
            go_loopw [10] (fun i wr => ∃ (z5 : Nat) (dj5 : Array α), i = .int .i64 z5 /\ x + 1 <= z5 /\ z5 <= b /\ Hid (shiftUp lt b z5 dj5 = shiftUp lt b (x + 1) dj3) /\ Hid (Sw dj5 wr) /\ Hid (Blok wr w.heap.size 228 #[.func (.func l) la lb, .func (.func s) #[] sb]) /\ Hid (w.grownBy wr (some g))) (fun i _ => b - (intOf i).toNat)
            case atStart => exact ⟨x + 1, dj3, by go_num, by omega, by omega, Zh rfl, HSb3, HBb3, HGb3⟩
            case round =>
             obtain ⟨z5, dj5, rfl, ha5, hb5, HO5, HS5, HB5, HG5⟩ := hrel
             by_cases hl5 : z5 < b
             ·have dl5 : decide ((z5 : Int) < b) = true := by simp; omega
              have c0 := HB5.out.at0
              obtain ⟨p5, hp5⟩ : ∃ p, lt dj5[z5]! dj5[z5 - 1]! = p := ⟨_, rfl⟩
              have hc5 := SS.out.lesses (z5) (z5 - 1) HS5.out (by omega) (by omega) hp5
              rw [show ((z5 - 1 : Nat) : Int) = (z5 : Int) - 1 by omega] at hc5
              have HP5 := Zh hp5
              clear hp5
              go_wp2_with fail
              refine hc5.mono ?_
              rintro e wb5 ⟨rfl, HSb5, HG05⟩
              clear hc5 c0
              have HGb5 := Zh (HG5.out.trans (zac HG05.out))
              have HBb5 := Zh (HB5.out.grown HG05.out (by simp))
              clear HG05
              cases p5 with
              | true =>
               obtain ⟨w6, hr6, HS6, HG06⟩ := SS.out.swap (z5) (z5 - 1) HSb5.out (by omega) (by omega)
               have HS6 := Zh HS6
               have HG6 := Zh (HGb5.out.trans HG06)
               have HB6 := Zh (HBb5.out.grown HG06 (by simp; omega))
               have c1 := HBb5.out.at1
               clear HG06
               rw [show ((z5 - 1 : Nat) : Int) = (z5 : Int) - 1 by omega] at hr6
               go_wp2
               go_roundw
               case rel => exact ⟨z5 + 1, swp dj5 (z5) (z5 - 1), by go_num, by omega, by omega, Zh (by rw [<- HO5.out, shiftUp_go lt b z5 dj5 hl5 HP5.out]), HS6, HB6, HG6⟩
               case measure => simp [intOf] <;> omega
              | false =>
               have HE5 : Hid (shiftUp lt b (x + 1) dj3 = dj5) := Zh (by rw [<- HO5.out, shiftUp_stop lt b z5 dj5 (.inr HP5.out)])
               go_wp2
               go_roundw
               case rel => exact ⟨x, st + 1, dj5, by go_num, by go_num, by omega, by omega, by omega, Zh (by have h1 := HN3.out; unfold fixUp at h1; rw [if_pos h2b, HE5.out] at h1; exact h1), HSb5, HBb5, HGb5⟩
               case measure => simp [intOf] <;> omega
             ·have dl5 : decide ((z5 : Int) < b) = false := by simp; omega
              have HE5 : Hid (shiftUp lt b (x + 1) dj3 = dj5) := Zh (by rw [<- HO5.out, shiftUp_stop lt b z5 dj5 (.inl (by omega))])
              go_wp2
              go_roundw
              case rel => exact ⟨x, st + 1, dj5, by go_num, by go_num, by omega, by omega, by omega, Zh (by have h1 := HN3.out; unfold fixUp at h1; rw [if_pos h2b, HE5.out] at h1; exact h1), HS5, HB5, HG5⟩
              case measure => simp [intOf] <;> omega
           ·have d2b : decide (2 <= (b : Int) - x) = false := by simp; omega
            go_wp2
            go_roundw
            case rel => exact ⟨x, st + 1, dj3, by go_num, by go_num, by omega, by omega, by omega, Zh (by have h1 := HN3.out; unfold fixUp at h1; rw [if_neg h2b] at h1; exact h1), HSb3, HBb3, HGb3⟩
            case measure => simp [intOf] <;> omega
         ·have dl3 : decide (1 <= (y3 : Int)) = false := by simp; omega
          have HE3 : Hid (shiftDown lt (x - 1) D1 = dj3) := Zh (by rw [<- HO3.out, shiftDown_stop lt y3 dj3 (.inl (by omega))])
          have HN3 : Hid (partialIns lt a b (5 - (st + 1)) x (fixUp lt b x dj3) = (d', r)) := Zh (by have h1 := HN2.out; unfold fixDown at h1; rw [if_pos h2a, HE3.out] at h1; exact h1)
          clear HN2
          by_cases h2b : b - x ≥ 2
          ·have d2b : decide (2 <= (b : Int) - x) = true := by simp; omega
           go_wp2_with fail
           go_loopw [10] (fun i wr => ∃ (z7 : Nat) (dj7 : Array α), i = .int .i64 z7 /\ x + 1 <= z7 /\ z7 <= b /\ Hid (shiftUp lt b z7 dj7 = shiftUp lt b (x + 1) dj3) /\ Hid (Sw dj7 wr) /\ Hid (Blok wr w.heap.size 228 #[.func (.func l) la lb, .func (.func s) #[] sb]) /\ Hid (w.grownBy wr (some g))) (fun i _ => b - (intOf i).toNat)
           case atStart => exact ⟨x + 1, dj3, by go_num, by omega, by omega, Zh rfl, HS3, HB3, HG3⟩
           case round =>
            obtain ⟨z7, dj7, rfl, ha7, hb7, HO7, HS7, HB7, HG7⟩ := hrel
            by_cases hl7 : z7 < b
            ·have dl7 : decide ((z7 : Int) < b) = true := by simp; omega
             have c0 := HB7.out.at0
             obtain ⟨p7, hp7⟩ : ∃ p, lt dj7[z7]! dj7[z7 - 1]! = p := ⟨_, rfl⟩
             have hc7 := SS.out.lesses (z7) (z7 - 1) HS7.out (by omega) (by omega) hp7
             rw [show ((z7 - 1 : Nat) : Int) = (z7 : Int) - 1 by omega] at hc7
             have HP7 := Zh hp7
             clear hp7
             go_wp2_with fail
             refine hc7.mono ?_
             rintro e wb7 ⟨rfl, HSb7, HG07⟩
             clear hc7 c0
             have HGb7 := Zh (HG7.out.trans (zac HG07.out))
             have HBb7 := Zh (HB7.out.grown HG07.out (by simp))
             clear HG07
             cases p7 with
             | true =>
              obtain ⟨w8, hr8, HS8, HG08⟩ := SS.out.swap (z7) (z7 - 1) HSb7.out (by omega) (by omega)
              have HS8 := Zh HS8
              have HG8 := Zh (HGb7.out.trans HG08)
              have HB8 := Zh (HBb7.out.grown HG08 (by simp; omega))
              have c1 := HBb7.out.at1
              clear HG08
              rw [show ((z7 - 1 : Nat) : Int) = (z7 : Int) - 1 by omega] at hr8
              go_wp2
              go_roundw
              case rel => exact ⟨z7 + 1, swp dj7 (z7) (z7 - 1), by go_num, by omega, by omega, Zh (by rw [<- HO7.out, shiftUp_go lt b z7 dj7 hl7 HP7.out]), HS8, HB8, HG8⟩
              case measure => simp [intOf] <;> omega
             | false =>
              have HE7 : Hid (shiftUp lt b (x + 1) dj3 = dj7) := Zh (by rw [<- HO7.out, shiftUp_stop lt b z7 dj7 (.inr HP7.out)])
              go_wp2
              go_roundw
              case rel => exact ⟨x, st + 1, dj7, by go_num, by go_num, by omega, by omega, by omega, Zh (by have h1 := HN3.out; unfold fixUp at h1; rw [if_pos h2b, HE7.out] at h1; exact h1), HSb7, HBb7, HGb7⟩
              case measure => simp [intOf] <;> omega
            ·have dl7 : decide ((z7 : Int) < b) = false := by simp; omega
             have HE7 : Hid (shiftUp lt b (x + 1) dj3 = dj7) := Zh (by rw [<- HO7.out, shiftUp_stop lt b z7 dj7 (.inl (by omega))])
             go_wp2
             go_roundw
             case rel => exact ⟨x, st + 1, dj7, by go_num, by go_num, by omega, by omega, by omega, Zh (by have h1 := HN3.out; unfold fixUp at h1; rw [if_pos h2b, HE7.out] at h1; exact h1), HS7, HB7, HG7⟩
             case measure => simp [intOf] <;> omega
          ·have d2b : decide (2 <= (b : Int) - x) = false := by simp; omega
           go_wp2
           go_roundw
           case rel => exact ⟨x, st + 1, dj3, by go_num, by go_num, by omega, by omega, by omega, Zh (by have h1 := HN3.out; unfold fixUp at h1; rw [if_neg h2b] at h1; exact h1), HS3, HB3, HG3⟩
           case measure => simp [intOf] <;> omega
       ·have d2a : decide (2 <= (x : Int) - a) = false := by simp; omega
        have HN3 : Hid (partialIns lt a b (5 - (st + 1)) x (fixUp lt b x D1) = (d', r)) := Zh (by have h1 := HN2.out; unfold fixDown at h1; rw [if_neg h2a] at h1; exact h1)
        clear HN2
        by_cases h2b : b - x ≥ 2
        ·have d2b : decide (2 <= (b : Int) - x) = true := by simp; omega
         go_wp2_with fail
         go_loopw [10] (fun i wr => ∃ (z9 : Nat) (dj9 : Array α), i = .int .i64 z9 /\ x + 1 <= z9 /\ z9 <= b /\ Hid (shiftUp lt b z9 dj9 = shiftUp lt b (x + 1) D1) /\ Hid (Sw dj9 wr) /\ Hid (Blok wr w.heap.size 228 #[.func (.func l) la lb, .func (.func s) #[] sb]) /\ Hid (w.grownBy wr (some g))) (fun i _ => b - (intOf i).toNat)
         case atStart => exact ⟨x + 1, D1, by go_num, by omega, by omega, Zh rfl, HS2, HB2, HG2⟩
         case round =>
          obtain ⟨z9, dj9, rfl, ha9, hb9, HO9, HS9, HB9, HG9⟩ := hrel
          by_cases hl9 : z9 < b
          ·have dl9 : decide ((z9 : Int) < b) = true := by simp; omega
           have c0 := HB9.out.at0
           obtain ⟨p9, hp9⟩ : ∃ p, lt dj9[z9]! dj9[z9 - 1]! = p := ⟨_, rfl⟩
           have hc9 := SS.out.lesses (z9) (z9 - 1) HS9.out (by omega) (by omega) hp9
           rw [show ((z9 - 1 : Nat) : Int) = (z9 : Int) - 1 by omega] at hc9
           have HP9 := Zh hp9
           clear hp9
           go_wp2_with fail
           refine hc9.mono ?_
           rintro e wb9 ⟨rfl, HSb9, HG09⟩
           clear hc9 c0
           have HGb9 := Zh (HG9.out.trans (zac HG09.out))
           have HBb9 := Zh (HB9.out.grown HG09.out (by simp))
           clear HG09
           cases p9 with
           | true =>
            obtain ⟨w10, hr10, HS10, HG010⟩ := SS.out.swap (z9) (z9 - 1) HSb9.out (by omega) (by omega)
            have HS10 := Zh HS10
            have HG10 := Zh (HGb9.out.trans HG010)
            have HB10 := Zh (HBb9.out.grown HG010 (by simp; omega))
            have c1 := HBb9.out.at1
            clear HG010
            rw [show ((z9 - 1 : Nat) : Int) = (z9 : Int) - 1 by omega] at hr10
            go_wp2
            go_roundw
            case rel => exact ⟨z9 + 1, swp dj9 (z9) (z9 - 1), by go_num, by omega, by omega, Zh (by rw [<- HO9.out, shiftUp_go lt b z9 dj9 hl9 HP9.out]), HS10, HB10, HG10⟩
            case measure => simp [intOf] <;> omega
           | false =>
            have HE9 : Hid (shiftUp lt b (x + 1) D1 = dj9) := Zh (by rw [<- HO9.out, shiftUp_stop lt b z9 dj9 (.inr HP9.out)])
            go_wp2
            go_roundw
            case rel => exact ⟨x, st + 1, dj9, by go_num, by go_num, by omega, by omega, by omega, Zh (by have h1 := HN3.out; unfold fixUp at h1; rw [if_pos h2b, HE9.out] at h1; exact h1), HSb9, HBb9, HGb9⟩
            case measure => simp [intOf] <;> omega
          ·have dl9 : decide ((z9 : Int) < b) = false := by simp; omega
           have HE9 : Hid (shiftUp lt b (x + 1) D1 = dj9) := Zh (by rw [<- HO9.out, shiftUp_stop lt b z9 dj9 (.inl (by omega))])
           go_wp2
           go_roundw
           case rel => exact ⟨x, st + 1, dj9, by go_num, by go_num, by omega, by omega, by omega, Zh (by have h1 := HN3.out; unfold fixUp at h1; rw [if_pos h2b, HE9.out] at h1; exact h1), HS9, HB9, HG9⟩
           case measure => simp [intOf] <;> omega
        ·exfalso; omega
    ·have dx : decide ((x : Int) < b) = false := by simp; omega
     obtain rfl : x = b := by omega
     have HX : Hid (scanSorted lt dk x X = x) := Zh (by rw [<- HOx.out, scanSorted_stop lt _ _ _ (.inl hlx)])
     have HF : Hid (d' = dk /\ r = true) := Zh (by
      have h1 := HN.out
      rw [HX.out, if_pos rfl] at h1
      simp only [Prod.mk.injEq] at h1
      exact ⟨h1.1.symm, h1.2.symm⟩)
     obtain ⟨rfl, rfl⟩ := HF.out
     go_wp2
     go_ret
     exact ⟨rfl, HSx, HGx⟩
  ·have ds : decide ((st : Int) < 5) = false := by simp; omega
   have HF : Hid (d' = dk /\ r = false) := Zh (by
    have h1 := HO.out
    rw [show 5 - st = 0 by omega] at h1
    simp only [partialIns, Prod.mk.injEq] at h1
    exact ⟨h1.1.symm, h1.2.symm⟩)
   obtain ⟨rfl, rfl⟩ := HF.out
   go_wp2
   go_ret
   exact ⟨rfl, HS, HG⟩
open Go.RowKit Go.Sort
variable {α : Type} [Inhabited α] {lt : α -> α -> Bool} {l : Nat} {la lb : Array Value} {s : Nat} {sb : Array Value} {g n : Nat} {Sw : Array α -> World -> Prop}
theorem zi2 (S : SortBy lt l la lb s sb g n Sw) (a b x : Nat) (hn : Hint) (d : Array α) (w : World) (hab : a + 12 < b) (hb : b <= n) (h : Sw d w) (hr : choosePivot lt d a b = (x, hn)) :
  Calls Tryz.prog 248 #[.agg #[.func (.func l) la lb, .func (.func s) #[] sb], .int .i64 a, .int .i64 b] w fun e w' => e = .returned (.tuple #[.int .i64 x, .int .i64 (hintCode hn)]) /\ Hid (Sw d w') /\ Hid (w.grownBy w' (some g)) := by
 have BX : Hid (Blok (w.alloc (.cells #[.func (.func l) la lb, .func (.func s) #[] sb] 228)) w.heap.size 228 #[.func (.func l) la lb, .func (.func s) #[] sb]) := Zh (Blok.new _ _ _)
 have GX : Hid (w.grownBy (w.alloc (.cells #[.func (.func l) la lb, .func (.func s) #[] sb] 228)) none) := Zh (World.grownBy_alloc _ _ _)
 have hsz : (w.alloc (.cells #[.func (.func l) la lb, .func (.func s) #[] sb] 228)).heap.size = w.heap.size + 1 := by simp
 obtain ⟨w1, hw1⟩ : ∃ w1, (w.alloc (.cells #[.func (.func l) la lb, .func (.func s) #[] sb] 228)).alloc (.cells #[.int .i64 0] 3) = w1 := ⟨_, rfl⟩
 have G1 : Hid (w.grownBy w1 none) := Zh (by rw [<- hw1]; exact GX.out.trans (World.grownBy_alloc _ _ _))
 have B1 : Hid (Blok w1 w.heap.size 228 #[.func (.func l) la lb, .func (.func s) #[] sb]) := Zh (by rw [<- hw1]; exact BX.out.alloc _)
 have P1 : Hid (Blok w1 (w.heap.size + 1) 3 #[.int .i64 ((0 : Nat) : Int)]) := Zh (by rw [<- hw1, <- hsz]; exact Blok.new _ _ _)
 have H1 := Zh (S.keep h G1.out (by simp))
 have hgw := S.inb h
 have SS := Zh S
 have hm := S.most
 have hg : w.heap.size + 1 ≠ g := by omega
 obtain ⟨L, hL⟩ : ∃ L, b = a + L := ⟨b - a, by omega⟩
 obtain ⟨q, hq⟩ : ∃ q, q = L / 4 := ⟨_, rfl⟩
 have hLi : (b : Int) - (a : Int) = (L : Int) := by omega
 have hqi : (L : Int) / 4 = (q : Int) := by omega
 have HR : Hid (x = (rawPivot lt d a b).1 /\ hn = hintOf (rawPivot lt d a b).2) := Zh (by
  rw [choosePivot_eq] at hr; simp only [Prod.mk.injEq] at hr; exact ⟨hr.1.symm, hr.2.symm⟩)
 have d8 : decide ((8 : Int) <= (L : Int)) = true := by simp; omega
 have FIN : ∀ z : Nat, Hid (hn = hintOf z) -> (z = 0 /\ hintCode hn = 1) \/ (z = 12 /\ hintCode hn = 2) \/ (z ≠ 0 /\ z ≠ 12 /\ hintCode hn = 0) := fun z h => by
  rw [h.out]
  unfold hintOf
  by_cases h0 : z = 0
  ·exact .inl ⟨h0, by rw [if_pos h0]; rfl⟩
  ·by_cases h12 : z = 12
   ·exact .inr (.inl ⟨h12, by rw [if_neg h0, if_pos h12]; rfl⟩)
   ·exact .inr (.inr ⟨h0, h12, by rw [if_neg h0, if_neg h12]; rfl⟩)
 have HFIN := Zh FIN
 clear FIN
 have hqL : 3 * q + 1 <= L := by omega
 have hq3 : 3 <= q := by omega
 have HL := Zh hL
 have HQ := Zh hq
 have hbL : a + L <= n := by omega
 clear h S hL hq hr GX BX hsz
 have c0 := B1.out.at0
 have c1 := B1.out.at1
 by_cases h50 : 50 <= L
 ·have d50 : decide ((50 : Int) <= (L : Int)) = true := by simp; omega
  obtain ⟨i1, z1, h1⟩ : ∃ i z, medianAdjacent lt d (a + q * 1) 0 = (i, z) := ⟨_, _, rfl⟩
  obtain ⟨i2, z2, h2⟩ : ∃ i z, medianAdjacent lt d (a + q * 2) z1 = (i, z) := ⟨_, _, rfl⟩
  obtain ⟨i3, z3, h3⟩ : ∃ i z, medianAdjacent lt d (a + q * 3) z2 = (i, z) := ⟨_, _, rfl⟩
  obtain ⟨i4, z4, h4⟩ : ∃ i z, median lt d i1 i2 i3 z3 = (i, z) := ⟨_, _, rfl⟩
  have m1 := medianAdjacent_mem lt d (a + q * 1) 0
  have m2 := medianAdjacent_mem lt d (a + q * 2) z1
  have m3 := medianAdjacent_mem lt d (a + q * 3) z2
  have k1 := medianAdjacent_count lt d (a + q * 1) 0
  have k2 := medianAdjacent_count lt d (a + q * 2) z1
  have k3 := medianAdjacent_count lt d (a + q * 3) z2
  rw [h1] at m1 k1
  rw [h2] at m2 k2
  rw [h3] at m3 k3
  have HX : Hid (x = i4 /\ hn = hintOf z4) := Zh (by
   have := HR.out
   unfold rawPivot at this
   rw [show b - a = L by have := HL.out; omega, if_pos (by omega), if_pos (by omega), <- HQ.out, h1, h2, h3] at this
   simp only [h4] at this
   exact this)
  have HI : Hid (i1 < n /\ i2 < n /\ i3 < n /\ z1 <= 900 /\ z2 <= 900 /\ z3 <= 900) := Zh (by simp only at m1 m2 m3 k1 k2 k3; omega)
  have O4 := Zh h4
  have hc1 := zb2 SS.out (a + q * 1) 0 (w.heap.size + 1) i1 z1 d w1 (by omega) (by omega) (by omega) H1.out P1.out hg h1
  have hc2 := fun W hs hp => zb2 SS.out (a + q * 2) z1 (w.heap.size + 1) i2 z2 d W (by omega) (by omega) HI.out.2.2.2.1 hs hp hg h2
  have hc3 := fun W hs hp => zb2 SS.out (a + q * 3) z2 (w.heap.size + 1) i3 z3 d W (by omega) (by omega) HI.out.2.2.2.2.1 hs hp hg h3
  rw [show ((a + q * 1 : Nat) : Int) = (a : Int) + q by omega] at hc1
  rw [show ((a + q * 2 : Nat) : Int) = (a : Int) + q * 2 by omega] at hc2
  rw [show ((a + q * 3 : Nat) : Int) = (a : Int) + q * 3 by omega] at hc3
  clear h1 h2 h3 h4 m1 m2 m3 k1 k2 k3 HR
  obtain ⟨rfl, hhn⟩ := HX.out
  have HN := Zh hhn
  clear hhn HX
  go_enter Tryz.func248, Tryz.ntmps248
  go_wp2_with fail
  refine (hc1).mono ?_
  rintro e w2 ⟨rfl, HSw2, Pw2, G0w2⟩
  have Bw2 := Zh (B1.out.grown G0w2.out (by simp))
  have Gw2 : Hid (w.grownBy w2 none) := Zh (G1.out.andThen G0w2.out (fun j hj => .inl (by cases hj; exact Nat.le_succ _)))
  clear c0 c1 G0w2
  have c0 := Bw2.out.at0
  have c1 := Bw2.out.at1
  go_wp2_with fail
  refine (hc2 _ HSw2.out Pw2.out).mono ?_
  rintro e w3 ⟨rfl, HSw3, Pw3, G0w3⟩
  have Bw3 := Zh (Bw2.out.grown G0w3.out (by simp))
  have Gw3 : Hid (w.grownBy w3 none) := Zh (Gw2.out.andThen G0w3.out (fun j hj => .inl (by cases hj; exact Nat.le_succ _)))
  clear c0 c1 G0w3
  have c0 := Bw3.out.at0
  have c1 := Bw3.out.at1
  go_wp2_with fail
  refine (hc3 _ HSw3.out Pw3.out).mono ?_
  rintro e w4 ⟨rfl, HSw4, Pw4, G0w4⟩
  have Bw4 := Zh (Bw3.out.grown G0w4.out (by simp))
  have Gw4 : Hid (w.grownBy w4 none) := Zh (Gw3.out.andThen G0w4.out (fun j hj => .inl (by cases hj; exact Nat.le_succ _)))
  clear c0 c1 G0w4
  have c0 := Bw4.out.at0
  have c1 := Bw4.out.at1
  go_wp2_with fail
  refine (zc1 SS.out i1 i2 i3 z3 (w.heap.size + 1) x z4 d _ HI.out.1 HI.out.2.1 HI.out.2.2.1 HI.out.2.2.2.2.2 HSw4.out Pw4.out hg O4.out).mono ?_
  rintro e w5 ⟨rfl, HSw5, Pw5, G0w5⟩
  have Bw5 := Zh (Bw4.out.grown G0w5.out (by simp))
  have Gw5 : Hid (w.grownBy w5 none) := Zh (Gw4.out.andThen G0w5.out (fun j hj => .inl (by cases hj; exact Nat.le_succ _)))
  clear c0 c1 G0w5
  have c0 := Bw5.out.at0
  have c1 := Bw5.out.at1
  have c2 := Zv Pw5.out 0 (.int .i64 (z4 : Nat))
  have G9 : Hid (w.grownBy w5 (some g)) := Zh (zac Gw5.out)
  rcases HFIN.out z4 HN with ⟨rfl, hcode⟩ | ⟨rfl, hcode⟩ | ⟨hz0, hz12, hcode⟩
  ·have HC := Zh hcode
   clear hcode
   go_wp2
   go_ret2
   exact ⟨by rw [HC.out]; rfl, HSw5, G9⟩
  ·have HC := Zh hcode
   clear hcode
   go_wp2
   go_ret2
   exact ⟨by rw [HC.out]; rfl, HSw5, G9⟩
  ·have HC := Zh hcode
   clear hcode
   have e0 : ((z4 : Int) == 0) = false := by simp; omega
   have e12 : ((z4 : Int) == 12) = false := by simp; omega
   go_wp2
   go_ret2
   exact ⟨by rw [HC.out]; rfl, HSw5, G9⟩
 ·have d50 : decide ((50 : Int) <= (L : Int)) = false := by simp; omega
  obtain ⟨i4, z4, h4⟩ : ∃ i z, median lt d (a + q * 1) (a + q * 2) (a + q * 3) 0 = (i, z) := ⟨_, _, rfl⟩
  have HX : Hid (x = i4 /\ hn = hintOf z4) := Zh (by
   have := HR.out
   unfold rawPivot at this
   rw [show b - a = L by have := HL.out; omega, if_pos (by omega), if_neg (by omega), <- HQ.out, h4] at this
   exact this)
  have hc1 := zc1 SS.out (a + q * 1) (a + q * 2) (a + q * 3) 0 (w.heap.size + 1) i4 z4 d w1 (by omega) (by omega) (by omega) (by omega) H1.out P1.out hg h4
  rw [show ((a + q * 1 : Nat) : Int) = (a : Int) + q by omega, show ((a + q * 2 : Nat) : Int) = (a : Int) + q * 2 by omega, show ((a + q * 3 : Nat) : Int) = (a : Int) + q * 3 by omega] at hc1
  clear h4 HR
  obtain ⟨rfl, hhn⟩ := HX.out
  have HN := Zh hhn
  clear hhn HX
  go_enter Tryz.func248, Tryz.ntmps248
  go_wp2_with fail
  refine (hc1).mono ?_
  rintro e w5 ⟨rfl, HSw5, Pw5, G0w5⟩
  have Bw5 := Zh (B1.out.grown G0w5.out (by simp))
  have Gw5 : Hid (w.grownBy w5 none) := Zh (G1.out.andThen G0w5.out (fun j hj => .inl (by cases hj; exact Nat.le_succ _)))
  clear c0 c1 G0w5
  have c0 := Bw5.out.at0
  have c1 := Bw5.out.at1
  have c2 := Zv Pw5.out 0 (.int .i64 (z4 : Nat))
  have G9 : Hid (w.grownBy w5 (some g)) := Zh (zac Gw5.out)
  rcases HFIN.out z4 HN with ⟨rfl, hcode⟩ | ⟨rfl, hcode⟩ | ⟨hz0, hz12, hcode⟩
  ·have HC := Zh hcode
   clear hcode
   go_wp2
   go_ret2
   exact ⟨by rw [HC.out]; rfl, HSw5, G9⟩
  ·have HC := Zh hcode
   clear hcode
   go_wp2
   go_ret2
   exact ⟨by rw [HC.out]; rfl, HSw5, G9⟩
  ·have HC := Zh hcode
   clear hcode
   have e0 : ((z4 : Int) == 0) = false := by simp; omega
   have e12 : ((z4 : Int) == 12) = false := by simp; omega
   go_wp2
   go_ret2
   exact ⟨by rw [HC.out]; rfl, HSw5, G9⟩
end Go.Proofs.YtonejangijkdmaaGreat
