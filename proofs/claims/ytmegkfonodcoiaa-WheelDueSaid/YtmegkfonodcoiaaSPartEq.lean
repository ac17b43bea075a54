/-
  Walks of the package sort's partitionEqual_func.
-/
import Derived.Test.YtmegkfonodcoiaaSPart
namespace Go.Proofs.Ytmegkfonodcoiaa
open Go.RowKit Go.Sort
variable {α : Type} [Inhabited α] {lt : α → α → Bool} {l : Nat} {la lb : Array Value} {s : Nat} {sb : Array Value} {g n : Nat} {Sw : Array α → World → Prop}


set_option maxRecDepth 100000 in
set_option maxHeartbeats 1000000 in
theorem parteq_any (S : SortBy lt l la lb s sb g n Sw) (a b pv mid : Nat) (d d' : Array α) (w : World) (ha : a ≤ pv) (hpv : pv < b) (hb : b ≤ n) (h : Sw d w) (hr : partitionEqual lt d a b pv = (mid, d')) :
    Calls Try.prog 61 #[.agg #[.func (.func l) la lb, .func (.func s) #[] sb], .int .i64 a, .int .i64 b, .int .i64 pv] w fun e w' => e = .returned (.int .i64 mid) ∧ Hid (Sw d' w') ∧ Hid (w.grownBy w' (some g)) := by
  have BX : Hid (Blok (w.alloc (.cells #[.func (.func l) la lb, .func (.func s) #[] sb] 73)) w.heap.size 73 #[.func (.func l) la lb, .func (.func s) #[] sb]) := Lib.hid (Blok.new _ _ _)
  have GX : Hid (w.grownBy (w.alloc (.cells #[.func (.func l) la lb, .func (.func s) #[] sb] 73)) none) := Lib.hid (World.grownBy_alloc _ _ _)
  have H1 := Lib.hid (S.keep h GX.out (by simp))
  have G1 := Lib.hid (grown_none (row := some g) GX.out)
  have SS := Lib.hid S
  have hm := S.most
  have hgw := S.inb h
  have eg := S.enters
  clear h S GX
  obtain ⟨y0, hy0⟩ : ∃ y, y = b - 1 := ⟨_, rfl⟩
  have hyb : (b : Int) - 1 = (y0 : Int) := by omega
  have hy1 : y0 < b := by omega
  have hy2 : a ≤ y0 := by omega
  obtain ⟨w14, hr14, HS14, HG014⟩ := SS.out.swap (a) (pv) H1.out (by omega) (by omega)
  have HS14 := Lib.hid HS14
  have HG14 := Lib.hid (G1.out.trans HG014)
  have HB14 := Lib.hid (BX.out.grown HG014 (by simp; omega))
  have c1 := BX.out.at1
  clear HG014
  obtain ⟨d1, hd1⟩ : ∃ x, x = swp d a pv := ⟨_, rfl⟩
  have HR : Hid (partEqLoop lt a (a + 1) y0 d1 = (mid, d')) := Lib.hid (by rw [hd1, hy0]; exact hr)
  rw [← hd1] at HS14
  clear hd1 hr hy0
  go_enter Try.func61, Try.ntmps61
  go_wp2_with fail
  go_loopw [9, 10] (fun i j wr => ∃ (x y : Nat) (dk : Array α), i = .int .i64 x ∧ j = .int .i64 y ∧ a + 1 ≤ x ∧ x ≤ b ∧ a ≤ y ∧ y < b ∧ Hid (partEqLoop lt a x y dk = (mid, d')) ∧ Hid (Sw dk wr) ∧ Hid (Blok wr w.heap.size 73 #[.func (.func l) la lb, .func (.func s) #[] sb]) ∧ Hid (w.grownBy wr (some g))) (fun _ j _ => (intOf j).toNat)
  case atStart => exact ⟨a + 1, y0, d1, by go_num, by go_num, by omega, by omega, by omega, by omega, HR, HS14, HB14, HG14⟩
  case round =>
    obtain ⟨X, Y, dk, rfl, rfl, hX1, hX2, hY1, hY2, HO, HS, HB, HG⟩ := hrel
    go_wp2_with fail
    go_loopw [9] (fun i wr => ∃ x15 : Nat, i = .int .i64 x15 ∧ a + 1 ≤ x15 ∧ x15 ≤ b ∧ Hid (scanUp (fun x => !lt dk[a]! x) dk Y x15 = scanUp (fun x => !lt dk[a]! x) dk Y X) ∧ Hid (Sw dk wr) ∧ Hid (Blok wr w.heap.size 73 #[.func (.func l) la lb, .func (.func s) #[] sb]) ∧ Hid (w.grownBy wr (some g))) (fun i _ => b + 1 - (intOf i).toNat)
    case atStart => exact ⟨X, by go_num, by omega, by omega, Lib.hid rfl, HS, HB, HG⟩
    case round =>
      obtain ⟨x15, rfl, ha15, hb15, HO15, HS15, HB15, HG15⟩ := hrel
      by_cases hl15 : x15 ≤ Y
      · have dl15 : decide ((x15 : Int) ≤ Y) = true := by simp; omega
        have c0 := HB15.out.at0
        obtain ⟨p15, hp15⟩ : ∃ p, lt dk[a]! dk[x15]! = p := ⟨_, rfl⟩
        have hc15 := SS.out.lesses a x15 HS15.out (by omega) (by omega) hp15
        have HP15 := Lib.hid hp15
        clear hp15
        go_wp2_with fail
        refine hc15.mono ?_
        rintro e wb15 ⟨rfl, HSb15, HG015⟩
        clear hc15 c0
        have HGb15 := Lib.hid (HG15.out.trans (grown_none HG015.out))
        have HBb15 := Lib.hid (HB15.out.grown HG015.out (by simp))
        clear HG015
        cases p15 with
        | false =>
          go_wp2
          go_roundw
          case rel => exact ⟨x15 + 1, by go_num, by omega, by omega, Lib.hid (by rw [← HO15.out, scanUp_go hl15 (by simp [HP15.out])]), HSb15, HBb15, HGb15⟩
          case measure => simp [intOf] <;> omega
        | true =>
          have HE15 : Hid (scanUp (fun x => !lt dk[a]! x) dk Y X = x15) := Lib.hid (by rw [← HO15.out, scanUp_end (.inr (by simp [HP15.out]))])
          go_wp2_with fail
          go_loopw [10] (fun i wr => ∃ y16 : Nat, i = .int .i64 y16 ∧ a ≤ y16 ∧ y16 ≤ Y ∧ Hid (scanDown (fun x => lt dk[a]! x) dk x15 y16 = scanDown (fun x => lt dk[a]! x) dk x15 Y) ∧ Hid (Sw dk wr) ∧ Hid (Blok wr w.heap.size 73 #[.func (.func l) la lb, .func (.func s) #[] sb]) ∧ Hid (w.grownBy wr (some g))) (fun i _ => (intOf i).toNat)
          case atStart => exact ⟨Y, by go_num, by omega, by omega, Lib.hid rfl, HSb15, HBb15, HGb15⟩
          case round =>
            obtain ⟨y16, rfl, ha16, hb16, HO16, HS16, HB16, HG16⟩ := hrel
            by_cases hl16 : x15 ≤ y16
            · have dl16 : decide ((x15 : Int) ≤ y16) = true := by simp; omega
              have c0 := HB16.out.at0
              obtain ⟨p16, hp16⟩ : ∃ p, lt dk[a]! dk[y16]! = p := ⟨_, rfl⟩
              have hc16 := SS.out.lesses a y16 HS16.out (by omega) (by omega) hp16
              have HP16 := Lib.hid hp16
              clear hp16
              go_wp2_with fail
              refine hc16.mono ?_
              rintro e wb16 ⟨rfl, HSb16, HG016⟩
              clear hc16 c0
              have HGb16 := Lib.hid (HG16.out.trans (grown_none HG016.out))
              have HBb16 := Lib.hid (HB16.out.grown HG016.out (by simp))
              clear HG016
              cases p16 with
              | true =>
                go_wp2
                go_roundw
                case rel => exact ⟨y16 - 1, by go_num, by omega, by omega, Lib.hid (by rw [← HO16.out, scanDown_go hl16 (by simp [HP16.out])]), HSb16, HBb16, HGb16⟩
                case measure => simp [intOf] <;> omega
              | false =>
                have HE16 : Hid (scanDown (fun x => lt dk[a]! x) dk x15 Y = y16) := Lib.hid (by rw [← HO16.out, scanDown_end (.inr (by simp [HP16.out]))])
                have hgt : decide (y16 < x15) = false := by simp; omega
                obtain ⟨w17, hr17, HS17, HG017⟩ := SS.out.swap (x15) (y16) HSb16.out (by omega) (by omega)
                have HS17 := Lib.hid HS17
                have HG17 := Lib.hid (HGb16.out.trans HG017)
                have HB17 := Lib.hid (HBb16.out.grown HG017 (by simp; omega))
                have c1 := HBb16.out.at1
                clear HG017
                go_wp2
                go_roundw
                case rel => exact ⟨x15 + 1, y16 - 1, swp dk x15 y16, by go_num, by go_num, by omega, by omega, by omega, by omega, Lib.hid (by rw [← HO.out, peq_go HE15.out HE16.out (by omega)]), HS17, HB17, HG17⟩
                case measure => simp [intOf] <;> omega
            · have dl16 : decide ((x15 : Int) ≤ y16) = false := by simp; omega
              have HE16 : Hid (scanDown (fun x => lt dk[a]! x) dk x15 Y = y16) := Lib.hid (by rw [← HO16.out, scanDown_end (.inl hl16)])
              have hgt : decide (y16 < x15) = true := by simp; omega
              have HF : Hid (mid = x15 ∧ d' = dk) := Lib.hid (by
                have h3 := peq_end HE15.out HE16.out (by omega)
                rw [HO.out] at h3
                simpa only [Prod.mk.injEq] using h3)
              obtain ⟨rfl, rfl⟩ := HF.out
              go_wp2
              go_ret
              exact ⟨rfl, HS16, HG16⟩
      · have dl15 : decide ((x15 : Int) ≤ Y) = false := by simp; omega
        have HE15 : Hid (scanUp (fun x => !lt dk[a]! x) dk Y X = x15) := Lib.hid (by rw [← HO15.out, scanUp_end (.inl hl15)])
        go_wp2_with fail
        go_loopw [10] (fun i wr => ∃ y18 : Nat, i = .int .i64 y18 ∧ a ≤ y18 ∧ y18 ≤ Y ∧ Hid (scanDown (fun x => lt dk[a]! x) dk x15 y18 = scanDown (fun x => lt dk[a]! x) dk x15 Y) ∧ Hid (Sw dk wr) ∧ Hid (Blok wr w.heap.size 73 #[.func (.func l) la lb, .func (.func s) #[] sb]) ∧ Hid (w.grownBy wr (some g))) (fun i _ => (intOf i).toNat)
        case atStart => exact ⟨Y, by go_num, by omega, by omega, Lib.hid rfl, HS15, HB15, HG15⟩
        case round =>
          obtain ⟨y18, rfl, ha18, hb18, HO18, HS18, HB18, HG18⟩ := hrel
          by_cases hl18 : x15 ≤ y18
          · omega
          · have dl18 : decide ((x15 : Int) ≤ y18) = false := by simp; omega
            have HE18 : Hid (scanDown (fun x => lt dk[a]! x) dk x15 Y = y18) := Lib.hid (by rw [← HO18.out, scanDown_end (.inl hl18)])
            have hgt : decide (y18 < x15) = true := by simp; omega
            have HF : Hid (mid = x15 ∧ d' = dk) := Lib.hid (by
              have h3 := peq_end HE15.out HE18.out (by omega)
              rw [HO.out] at h3
              simpa only [Prod.mk.injEq] using h3)
            obtain ⟨rfl, rfl⟩ := HF.out
            go_wp2
            go_ret
            exact ⟨rfl, HS18, HG18⟩
end Go.Proofs.Ytmegkfonodcoiaa
