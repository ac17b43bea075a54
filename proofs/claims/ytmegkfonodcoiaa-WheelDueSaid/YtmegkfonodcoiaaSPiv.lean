/-
  A walk of the package sort's choosePivot_func.
-/
import Derived.Test.YtmegkfonodcoiaaSOrd
namespace Go.Proofs.Ytmegkfonodcoiaa
open Go.RowKit Go.Sort
variable {α : Type} [Inhabited α] {lt : α → α → Bool} {l : Nat} {la lb : Array Value} {s : Nat} {sb : Array Value} {g n : Nat} {Sw : Array α → World → Prop}

set_option maxRecDepth 100000 in
set_option maxHeartbeats 1000000 in
theorem pivot_any (S : SortBy lt l la lb s sb g n Sw) (a b x : Nat) (hn : Hint) (d : Array α) (w : World) (hab : a + 12 < b) (hb : b ≤ n) (h : Sw d w) (hr : choosePivot lt d a b = (x, hn)) :
    Calls Try.prog 58 #[.agg #[.func (.func l) la lb, .func (.func s) #[] sb], .int .i64 a, .int .i64 b] w fun e w' => e = .returned (.tuple #[.int .i64 x, .int .i64 (hintCode hn)]) ∧ Hid (Sw d w') ∧ Hid (w.grownBy w' (some g)) := by
  have BX : Hid (Blok (w.alloc (.cells #[.func (.func l) la lb, .func (.func s) #[] sb] 73)) w.heap.size 73 #[.func (.func l) la lb, .func (.func s) #[] sb]) := Lib.hid (Blok.new _ _ _)
  have GX : Hid (w.grownBy (w.alloc (.cells #[.func (.func l) la lb, .func (.func s) #[] sb] 73)) none) := Lib.hid (World.grownBy_alloc _ _ _)
  have hsz : (w.alloc (.cells #[.func (.func l) la lb, .func (.func s) #[] sb] 73)).heap.size = w.heap.size + 1 := by simp
  obtain ⟨w1, hw1⟩ : ∃ w1, (w.alloc (.cells #[.func (.func l) la lb, .func (.func s) #[] sb] 73)).alloc (.cells #[.int .i64 0] 3) = w1 := ⟨_, rfl⟩
  have G1 : Hid (w.grownBy w1 none) := Lib.hid (by rw [← hw1]; exact GX.out.trans (World.grownBy_alloc _ _ _))
  have B1 : Hid (Blok w1 w.heap.size 73 #[.func (.func l) la lb, .func (.func s) #[] sb]) := Lib.hid (by rw [← hw1]; exact BX.out.alloc _)
  have P1 : Hid (Blok w1 (w.heap.size + 1) 3 #[.int .i64 ((0 : Nat) : Int)]) := Lib.hid (by rw [← hw1, ← hsz]; exact Blok.new _ _ _)
  have H1 := Lib.hid (S.keep h G1.out (by simp))
  have hgw := S.inb h
  have SS := Lib.hid S
  have hm := S.most
  have hg : w.heap.size + 1 ≠ g := by omega
  obtain ⟨L, hL⟩ : ∃ L, b = a + L := ⟨b - a, by omega⟩
  obtain ⟨q, hq⟩ : ∃ q, q = L / 4 := ⟨_, rfl⟩
  have hLi : (b : Int) - (a : Int) = (L : Int) := by omega
  have hqi : (L : Int) / 4 = (q : Int) := by omega
  have HR : Hid (x = (rawPivot lt d a b).1 ∧ hn = hintOf (rawPivot lt d a b).2) := Lib.hid (by
    rw [choosePivot_eq] at hr; simp only [Prod.mk.injEq] at hr; exact ⟨hr.1.symm, hr.2.symm⟩)
  have d8 : decide ((8 : Int) ≤ (L : Int)) = true := by simp; omega
  have FIN : ∀ z : Nat, Hid (hn = hintOf z) → (z = 0 ∧ hintCode hn = 1) ∨ (z = 12 ∧ hintCode hn = 2) ∨ (z ≠ 0 ∧ z ≠ 12 ∧ hintCode hn = 0) := fun z h => by
    rw [h.out]
    unfold hintOf
    by_cases h0 : z = 0
    · exact .inl ⟨h0, by rw [if_pos h0]; rfl⟩
    · by_cases h12 : z = 12
      · exact .inr (.inl ⟨h12, by rw [if_neg h0, if_pos h12]; rfl⟩)
      · exact .inr (.inr ⟨h0, h12, by rw [if_neg h0, if_neg h12]; rfl⟩)
  have HFIN := Lib.hid FIN
  clear FIN
  have hqL : 3 * q + 1 ≤ L := by omega
  have hq3 : 3 ≤ q := by omega
  have HL := Lib.hid hL
  have HQ := Lib.hid hq
  have hbL : a + L ≤ n := by omega
  clear h S hL hq hr GX BX hsz
  have c0 := B1.out.at0
  have c1 := B1.out.at1
  by_cases h50 : 50 ≤ L
  · have d50 : decide ((50 : Int) ≤ (L : Int)) = true := by simp; omega
    obtain ⟨i1, z1, h1⟩ : ∃ i z, medianAdjacent lt d (a + q * 1) 0 = (i, z) := ⟨_, _, rfl⟩
    obtain ⟨i2, z2, h2⟩ : ∃ i z, medianAdjacent lt d (a + q * 2) z1 = (i, z) := ⟨_, _, rfl⟩
    obtain ⟨i3, z3, h3⟩ : ∃ i z, medianAdjacent lt d (a + q * 3) z2 = (i, z) := ⟨_, _, rfl⟩
    obtain ⟨i4, z4, h4⟩ : ∃ i z, median lt d i1 i2 i3 z3 = (i, z) := ⟨_, _, rfl⟩
    have m1 := medianAdjacent_mem lt d (a + q * 1) 0
    have m2 := medianAdjacent_mem lt d (a + q * 2) z1
    have m3 := medianAdjacent_mem lt d (a + q * 3) z2
    have k1 := medianAdjacent_count lt d (a + q * 1) 0
    have k2 := medianAdjacent_count lt d (a + q * 2) z1
    have k3 := medianAdjacent_count lt d (a + q * 3) z2
    rw [h1] at m1 k1
    rw [h2] at m2 k2
    rw [h3] at m3 k3
    have HX : Hid (x = i4 ∧ hn = hintOf z4) := Lib.hid (by
      have := HR.out
      unfold rawPivot at this
      rw [show b - a = L by have := HL.out; omega, if_pos (by omega), if_pos (by omega), ← HQ.out, h1, h2, h3] at this
      simp only [h4] at this
      exact this)
    have HI : Hid (i1 < n ∧ i2 < n ∧ i3 < n ∧ z1 ≤ 900 ∧ z2 ≤ 900 ∧ z3 ≤ 900) := Lib.hid (by simp only at m1 m2 m3 k1 k2 k3; omega)
    have O4 := Lib.hid h4
    have hc1 := medianAdj_any SS.out (a + q * 1) 0 (w.heap.size + 1) i1 z1 d w1 (by omega) (by omega) (by omega) H1.out P1.out hg h1
    have hc2 := fun W hs hp => medianAdj_any SS.out (a + q * 2) z1 (w.heap.size + 1) i2 z2 d W (by omega) (by omega) HI.out.2.2.2.1 hs hp hg h2
    have hc3 := fun W hs hp => medianAdj_any SS.out (a + q * 3) z2 (w.heap.size + 1) i3 z3 d W (by omega) (by omega) HI.out.2.2.2.2.1 hs hp hg h3
    rw [show ((a + q * 1 : Nat) : Int) = (a : Int) + q by omega] at hc1
    rw [show ((a + q * 2 : Nat) : Int) = (a : Int) + q * 2 by omega] at hc2
    rw [show ((a + q * 3 : Nat) : Int) = (a : Int) + q * 3 by omega] at hc3
    clear h1 h2 h3 h4 m1 m2 m3 k1 k2 k3 HR
    obtain ⟨rfl, hhn⟩ := HX.out
    have HN := Lib.hid hhn
    clear hhn HX
    go_enter Try.func58, Try.ntmps58
    go_wp2_with fail
    refine (hc1).mono ?_
    rintro e w2 ⟨rfl, HSw2, Pw2, G0w2⟩
    have Bw2 := Lib.hid (B1.out.grown G0w2.out (by simp))
    have Gw2 : Hid (w.grownBy w2 none) := Lib.hid (G1.out.andThen G0w2.out (fun j hj => .inl (by cases hj; exact Nat.le_succ _)))
    clear c0 c1 G0w2
    have c0 := Bw2.out.at0
    have c1 := Bw2.out.at1
    go_wp2_with fail
    refine (hc2 _ HSw2.out Pw2.out).mono ?_
    rintro e w3 ⟨rfl, HSw3, Pw3, G0w3⟩
    have Bw3 := Lib.hid (Bw2.out.grown G0w3.out (by simp))
    have Gw3 : Hid (w.grownBy w3 none) := Lib.hid (Gw2.out.andThen G0w3.out (fun j hj => .inl (by cases hj; exact Nat.le_succ _)))
    clear c0 c1 G0w3
    have c0 := Bw3.out.at0
    have c1 := Bw3.out.at1
    go_wp2_with fail
    refine (hc3 _ HSw3.out Pw3.out).mono ?_
    rintro e w4 ⟨rfl, HSw4, Pw4, G0w4⟩
    have Bw4 := Lib.hid (Bw3.out.grown G0w4.out (by simp))
    have Gw4 : Hid (w.grownBy w4 none) := Lib.hid (Gw3.out.andThen G0w4.out (fun j hj => .inl (by cases hj; exact Nat.le_succ _)))
    clear c0 c1 G0w4
    have c0 := Bw4.out.at0
    have c1 := Bw4.out.at1
    go_wp2_with fail
    refine (median_any SS.out i1 i2 i3 z3 (w.heap.size + 1) x z4 d _ HI.out.1 HI.out.2.1 HI.out.2.2.1 HI.out.2.2.2.2.2 HSw4.out Pw4.out hg O4.out).mono ?_
    rintro e w5 ⟨rfl, HSw5, Pw5, G0w5⟩
    have Bw5 := Lib.hid (Bw4.out.grown G0w5.out (by simp))
    have Gw5 : Hid (w.grownBy w5 none) := Lib.hid (Gw4.out.andThen G0w5.out (fun j hj => .inl (by cases hj; exact Nat.le_succ _)))
    clear c0 c1 G0w5
    have c0 := Bw5.out.at0
    have c1 := Bw5.out.at1
    have c2 : w5.cell? ⟨w.heap.size + 1, 0, none⟩ = some (.int .i64 (z4 : Nat)) := Pw5.out.cell 0
    have G9 : Hid (w.grownBy w5 (some g)) := Lib.hid (grown_none Gw5.out)
    rcases HFIN.out z4 HN with ⟨rfl, hcode⟩ | ⟨rfl, hcode⟩ | ⟨hz0, hz12, hcode⟩
    · have HC := Lib.hid hcode
      clear hcode
      go_wp2
      go_ret2
      exact ⟨by rw [HC.out]; rfl, HSw5, G9⟩
    · have HC := Lib.hid hcode
      clear hcode
      go_wp2
      go_ret2
      exact ⟨by rw [HC.out]; rfl, HSw5, G9⟩
    · have HC := Lib.hid hcode
      clear hcode
      have e0 : ((z4 : Int) == 0) = false := by simp; omega
      have e12 : ((z4 : Int) == 12) = false := by simp; omega
      go_wp2
      go_ret2
      exact ⟨by rw [HC.out]; rfl, HSw5, G9⟩
  · have d50 : decide ((50 : Int) ≤ (L : Int)) = false := by simp; omega
    obtain ⟨i4, z4, h4⟩ : ∃ i z, median lt d (a + q * 1) (a + q * 2) (a + q * 3) 0 = (i, z) := ⟨_, _, rfl⟩
    have HX : Hid (x = i4 ∧ hn = hintOf z4) := Lib.hid (by
      have := HR.out
      unfold rawPivot at this
      rw [show b - a = L by have := HL.out; omega, if_pos (by omega), if_neg (by omega), ← HQ.out, h4] at this
      exact this)
    have hc1 := median_any SS.out (a + q * 1) (a + q * 2) (a + q * 3) 0 (w.heap.size + 1) i4 z4 d w1 (by omega) (by omega) (by omega) (by omega) H1.out P1.out hg h4
    rw [show ((a + q * 1 : Nat) : Int) = (a : Int) + q by omega, show ((a + q * 2 : Nat) : Int) = (a : Int) + q * 2 by omega, show ((a + q * 3 : Nat) : Int) = (a : Int) + q * 3 by omega] at hc1
    clear h4 HR
    obtain ⟨rfl, hhn⟩ := HX.out
    have HN := Lib.hid hhn
    clear hhn HX
    go_enter Try.func58, Try.ntmps58
    go_wp2_with fail
    refine (hc1).mono ?_
    rintro e w5 ⟨rfl, HSw5, Pw5, G0w5⟩
    have Bw5 := Lib.hid (B1.out.grown G0w5.out (by simp))
    have Gw5 : Hid (w.grownBy w5 none) := Lib.hid (G1.out.andThen G0w5.out (fun j hj => .inl (by cases hj; exact Nat.le_succ _)))
    clear c0 c1 G0w5
    have c0 := Bw5.out.at0
    have c1 := Bw5.out.at1
    have c2 : w5.cell? ⟨w.heap.size + 1, 0, none⟩ = some (.int .i64 (z4 : Nat)) := Pw5.out.cell 0
    have G9 : Hid (w.grownBy w5 (some g)) := Lib.hid (grown_none Gw5.out)
    rcases HFIN.out z4 HN with ⟨rfl, hcode⟩ | ⟨rfl, hcode⟩ | ⟨hz0, hz12, hcode⟩
    · have HC := Lib.hid hcode
      clear hcode
      go_wp2
      go_ret2
      exact ⟨by rw [HC.out]; rfl, HSw5, G9⟩
    · have HC := Lib.hid hcode
      clear hcode
      go_wp2
      go_ret2
      exact ⟨by rw [HC.out]; rfl, HSw5, G9⟩
    · have HC := Lib.hid hcode
      clear hcode
      have e0 : ((z4 : Int) == 0) = false := by simp; omega
      have e12 : ((z4 : Int) == 12) = false := by simp; omega
      go_wp2
      go_ret2
      exact ⟨by rw [HC.out]; rfl, HSw5, G9⟩
end Go.Proofs.Ytmegkfonodcoiaa
