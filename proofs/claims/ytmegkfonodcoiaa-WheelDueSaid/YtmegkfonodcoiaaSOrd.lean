/-
  Walks of the package sort's order2_func, median_func, medianAdjacent_func: they write into the counter alone.
-/
import Derived.Test.YtmegkfonodcoiaaSKit
import Derived.Sort.LotD4
namespace Go.Proofs.Ytmegkfonodcoiaa
open Go.RowKit Go.Sort
variable {α : Type} [Inhabited α] {lt : α → α → Bool} {l : Nat} {la lb : Array Value} {s : Nat} {sb : Array Value} {g n : Nat} {Sw : Array α → World → Prop}

set_option maxRecDepth 100000 in
set_option maxHeartbeats 400000 in
theorem order2_any (S : SortBy lt l la lb s sb g n Sw) (a b q pb x y z : Nat) (d : Array α) (w : World) (ha : a < n) (hb : b < n) (hq : q ≤ 1000) (h : Sw d w) (hp : Blok w pb 3 #[.int .i64 q]) (hg : pb ≠ g) (hr : order2 lt d a b q = (x, y, z)) :
    Calls Try.prog 68 #[.agg #[.func (.func l) la lb, .func (.func s) #[] sb], .int .i64 a, .int .i64 b, .pointer (some ⟨pb, 0, none⟩)] w fun e w' => e = .returned (.tuple #[.int .i64 x, .int .i64 y]) ∧ Hid (Sw d w') ∧ Hid (Blok w' pb 3 #[.int .i64 z]) ∧ Hid (w.grownBy w' (some pb)) := by
  have hgw := S.inb h
  have hpw := hp.lt
  have BX : Hid (Blok (w.alloc (.cells #[.func (.func l) la lb, .func (.func s) #[] sb] 73)) w.heap.size 73 #[.func (.func l) la lb, .func (.func s) #[] sb]) := Lib.hid (Blok.new _ _ _)
  have GX : Hid (w.grownBy (w.alloc (.cells #[.func (.func l) la lb, .func (.func s) #[] sb] 73)) none) := Lib.hid (World.grownBy_alloc _ _ _)
  have H1 := Lib.hid (S.keep h GX.out (by simp))
  have P1 := Lib.hid (hp.grown GX.out (by simp))
  have SS := Lib.hid S
  obtain ⟨p, hpq⟩ : ∃ p, lt d[b]! d[a]! = p := ⟨_, rfl⟩
  have hl := S.lesses b a H1.out hb ha hpq
  have eg := S.enters
  have HR : Hid (if p then x = b ∧ y = a ∧ z = q + 1 else x = a ∧ y = b ∧ z = q) := Lib.hid (by
    unfold order2 at hr; rw [hpq] at hr; cases p <;> simp at hr ⊢ <;> omega)
  have c0 := BX.out.at0
  clear h S hp hr hpq
  go_enter Try.func68, Try.ntmps68
  go_wp2_with fail
  refine hl.mono ?_
  rintro e w3 ⟨rfl, HS3, HG3⟩
  clear hl c0
  have P3 := Lib.hid (P1.out.grown HG3.out (by simp))
  have G3 := Lib.hid ((grown_none (row := some pb) GX.out).trans (grown_none HG3.out))
  have f3 := P3.out.frozen 0
  have c3 : w3.cell? ⟨pb, 0, none⟩ = some (.int .i64 q) := P3.out.cell 0
  cases p with
  | false =>
    obtain ⟨rfl, rfl, rfl⟩ := HR.out
    go_wp2
    go_ret2
    exact ⟨rfl, HS3, P3, G3⟩
  | true =>
    obtain ⟨rfl, rfl, rfl⟩ := HR.out
    have P4 : Hid (Blok (w3.setCell ⟨pb, 0, none⟩ (.int .i64 ((q : Int) + 1))) pb 3 #[.int .i64 ((q + 1 : Nat) : Int)]) := Lib.hid (by simpa using P3.out.set 0 (.int .i64 ((q : Int) + 1)))
    have G4 : Hid (w3.grownBy (w3.setCell ⟨pb, 0, none⟩ (.int .i64 ((q : Int) + 1))) (some pb)) := Lib.hid (grown_set _ _ _ _)
    have HS4 := Lib.hid (SS.out.keep HS3.out G4.out (by simpa using Ne.symm hg))
    go_wp2
    go_ret2
    exact ⟨rfl, HS4, P4, Lib.hid (G3.out.trans G4.out)⟩

set_option maxRecDepth 100000 in
set_option maxHeartbeats 400000 in
theorem median_any (S : SortBy lt l la lb s sb g n Sw) (a b c q pb x z : Nat) (d : Array α) (w : World) (ha : a < n) (hb : b < n) (hc : c < n) (hq : q ≤ 900) (h : Sw d w) (hp : Blok w pb 3 #[.int .i64 q]) (hg : pb ≠ g) (hr : median lt d a b c q = (x, z)) :
    Calls Try.prog 67 #[.agg #[.func (.func l) la lb, .func (.func s) #[] sb], .int .i64 a, .int .i64 b, .int .i64 c, .pointer (some ⟨pb, 0, none⟩)] w fun e w' => e = .returned (.int .i64 x) ∧ Hid (Sw d w') ∧ Hid (Blok w' pb 3 #[.int .i64 z]) ∧ Hid (w.grownBy w' (some pb)) := by
  have hpw := hp.lt
  have BX : Hid (Blok (w.alloc (.cells #[.func (.func l) la lb, .func (.func s) #[] sb] 73)) w.heap.size 73 #[.func (.func l) la lb, .func (.func s) #[] sb]) := Lib.hid (Blok.new _ _ _)
  have GX : Hid (w.grownBy (w.alloc (.cells #[.func (.func l) la lb, .func (.func s) #[] sb] 73)) none) := Lib.hid (World.grownBy_alloc _ _ _)
  have H1 := Lib.hid (S.keep h GX.out (by simp))
  have P1 := Lib.hid (hp.grown GX.out (by simp))
  have SS := Lib.hid S
  obtain ⟨x1, y1, z1, h1⟩ : ∃ x y z, order2 lt d a b q = (x, y, z) := ⟨_, _, _, rfl⟩
  obtain ⟨x2, y2, z2, h2⟩ : ∃ x y z, order2 lt d y1 c z1 = (x, y, z) := ⟨_, _, _, rfl⟩
  obtain ⟨x3, y3, z3, h3⟩ : ∃ x y z, order2 lt d x1 x2 z2 = (x, y, z) := ⟨_, _, _, rfl⟩
  have m1 := order2_mem lt d a b q
  have m2 := order2_mem lt d y1 c z1
  have k1 := order2_count lt d a b q
  have k2 := order2_count lt d y1 c z1
  rw [h1] at m1 k1
  rw [h2] at m2 k2
  have HR : Hid (x = y3 ∧ z = z3) := Lib.hid (by
    simp only [median, h1, h2, h3, Prod.mk.injEq] at hr
    exact ⟨hr.1.symm, hr.2.symm⟩)
  obtain ⟨rfl, rfl⟩ := HR.out
  have HM : Hid (x1 < n ∧ y1 < n ∧ x2 < n ∧ z1 ≤ 1000 ∧ z2 ≤ 1000) := Lib.hid (by simp only at m1 m2 k1 k2; omega)
  have O1 := Lib.hid h1
  have O2 := Lib.hid h2
  have O3 := Lib.hid h3
  have c0 := BX.out.at0
  have c1 := BX.out.at1
  clear h S hp hr h1 h2 h3 m1 m2 k1 k2
  go_enter Try.func67, Try.ntmps67
  go_wp2_with fail
  refine (order2_any SS.out a b q pb x1 y1 z1 d _ ha hb (by omega) H1.out P1.out hg O1.out).mono ?_
  rintro e w3 ⟨rfl, HS3, P3, G3⟩
  have B3 := Lib.hid (BX.out.grown G3.out (by simp; omega))
  clear c0 c1
  have c0 := B3.out.at0
  have c1 := B3.out.at1
  go_wp2_with fail
  refine (order2_any SS.out y1 c z1 pb x2 y2 z2 d _ HM.out.2.1 hc HM.out.2.2.2.1 HS3.out P3.out hg O2.out).mono ?_
  rintro e w4 ⟨rfl, HS4, P4, G4⟩
  have B4 := Lib.hid (B3.out.grown G4.out (by simp; omega))
  clear c0 c1
  have c0 := B4.out.at0
  have c1 := B4.out.at1
  go_wp2_with fail
  refine (order2_any SS.out x1 x2 z2 pb x3 x z d _ HM.out.1 HM.out.2.2.1 HM.out.2.2.2.2 HS4.out P4.out hg O3.out).mono ?_
  rintro e w5 ⟨rfl, HS5, P5, G5⟩
  go_wp2
  go_ret
  exact ⟨rfl, HS5, P5, Lib.hid ((((grown_none GX.out).trans G3.out).trans G4.out).trans G5.out)⟩

set_option maxRecDepth 100000 in
set_option maxHeartbeats 400000 in
theorem medianAdj_any (S : SortBy lt l la lb s sb g n Sw) (a q pb x z : Nat) (d : Array α) (w : World) (ha : 1 ≤ a) (hb : a + 1 < n) (hq : q ≤ 900) (h : Sw d w) (hp : Blok w pb 3 #[.int .i64 q]) (hg : pb ≠ g) (hr : medianAdjacent lt d a q = (x, z)) :
    Calls Try.prog 66 #[.agg #[.func (.func l) la lb, .func (.func s) #[] sb], .int .i64 a, .pointer (some ⟨pb, 0, none⟩)] w fun e w' => e = .returned (.int .i64 x) ∧ Hid (Sw d w') ∧ Hid (Blok w' pb 3 #[.int .i64 z]) ∧ Hid (w.grownBy w' (some pb)) := by
  have hm := S.most
  have BX : Hid (Blok (w.alloc (.cells #[.func (.func l) la lb, .func (.func s) #[] sb] 73)) w.heap.size 73 #[.func (.func l) la lb, .func (.func s) #[] sb]) := Lib.hid (Blok.new _ _ _)
  have GX : Hid (w.grownBy (w.alloc (.cells #[.func (.func l) la lb, .func (.func s) #[] sb] 73)) none) := Lib.hid (World.grownBy_alloc _ _ _)
  have H1 := Lib.hid (S.keep h GX.out (by simp))
  have P1 := Lib.hid (hp.grown GX.out (by simp))
  have hc := median_any S (a - 1) a (a + 1) q pb x z d _ (by omega) (by omega) hb hq H1.out P1.out hg hr
  rw [show ((a - 1 : Nat) : Int) = (a : Int) - 1 by omega, show ((a + 1 : Nat) : Int) = (a : Int) + 1 by omega] at hc
  have c0 := BX.out.at0
  have c1 := BX.out.at1
  clear h S hp hr
  go_enter Try.func66, Try.ntmps66
  go_wp2_with fail
  refine hc.mono ?_
  rintro e w3 ⟨rfl, HS3, P3, G3⟩
  go_wp2
  go_ret
  exact ⟨rfl, HS3, P3, Lib.hid ((grown_none GX.out).trans G3.out)⟩
end Go.Proofs.Ytmegkfonodcoiaa
