/-
  LeaseBack.
-/
import Derived.Test.YtbnhaoimdponkaaLSrt
namespace Go.Proofs.Ytbnhaoimdponkaa
open Go.RowKit

set_option maxRecDepth 100000 in
set_option maxHeartbeats 2000000 in
theorem LeaseBack_in (a0 : Option Addr) (n0 c0 : Nat) (l0 : List L.Ls) (x0 : L.Ls) (w : World) (h0 : RIn w a0 n0 c0 l0) :
    Calls Try.prog 4 #[.slice a0 n0 c0, L.val x0] w fun e w' => e = .returned (.bool true) ∧ Below w.heap.size w w' := by
  obtain ⟨Zx, hZx⟩ : ∃ W, w.alloc (.cells #[.int .i64 x0.s, .int .i64 x0.a, .int .i64 x0.b, .int .i64 x0.f, .int .i64 x0.t] 30) = W := ⟨_, rfl⟩
  have Bx : Below w.heap.size w Zx := by rw [← hZx]; exact (Below.refl _ w).alloc (Nat.le_refl _) _
  have Kx : L.Bx Zx w.heap.size 30 x0 := by rw [← hZx]; exact Blok.new w _ _
  have sx : Zx.heap.size = w.heap.size + 1 := by rw [← hZx]; simp
  have HXx0 := Lib.hid Kx
  have HB0 := Lib.hid Bx
  clear Bx Kx sx
  have HT00 := Lib.hid (h0.below HB0.out)
  clear h0
  have kx0 : Zx.cell? ⟨w.heap.size, 0, none⟩ = some (.int .i64 x0.s) := Blok.cell HXx0.out 0
  have kx1 : Zx.cell? ⟨w.heap.size, 1, none⟩ = some (.int .i64 x0.a) := Blok.cell HXx0.out 1
  have kx2 : Zx.cell? ⟨w.heap.size, 2, none⟩ = some (.int .i64 x0.b) := Blok.cell HXx0.out 2
  have kx3 : Zx.cell? ⟨w.heap.size, 3, none⟩ = some (.int .i64 x0.f) := Blok.cell HXx0.out 3
  have kx4 : Zx.cell? ⟨w.heap.size, 4, none⟩ = some (.int .i64 x0.t) := Blok.cell HXx0.out 4
  have hl := HT00.out.1
  obtain ⟨s, hs⟩ : ∃ b, decide (L.Srt l0) = b := ⟨_, rfl⟩
  have HS := Lib.hid hs
  clear hs
  unfold L.val
  go_enter Try.func4, Try.ntmps4
  go_wp2_with fail
  refine (lawake_any Zx).mono ?_
  rintro e w1 ⟨rfl, hb⟩
  have HT01 := Lib.hid (HT00.out.below hb)
  have HXx1 : Hid (L.Bx w1 w.heap.size 30 x0) := Lib.hid (Blok.below HXx0.out hb (Blok.lt HXx0.out))
  have HB1 := Lib.hid (HB0.out.trans (hb.mono HB0.out.size))
  clear hb HT00 HXx0 kx0 kx1 kx2 kx3 kx4 HB0
  have kx0 : w1.cell? ⟨w.heap.size, 0, none⟩ = some (.int .i64 x0.s) := Blok.cell HXx1.out 0
  have kx1 : w1.cell? ⟨w.heap.size, 1, none⟩ = some (.int .i64 x0.a) := Blok.cell HXx1.out 1
  have kx2 : w1.cell? ⟨w.heap.size, 2, none⟩ = some (.int .i64 x0.b) := Blok.cell HXx1.out 2
  have kx3 : w1.cell? ⟨w.heap.size, 3, none⟩ = some (.int .i64 x0.f) := Blok.cell HXx1.out 3
  have kx4 : w1.cell? ⟨w.heap.size, 4, none⟩ = some (.int .i64 x0.t) := Blok.cell HXx1.out 4
  go_wp2_with fail
  refine (srt_any a0 n0 c0 l0 s HS.out w1 HT01.out).mono ?_
  rintro e w2 ⟨rfl, hb⟩
  have HT02 := Lib.hid (HT01.out.below hb)
  have HXx2 : Hid (L.Bx w2 w.heap.size 30 x0) := Lib.hid (Blok.below HXx1.out hb (Blok.lt HXx1.out))
  have HB2 := Lib.hid (HB1.out.trans (hb.mono HB1.out.size))
  clear hb HT01 HXx1 kx0 kx1 kx2 kx3 kx4 HB1
  have kx0 : w2.cell? ⟨w.heap.size, 0, none⟩ = some (.int .i64 x0.s) := Blok.cell HXx2.out 0
  have kx1 : w2.cell? ⟨w.heap.size, 1, none⟩ = some (.int .i64 x0.a) := Blok.cell HXx2.out 1
  have kx2 : w2.cell? ⟨w.heap.size, 2, none⟩ = some (.int .i64 x0.b) := Blok.cell HXx2.out 2
  have kx3 : w2.cell? ⟨w.heap.size, 3, none⟩ = some (.int .i64 x0.f) := Blok.cell HXx2.out 3
  have kx4 : w2.cell? ⟨w.heap.size, 4, none⟩ = some (.int .i64 x0.t) := Blok.cell HXx2.out 4
  by_cases h40 : n0 ≤ 40
  · have d40 : decide ((40 : Int) < (n0 : Int)) = false := by simp; omega
    have d40' : decide (40 < n0) = false := by simp; omega
    cases s with
    | false =>
      go_wp2
      go_ret
      exact ⟨rfl, HB2.out⟩
    | true =>
      have hsrt : L.Srt l0 := by have := HS.out; simpa using this
      obtain ⟨⟨k1, b1⟩, hk1⟩ : ∃ p, L.put l0 x0 = p := ⟨_, rfl⟩
      obtain ⟨⟨k2, b2⟩, hk2⟩ : ∃ p, L.del l0 x0.a x0.b = p := ⟨_, rfl⟩
      obtain ⟨m1, hm1⟩ : ∃ m, k1.length = m := ⟨_, rfl⟩
      obtain ⟨m2, hm2⟩ : ∃ m, k2.length = m := ⟨_, rfl⟩
      have hm1' : m1 ≤ 41 := by have h9 := L.put_len l0 x0; rw [hk1, hm1] at h9; split at h9 <;> omega
      have hm2' : m2 ≤ 41 := by have h9 := L.del_len l0 x0.a x0.b; rw [hk2, hm2] at h9; omega
      have hs1 : decide (L.Srt k1) = true := by have h9 := L.put_srt (x := x0) hsrt; rw [hk1] at h9; exact decide_eq_true h9
      have hs2 : decide (L.Srt k2) = true := by have h9 := L.del_srt (a := x0.a) (b := x0.b) hsrt; rw [hk2] at h9; exact decide_eq_true h9
      have hno1 : b1 = false → k1 = l0 := fun e => by have h9 := L.put_no (l := l0) (x := x0) (by rw [hk1]; exact e); rw [hk1] at h9; exact h9
      have hno2 : b2 = false → k2 = l0 := fun e => by have h9 := L.del_no (l := l0) (a := x0.a) (b := x0.b) (by rw [hk2]; exact e); rw [hk2] at h9; exact h9
      obtain ⟨r, hr⟩ : ∃ r, L.find l0 x0.a x0.b = r := ⟨_, rfl⟩
      have hb1 : b1 = decide (r = -1 ∧ l0.length < 32) := by have h9 := L.put_is l0 x0; rw [hk1, hr] at h9; exact h9
      have HK1 := Lib.hid hk1
      have HK2 := Lib.hid hk2
      have HM1 := Lib.hid hm1
      have HM2 := Lib.hid hm2
      have HS1 := Lib.hid hs1
      have HS2 := Lib.hid hs2
      have HN1 := Lib.hid hno1
      have HN2 := Lib.hid hno2
      have HR := Lib.hid hr
      have HB1' := Lib.hid hb1
      clear hk1 hk2 hm1 hm2 hs1 hs2 hno1 hno2 hr hb1 hsrt
      go_wp2_with fail
      refine (put_any a0 n0 c0 l0 k1 x0 b1 m1 HK1.out HM1.out w2 HT02.out (by omega)).mono ?_
      rintro e w3 ⟨a1, c1, rfl, ht1, hb⟩
      have HT03 := Lib.hid (HT02.out.below hb)
      have HXx3 : Hid (L.Bx w3 w.heap.size 30 x0) := Lib.hid (Blok.below HXx2.out hb (Blok.lt HXx2.out))
      have HB3 := Lib.hid (HB2.out.trans (hb.mono HB2.out.size))
      clear hb HT02 HXx2 kx0 kx1 kx2 kx3 kx4 HB2
      have HT13 := ht1
      clear ht1
      have kx0 : w3.cell? ⟨w.heap.size, 0, none⟩ = some (.int .i64 x0.s) := Blok.cell HXx3.out 0
      have kx1 : w3.cell? ⟨w.heap.size, 1, none⟩ = some (.int .i64 x0.a) := Blok.cell HXx3.out 1
      have kx2 : w3.cell? ⟨w.heap.size, 2, none⟩ = some (.int .i64 x0.b) := Blok.cell HXx3.out 2
      have kx3 : w3.cell? ⟨w.heap.size, 3, none⟩ = some (.int .i64 x0.f) := Blok.cell HXx3.out 3
      have kx4 : w3.cell? ⟨w.heap.size, 4, none⟩ = some (.int .i64 x0.t) := Blok.cell HXx3.out 4
      go_wp2_with fail
      refine (del_any a0 n0 c0 l0 k2 x0.a x0.b b2 m2 HK2.out HM2.out w3 HT03.out (by omega)).mono ?_
      rintro e w4 ⟨a2, c2, rfl, ht2, hb⟩
      have HT04 := Lib.hid (HT03.out.below hb)
      have HT14 := Lib.hid (HT13.out.below hb)
      have HXx4 : Hid (L.Bx w4 w.heap.size 30 x0) := Lib.hid (Blok.below HXx3.out hb (Blok.lt HXx3.out))
      have HB4 := Lib.hid (HB3.out.trans (hb.mono HB3.out.size))
      clear hb HT03 HT13 HXx3 kx0 kx1 kx2 kx3 kx4 HB3
      have HT24 := ht2
      clear ht2
      have kx0 : w4.cell? ⟨w.heap.size, 0, none⟩ = some (.int .i64 x0.s) := Blok.cell HXx4.out 0
      have kx1 : w4.cell? ⟨w.heap.size, 1, none⟩ = some (.int .i64 x0.a) := Blok.cell HXx4.out 1
      have kx2 : w4.cell? ⟨w.heap.size, 2, none⟩ = some (.int .i64 x0.b) := Blok.cell HXx4.out 2
      have kx3 : w4.cell? ⟨w.heap.size, 3, none⟩ = some (.int .i64 x0.f) := Blok.cell HXx4.out 3
      have kx4 : w4.cell? ⟨w.heap.size, 4, none⟩ = some (.int .i64 x0.t) := Blok.cell HXx4.out 4
      go_wp2_with fail
      refine (srt_any a1 m1 c1 k1 true HS1.out w4 HT14.out).mono ?_
      rintro e w5 ⟨rfl, hb⟩
      have HT05 := Lib.hid (HT04.out.below hb)
      have HT15 := Lib.hid (HT14.out.below hb)
      have HT25 := Lib.hid (HT24.out.below hb)
      have HXx5 : Hid (L.Bx w5 w.heap.size 30 x0) := Lib.hid (Blok.below HXx4.out hb (Blok.lt HXx4.out))
      have HB5 := Lib.hid (HB4.out.trans (hb.mono HB4.out.size))
      clear hb HT04 HT14 HT24 HXx4 kx0 kx1 kx2 kx3 kx4 HB4
      have kx0 : w5.cell? ⟨w.heap.size, 0, none⟩ = some (.int .i64 x0.s) := Blok.cell HXx5.out 0
      have kx1 : w5.cell? ⟨w.heap.size, 1, none⟩ = some (.int .i64 x0.a) := Blok.cell HXx5.out 1
      have kx2 : w5.cell? ⟨w.heap.size, 2, none⟩ = some (.int .i64 x0.b) := Blok.cell HXx5.out 2
      have kx3 : w5.cell? ⟨w.heap.size, 3, none⟩ = some (.int .i64 x0.f) := Blok.cell HXx5.out 3
      have kx4 : w5.cell? ⟨w.heap.size, 4, none⟩ = some (.int .i64 x0.t) := Blok.cell HXx5.out 4
      go_wp2_with fail
      refine (srt_any a2 m2 c2 k2 true HS2.out w5 HT25.out).mono ?_
      rintro e w6 ⟨rfl, hb⟩
      have HT06 := Lib.hid (HT05.out.below hb)
      have HT16 := Lib.hid (HT15.out.below hb)
      have HT26 := Lib.hid (HT25.out.below hb)
      have HXx6 : Hid (L.Bx w6 w.heap.size 30 x0) := Lib.hid (Blok.below HXx5.out hb (Blok.lt HXx5.out))
      have HB6 := Lib.hid (HB5.out.trans (hb.mono HB5.out.size))
      clear hb HT05 HT15 HT25 HXx5 kx0 kx1 kx2 kx3 kx4 HB5
      have kx0 : w6.cell? ⟨w.heap.size, 0, none⟩ = some (.int .i64 x0.s) := Blok.cell HXx6.out 0
      have kx1 : w6.cell? ⟨w.heap.size, 1, none⟩ = some (.int .i64 x0.a) := Blok.cell HXx6.out 1
      have kx2 : w6.cell? ⟨w.heap.size, 2, none⟩ = some (.int .i64 x0.b) := Blok.cell HXx6.out 2
      have kx3 : w6.cell? ⟨w.heap.size, 3, none⟩ = some (.int .i64 x0.f) := Blok.cell HXx6.out 3
      have kx4 : w6.cell? ⟨w.heap.size, 4, none⟩ = some (.int .i64 x0.t) := Blok.cell HXx6.out 4
      cases b1 with
      | false =>
        cases b2 with
        | false =>
          go_wp2_with fail
          refine (same_any a1 a0 m1 n0 c1 c0 k1 l0 w6 HT16.out HT06.out (by omega) true (decide_eq_true (HN1.out (by simp)))).mono ?_
          rintro e w7 ⟨rfl, hb⟩
          have HT07 := Lib.hid (HT06.out.below hb)
          have HT17 := Lib.hid (HT16.out.below hb)
          have HT27 := Lib.hid (HT26.out.below hb)
          have HXx7 : Hid (L.Bx w7 w.heap.size 30 x0) := Lib.hid (Blok.below HXx6.out hb (Blok.lt HXx6.out))
          have HB7 := Lib.hid (HB6.out.trans (hb.mono HB6.out.size))
          clear hb HT06 HT16 HT26 HXx6 kx0 kx1 kx2 kx3 kx4 HB6
          have kx0 : w7.cell? ⟨w.heap.size, 0, none⟩ = some (.int .i64 x0.s) := Blok.cell HXx7.out 0
          have kx1 : w7.cell? ⟨w.heap.size, 1, none⟩ = some (.int .i64 x0.a) := Blok.cell HXx7.out 1
          have kx2 : w7.cell? ⟨w.heap.size, 2, none⟩ = some (.int .i64 x0.b) := Blok.cell HXx7.out 2
          have kx3 : w7.cell? ⟨w.heap.size, 3, none⟩ = some (.int .i64 x0.f) := Blok.cell HXx7.out 3
          have kx4 : w7.cell? ⟨w.heap.size, 4, none⟩ = some (.int .i64 x0.t) := Blok.cell HXx7.out 4
          go_wp2_with fail
          refine (same_any a2 a0 m2 n0 c2 c0 k2 l0 w7 HT27.out HT07.out (by omega) true (decide_eq_true (HN2.out (by simp)))).mono ?_
          rintro e w8 ⟨rfl, hb⟩
          have HT08 := Lib.hid (HT07.out.below hb)
          have HT18 := Lib.hid (HT17.out.below hb)
          have HT28 := Lib.hid (HT27.out.below hb)
          have HXx8 : Hid (L.Bx w8 w.heap.size 30 x0) := Lib.hid (Blok.below HXx7.out hb (Blok.lt HXx7.out))
          have HB8 := Lib.hid (HB7.out.trans (hb.mono HB7.out.size))
          clear hb HT07 HT17 HT27 HXx7 kx0 kx1 kx2 kx3 kx4 HB7
          have kx0 : w8.cell? ⟨w.heap.size, 0, none⟩ = some (.int .i64 x0.s) := Blok.cell HXx8.out 0
          have kx1 : w8.cell? ⟨w.heap.size, 1, none⟩ = some (.int .i64 x0.a) := Blok.cell HXx8.out 1
          have kx2 : w8.cell? ⟨w.heap.size, 2, none⟩ = some (.int .i64 x0.b) := Blok.cell HXx8.out 2
          have kx3 : w8.cell? ⟨w.heap.size, 3, none⟩ = some (.int .i64 x0.f) := Blok.cell HXx8.out 3
          have kx4 : w8.cell? ⟨w.heap.size, 4, none⟩ = some (.int .i64 x0.t) := Blok.cell HXx8.out 4
          by_cases hr1 : r = -1
          · have h32 : ¬ (n0 < 32) := fun e => by have h9 := HB1'.out; rw [decide_eq_true ⟨hr1, by omega⟩] at h9; cases h9
            subst hr1
            have d1 : decide ((n0 : Int) < 32) = false := by simp; omega
            have d2 : decide (n0 < 32) = false := by simpa using h32
            have e1 : ((-1 : Int) == -1) = true := rfl
            go_wp2_with fail
            refine (find_any a0 n0 c0 l0 x0.a x0.b (-1) HR.out w8 HT08.out (by omega)).mono ?_
            rintro e w9 ⟨rfl, hb⟩
            have HT09 := Lib.hid (HT08.out.below hb)
            have HT19 := Lib.hid (HT18.out.below hb)
            have HT29 := Lib.hid (HT28.out.below hb)
            have HXx9 : Hid (L.Bx w9 w.heap.size 30 x0) := Lib.hid (Blok.below HXx8.out hb (Blok.lt HXx8.out))
            have HB9 := Lib.hid (HB8.out.trans (hb.mono HB8.out.size))
            clear hb HT08 HT18 HT28 HXx8 kx0 kx1 kx2 kx3 kx4 HB8
            have kx0 : w9.cell? ⟨w.heap.size, 0, none⟩ = some (.int .i64 x0.s) := Blok.cell HXx9.out 0
            have kx1 : w9.cell? ⟨w.heap.size, 1, none⟩ = some (.int .i64 x0.a) := Blok.cell HXx9.out 1
            have kx2 : w9.cell? ⟨w.heap.size, 2, none⟩ = some (.int .i64 x0.b) := Blok.cell HXx9.out 2
            have kx3 : w9.cell? ⟨w.heap.size, 3, none⟩ = some (.int .i64 x0.f) := Blok.cell HXx9.out 3
            have kx4 : w9.cell? ⟨w.heap.size, 4, none⟩ = some (.int .i64 x0.t) := Blok.cell HXx9.out 4
            go_wp2
            go_ret
            exact ⟨rfl, HB9.out⟩
          · have e1 : (r == -1) = false := by simpa using hr1
            go_wp2_with fail
            refine (find_any a0 n0 c0 l0 x0.a x0.b r HR.out w8 HT08.out (by omega)).mono ?_
            rintro e w9 ⟨rfl, hb⟩
            have HT09 := Lib.hid (HT08.out.below hb)
            have HT19 := Lib.hid (HT18.out.below hb)
            have HT29 := Lib.hid (HT28.out.below hb)
            have HXx9 : Hid (L.Bx w9 w.heap.size 30 x0) := Lib.hid (Blok.below HXx8.out hb (Blok.lt HXx8.out))
            have HB9 := Lib.hid (HB8.out.trans (hb.mono HB8.out.size))
            clear hb HT08 HT18 HT28 HXx8 kx0 kx1 kx2 kx3 kx4 HB8
            have kx0 : w9.cell? ⟨w.heap.size, 0, none⟩ = some (.int .i64 x0.s) := Blok.cell HXx9.out 0
            have kx1 : w9.cell? ⟨w.heap.size, 1, none⟩ = some (.int .i64 x0.a) := Blok.cell HXx9.out 1
            have kx2 : w9.cell? ⟨w.heap.size, 2, none⟩ = some (.int .i64 x0.b) := Blok.cell HXx9.out 2
            have kx3 : w9.cell? ⟨w.heap.size, 3, none⟩ = some (.int .i64 x0.f) := Blok.cell HXx9.out 3
            have kx4 : w9.cell? ⟨w.heap.size, 4, none⟩ = some (.int .i64 x0.t) := Blok.cell HXx9.out 4
            go_wp2
            go_ret
            exact ⟨rfl, HB9.out⟩
        | true =>
          go_wp2_with fail
          refine (same_any a1 a0 m1 n0 c1 c0 k1 l0 w6 HT16.out HT06.out (by omega) true (decide_eq_true (HN1.out (by simp)))).mono ?_
          rintro e w7 ⟨rfl, hb⟩
          have HT07 := Lib.hid (HT06.out.below hb)
          have HT17 := Lib.hid (HT16.out.below hb)
          have HT27 := Lib.hid (HT26.out.below hb)
          have HXx7 : Hid (L.Bx w7 w.heap.size 30 x0) := Lib.hid (Blok.below HXx6.out hb (Blok.lt HXx6.out))
          have HB7 := Lib.hid (HB6.out.trans (hb.mono HB6.out.size))
          clear hb HT06 HT16 HT26 HXx6 kx0 kx1 kx2 kx3 kx4 HB6
          have kx0 : w7.cell? ⟨w.heap.size, 0, none⟩ = some (.int .i64 x0.s) := Blok.cell HXx7.out 0
          have kx1 : w7.cell? ⟨w.heap.size, 1, none⟩ = some (.int .i64 x0.a) := Blok.cell HXx7.out 1
          have kx2 : w7.cell? ⟨w.heap.size, 2, none⟩ = some (.int .i64 x0.b) := Blok.cell HXx7.out 2
          have kx3 : w7.cell? ⟨w.heap.size, 3, none⟩ = some (.int .i64 x0.f) := Blok.cell HXx7.out 3
          have kx4 : w7.cell? ⟨w.heap.size, 4, none⟩ = some (.int .i64 x0.t) := Blok.cell HXx7.out 4
          by_cases hr1 : r = -1
          · have h32 : ¬ (n0 < 32) := fun e => by have h9 := HB1'.out; rw [decide_eq_true ⟨hr1, by omega⟩] at h9; cases h9
            subst hr1
            have d1 : decide ((n0 : Int) < 32) = false := by simp; omega
            have d2 : decide (n0 < 32) = false := by simpa using h32
            have e1 : ((-1 : Int) == -1) = true := rfl
            go_wp2_with fail
            refine (find_any a0 n0 c0 l0 x0.a x0.b (-1) HR.out w7 HT07.out (by omega)).mono ?_
            rintro e w8 ⟨rfl, hb⟩
            have HT08 := Lib.hid (HT07.out.below hb)
            have HT18 := Lib.hid (HT17.out.below hb)
            have HT28 := Lib.hid (HT27.out.below hb)
            have HXx8 : Hid (L.Bx w8 w.heap.size 30 x0) := Lib.hid (Blok.below HXx7.out hb (Blok.lt HXx7.out))
            have HB8 := Lib.hid (HB7.out.trans (hb.mono HB7.out.size))
            clear hb HT07 HT17 HT27 HXx7 kx0 kx1 kx2 kx3 kx4 HB7
            have kx0 : w8.cell? ⟨w.heap.size, 0, none⟩ = some (.int .i64 x0.s) := Blok.cell HXx8.out 0
            have kx1 : w8.cell? ⟨w.heap.size, 1, none⟩ = some (.int .i64 x0.a) := Blok.cell HXx8.out 1
            have kx2 : w8.cell? ⟨w.heap.size, 2, none⟩ = some (.int .i64 x0.b) := Blok.cell HXx8.out 2
            have kx3 : w8.cell? ⟨w.heap.size, 3, none⟩ = some (.int .i64 x0.f) := Blok.cell HXx8.out 3
            have kx4 : w8.cell? ⟨w.heap.size, 4, none⟩ = some (.int .i64 x0.t) := Blok.cell HXx8.out 4
            go_wp2
            go_ret
            exact ⟨rfl, HB8.out⟩
          · have e1 : (r == -1) = false := by simpa using hr1
            go_wp2_with fail
            refine (find_any a0 n0 c0 l0 x0.a x0.b r HR.out w7 HT07.out (by omega)).mono ?_
            rintro e w8 ⟨rfl, hb⟩
            have HT08 := Lib.hid (HT07.out.below hb)
            have HT18 := Lib.hid (HT17.out.below hb)
            have HT28 := Lib.hid (HT27.out.below hb)
            have HXx8 : Hid (L.Bx w8 w.heap.size 30 x0) := Lib.hid (Blok.below HXx7.out hb (Blok.lt HXx7.out))
            have HB8 := Lib.hid (HB7.out.trans (hb.mono HB7.out.size))
            clear hb HT07 HT17 HT27 HXx7 kx0 kx1 kx2 kx3 kx4 HB7
            have kx0 : w8.cell? ⟨w.heap.size, 0, none⟩ = some (.int .i64 x0.s) := Blok.cell HXx8.out 0
            have kx1 : w8.cell? ⟨w.heap.size, 1, none⟩ = some (.int .i64 x0.a) := Blok.cell HXx8.out 1
            have kx2 : w8.cell? ⟨w.heap.size, 2, none⟩ = some (.int .i64 x0.b) := Blok.cell HXx8.out 2
            have kx3 : w8.cell? ⟨w.heap.size, 3, none⟩ = some (.int .i64 x0.f) := Blok.cell HXx8.out 3
            have kx4 : w8.cell? ⟨w.heap.size, 4, none⟩ = some (.int .i64 x0.t) := Blok.cell HXx8.out 4
            go_wp2
            go_ret
            exact ⟨rfl, HB8.out⟩
      | true =>
        cases b2 with
        | false =>
          go_wp2_with fail
          refine (same_any a2 a0 m2 n0 c2 c0 k2 l0 w6 HT26.out HT06.out (by omega) true (decide_eq_true (HN2.out (by simp)))).mono ?_
          rintro e w7 ⟨rfl, hb⟩
          have HT07 := Lib.hid (HT06.out.below hb)
          have HT17 := Lib.hid (HT16.out.below hb)
          have HT27 := Lib.hid (HT26.out.below hb)
          have HXx7 : Hid (L.Bx w7 w.heap.size 30 x0) := Lib.hid (Blok.below HXx6.out hb (Blok.lt HXx6.out))
          have HB7 := Lib.hid (HB6.out.trans (hb.mono HB6.out.size))
          clear hb HT06 HT16 HT26 HXx6 kx0 kx1 kx2 kx3 kx4 HB6
          have kx0 : w7.cell? ⟨w.heap.size, 0, none⟩ = some (.int .i64 x0.s) := Blok.cell HXx7.out 0
          have kx1 : w7.cell? ⟨w.heap.size, 1, none⟩ = some (.int .i64 x0.a) := Blok.cell HXx7.out 1
          have kx2 : w7.cell? ⟨w.heap.size, 2, none⟩ = some (.int .i64 x0.b) := Blok.cell HXx7.out 2
          have kx3 : w7.cell? ⟨w.heap.size, 3, none⟩ = some (.int .i64 x0.f) := Blok.cell HXx7.out 3
          have kx4 : w7.cell? ⟨w.heap.size, 4, none⟩ = some (.int .i64 x0.t) := Blok.cell HXx7.out 4
          have h9 := HB1'.out
          have h9 : r = -1 ∧ l0.length < 32 := by simpa using h9.symm
          obtain ⟨rfl, h32⟩ := h9
          have d1 : decide ((n0 : Int) < 32) = true := by simp; omega
          have d2 : decide (n0 < 32) = true := by simp; omega
          have e1 : ((-1 : Int) == -1) = true := rfl
          have hy : (L.put l0 x0).2 = true := by rw [HK1.out]
          have hf1 := L.put_find hy
          have hat := L.put_at hy
          have hdl := L.put_del hy
          rw [HK1.out] at hf1 hat hdl
          obtain ⟨sp, hsp⟩ : ∃ q, L.spot l0 x0.a x0.b = q := ⟨_, rfl⟩
          rw [hsp] at hf1 hat
          have hspm : sp < m1 := by rw [← HM1.out]; exact (List.getElem?_eq_some_iff.1 hat).1
          have HF1 := Lib.hid hf1
          have HAT := Lib.hid hat
          have HDL := Lib.hid hdl
          clear hy hf1 hat hdl hsp h9
          go_wp2_with fail
          refine (find_any a0 n0 c0 l0 x0.a x0.b (-1) HR.out w7 HT07.out (by omega)).mono ?_
          rintro e w8 ⟨rfl, hb⟩
          have HT08 := Lib.hid (HT07.out.below hb)
          have HT18 := Lib.hid (HT17.out.below hb)
          have HT28 := Lib.hid (HT27.out.below hb)
          have HXx8 : Hid (L.Bx w8 w.heap.size 30 x0) := Lib.hid (Blok.below HXx7.out hb (Blok.lt HXx7.out))
          have HB8 := Lib.hid (HB7.out.trans (hb.mono HB7.out.size))
          clear hb HT07 HT17 HT27 HXx7 kx0 kx1 kx2 kx3 kx4 HB7
          have kx0 : w8.cell? ⟨w.heap.size, 0, none⟩ = some (.int .i64 x0.s) := Blok.cell HXx8.out 0
          have kx1 : w8.cell? ⟨w.heap.size, 1, none⟩ = some (.int .i64 x0.a) := Blok.cell HXx8.out 1
          have kx2 : w8.cell? ⟨w.heap.size, 2, none⟩ = some (.int .i64 x0.b) := Blok.cell HXx8.out 2
          have kx3 : w8.cell? ⟨w.heap.size, 3, none⟩ = some (.int .i64 x0.f) := Blok.cell HXx8.out 3
          have kx4 : w8.cell? ⟨w.heap.size, 4, none⟩ = some (.int .i64 x0.t) := Blok.cell HXx8.out 4
          go_wp2_with fail
          refine (find_any a1 m1 c1 k1 x0.a x0.b (sp : Int) HF1.out w8 HT18.out (by omega)).mono ?_
          rintro e w9 ⟨rfl, hb⟩
          have HT09 := Lib.hid (HT08.out.below hb)
          have HT19 := Lib.hid (HT18.out.below hb)
          have HT29 := Lib.hid (HT28.out.below hb)
          have HXx9 : Hid (L.Bx w9 w.heap.size 30 x0) := Lib.hid (Blok.below HXx8.out hb (Blok.lt HXx8.out))
          have HB9 := Lib.hid (HB8.out.trans (hb.mono HB8.out.size))
          clear hb HT08 HT18 HT28 HXx8 kx0 kx1 kx2 kx3 kx4 HB8
          have kx0 : w9.cell? ⟨w.heap.size, 0, none⟩ = some (.int .i64 x0.s) := Blok.cell HXx9.out 0
          have kx1 : w9.cell? ⟨w.heap.size, 1, none⟩ = some (.int .i64 x0.a) := Blok.cell HXx9.out 1
          have kx2 : w9.cell? ⟨w.heap.size, 2, none⟩ = some (.int .i64 x0.b) := Blok.cell HXx9.out 2
          have kx3 : w9.cell? ⟨w.heap.size, 3, none⟩ = some (.int .i64 x0.f) := Blok.cell HXx9.out 3
          have kx4 : w9.cell? ⟨w.heap.size, 4, none⟩ = some (.int .i64 x0.t) := Blok.cell HXx9.out 4
          go_wp2_with fail
          refine (del_any a1 m1 c1 k1 l0 x0.a x0.b true n0 HDL.out hl w9 HT19.out (by omega)).mono ?_
          rintro e w10 ⟨a3, c3, rfl, ht3, hb⟩
          have HT010 := Lib.hid (HT09.out.below hb)
          have HT110 := Lib.hid (HT19.out.below hb)
          have HT210 := Lib.hid (HT29.out.below hb)
          have HXx10 : Hid (L.Bx w10 w.heap.size 30 x0) := Lib.hid (Blok.below HXx9.out hb (Blok.lt HXx9.out))
          have HB10 := Lib.hid (HB9.out.trans (hb.mono HB9.out.size))
          clear hb HT09 HT19 HT29 HXx9 kx0 kx1 kx2 kx3 kx4 HB9
          have HT310 := ht3
          clear ht3
          have kx0 : w10.cell? ⟨w.heap.size, 0, none⟩ = some (.int .i64 x0.s) := Blok.cell HXx10.out 0
          have kx1 : w10.cell? ⟨w.heap.size, 1, none⟩ = some (.int .i64 x0.a) := Blok.cell HXx10.out 1
          have kx2 : w10.cell? ⟨w.heap.size, 2, none⟩ = some (.int .i64 x0.b) := Blok.cell HXx10.out 2
          have kx3 : w10.cell? ⟨w.heap.size, 3, none⟩ = some (.int .i64 x0.f) := Blok.cell HXx10.out 3
          have kx4 : w10.cell? ⟨w.heap.size, 4, none⟩ = some (.int .i64 x0.t) := Blok.cell HXx10.out 4
          obtain ⟨by1, oy, y, hay, hbl, hyy, p0, p1, p2, p3, p4⟩ := HT110.out.at5 (i := sp) hspm
          obtain rfl : y = x0 := Option.some.inj (hyy.symm.trans HAT.out)
          have q0 : (0 : Int) ≤ sp := by omega
          have q1 : (sp : Int) < m1 := by omega
          have q2 : decide ((sp : Int) < m1) = true := by simp; omega
          have q3 : decide (sp < m1) = true := by simp; omega
          have q4 : decide ((0 : Int) ≤ sp) = true := by simp
          subst hay
          clear hyy hbl
          have cp0 := fun d os => cell_regrown p0 d os
          have cx0 := fun d os => cell_regrown kx0 d os
          have cp1 := fun d os => cell_regrown p1 d os
          have cx1 := fun d os => cell_regrown kx1 d os
          have cp2 := fun d os => cell_regrown p2 d os
          have cx2 := fun d os => cell_regrown kx2 d os
          have cp3 := fun d os => cell_regrown p3 d os
          have cx3 := fun d os => cell_regrown kx3 d os
          have cp4 := fun d os => cell_regrown p4 d os
          have cx4 := fun d os => cell_regrown kx4 d os
          have cs := fun d os => same_any a3 a0 n0 n0 c3 c0 l0 l0 (Go.Sort.grow (redrawn w10 d) os) (HT310.out.below (below_regrown w10 d os)) (HT010.out.below (below_regrown w10 d os)) (by omega) true (decide_eq_true rfl)
          go_wp2_with fail
          refine wp_region_quiet_below (by kernel_rfl) (by kernel_rfl) ?_
          repeat (go_big_quiet_step (exact Calls.regrown_of (cs _ _)))
          refine wpQuiet_nil ?_
          intro _ hw'
          obtain ⟨⟨dq, osq⟩, hw''⟩ := hw'
          subst hw''
          have hb4 : Below w10.heap.size w10 (Go.Sort.grow (redrawn w10 dq) osq) := below_regrown _ _ _
          have HB99 := Lib.hid (HB10.out.trans (hb4.mono HB10.out.size))
          clear hb4 cp0 cx0 p0 cp1 cx1 p1 cp2 cx2 p2 cp3 cx3 p3 cp4 cx4 p4 cs
          go_wp2
          go_ret
          exact ⟨rfl, HB99.out⟩
        | true =>
          have h9 := HB1'.out
          have h9 : r = -1 ∧ l0.length < 32 := by simpa using h9.symm
          obtain ⟨rfl, h32⟩ := h9
          have d1 : decide ((n0 : Int) < 32) = true := by simp; omega
          have d2 : decide (n0 < 32) = true := by simp; omega
          have e1 : ((-1 : Int) == -1) = true := rfl
          have hy : (L.put l0 x0).2 = true := by rw [HK1.out]
          have hf1 := L.put_find hy
          have hat := L.put_at hy
          have hdl := L.put_del hy
          rw [HK1.out] at hf1 hat hdl
          obtain ⟨sp, hsp⟩ : ∃ q, L.spot l0 x0.a x0.b = q := ⟨_, rfl⟩
          rw [hsp] at hf1 hat
          have hspm : sp < m1 := by rw [← HM1.out]; exact (List.getElem?_eq_some_iff.1 hat).1
          have HF1 := Lib.hid hf1
          have HAT := Lib.hid hat
          have HDL := Lib.hid hdl
          clear hy hf1 hat hdl hsp h9
          go_wp2_with fail
          refine (find_any a0 n0 c0 l0 x0.a x0.b (-1) HR.out w6 HT06.out (by omega)).mono ?_
          rintro e w7 ⟨rfl, hb⟩
          have HT07 := Lib.hid (HT06.out.below hb)
          have HT17 := Lib.hid (HT16.out.below hb)
          have HT27 := Lib.hid (HT26.out.below hb)
          have HXx7 : Hid (L.Bx w7 w.heap.size 30 x0) := Lib.hid (Blok.below HXx6.out hb (Blok.lt HXx6.out))
          have HB7 := Lib.hid (HB6.out.trans (hb.mono HB6.out.size))
          clear hb HT06 HT16 HT26 HXx6 kx0 kx1 kx2 kx3 kx4 HB6
          have kx0 : w7.cell? ⟨w.heap.size, 0, none⟩ = some (.int .i64 x0.s) := Blok.cell HXx7.out 0
          have kx1 : w7.cell? ⟨w.heap.size, 1, none⟩ = some (.int .i64 x0.a) := Blok.cell HXx7.out 1
          have kx2 : w7.cell? ⟨w.heap.size, 2, none⟩ = some (.int .i64 x0.b) := Blok.cell HXx7.out 2
          have kx3 : w7.cell? ⟨w.heap.size, 3, none⟩ = some (.int .i64 x0.f) := Blok.cell HXx7.out 3
          have kx4 : w7.cell? ⟨w.heap.size, 4, none⟩ = some (.int .i64 x0.t) := Blok.cell HXx7.out 4
          go_wp2_with fail
          refine (find_any a1 m1 c1 k1 x0.a x0.b (sp : Int) HF1.out w7 HT17.out (by omega)).mono ?_
          rintro e w8 ⟨rfl, hb⟩
          have HT08 := Lib.hid (HT07.out.below hb)
          have HT18 := Lib.hid (HT17.out.below hb)
          have HT28 := Lib.hid (HT27.out.below hb)
          have HXx8 : Hid (L.Bx w8 w.heap.size 30 x0) := Lib.hid (Blok.below HXx7.out hb (Blok.lt HXx7.out))
          have HB8 := Lib.hid (HB7.out.trans (hb.mono HB7.out.size))
          clear hb HT07 HT17 HT27 HXx7 kx0 kx1 kx2 kx3 kx4 HB7
          have kx0 : w8.cell? ⟨w.heap.size, 0, none⟩ = some (.int .i64 x0.s) := Blok.cell HXx8.out 0
          have kx1 : w8.cell? ⟨w.heap.size, 1, none⟩ = some (.int .i64 x0.a) := Blok.cell HXx8.out 1
          have kx2 : w8.cell? ⟨w.heap.size, 2, none⟩ = some (.int .i64 x0.b) := Blok.cell HXx8.out 2
          have kx3 : w8.cell? ⟨w.heap.size, 3, none⟩ = some (.int .i64 x0.f) := Blok.cell HXx8.out 3
          have kx4 : w8.cell? ⟨w.heap.size, 4, none⟩ = some (.int .i64 x0.t) := Blok.cell HXx8.out 4
          go_wp2_with fail
          refine (del_any a1 m1 c1 k1 l0 x0.a x0.b true n0 HDL.out hl w8 HT18.out (by omega)).mono ?_
          rintro e w9 ⟨a3, c3, rfl, ht3, hb⟩
          have HT09 := Lib.hid (HT08.out.below hb)
          have HT19 := Lib.hid (HT18.out.below hb)
          have HT29 := Lib.hid (HT28.out.below hb)
          have HXx9 : Hid (L.Bx w9 w.heap.size 30 x0) := Lib.hid (Blok.below HXx8.out hb (Blok.lt HXx8.out))
          have HB9 := Lib.hid (HB8.out.trans (hb.mono HB8.out.size))
          clear hb HT08 HT18 HT28 HXx8 kx0 kx1 kx2 kx3 kx4 HB8
          have HT39 := ht3
          clear ht3
          have kx0 : w9.cell? ⟨w.heap.size, 0, none⟩ = some (.int .i64 x0.s) := Blok.cell HXx9.out 0
          have kx1 : w9.cell? ⟨w.heap.size, 1, none⟩ = some (.int .i64 x0.a) := Blok.cell HXx9.out 1
          have kx2 : w9.cell? ⟨w.heap.size, 2, none⟩ = some (.int .i64 x0.b) := Blok.cell HXx9.out 2
          have kx3 : w9.cell? ⟨w.heap.size, 3, none⟩ = some (.int .i64 x0.f) := Blok.cell HXx9.out 3
          have kx4 : w9.cell? ⟨w.heap.size, 4, none⟩ = some (.int .i64 x0.t) := Blok.cell HXx9.out 4
          obtain ⟨by1, oy, y, hay, hbl, hyy, p0, p1, p2, p3, p4⟩ := HT19.out.at5 (i := sp) hspm
          obtain rfl : y = x0 := Option.some.inj (hyy.symm.trans HAT.out)
          have q0 : (0 : Int) ≤ sp := by omega
          have q1 : (sp : Int) < m1 := by omega
          have q2 : decide ((sp : Int) < m1) = true := by simp; omega
          have q3 : decide (sp < m1) = true := by simp; omega
          have q4 : decide ((0 : Int) ≤ sp) = true := by simp
          subst hay
          clear hyy hbl
          have cp0 := fun d os => cell_regrown p0 d os
          have cx0 := fun d os => cell_regrown kx0 d os
          have cp1 := fun d os => cell_regrown p1 d os
          have cx1 := fun d os => cell_regrown kx1 d os
          have cp2 := fun d os => cell_regrown p2 d os
          have cx2 := fun d os => cell_regrown kx2 d os
          have cp3 := fun d os => cell_regrown p3 d os
          have cx3 := fun d os => cell_regrown kx3 d os
          have cp4 := fun d os => cell_regrown p4 d os
          have cx4 := fun d os => cell_regrown kx4 d os
          have cs := fun d os => same_any a3 a0 n0 n0 c3 c0 l0 l0 (Go.Sort.grow (redrawn w9 d) os) (HT39.out.below (below_regrown w9 d os)) (HT09.out.below (below_regrown w9 d os)) (by omega) true (decide_eq_true rfl)
          go_wp2_with fail
          refine wp_region_quiet_below (by kernel_rfl) (by kernel_rfl) ?_
          repeat (go_big_quiet_step (exact Calls.regrown_of (cs _ _)))
          refine wpQuiet_nil ?_
          intro _ hw'
          obtain ⟨⟨dq, osq⟩, hw''⟩ := hw'
          subst hw''
          have hb4 : Below w9.heap.size w9 (Go.Sort.grow (redrawn w9 dq) osq) := below_regrown _ _ _
          have HB99 := Lib.hid (HB9.out.trans (hb4.mono HB9.out.size))
          clear hb4 cp0 cx0 p0 cp1 cx1 p1 cp2 cx2 p2 cp3 cx3 p3 cp4 cx4 p4 cs
          go_wp2
          go_ret
          exact ⟨rfl, HB99.out⟩
  · have d40 : decide ((40 : Int) < (n0 : Int)) = true := by simp; omega
    have d40' : decide (40 < n0) = true := by simp; omega
    cases s <;> (
      go_wp2
      go_ret
      exact ⟨rfl, HB2.out⟩)
end Go.Proofs.Ytbnhaoimdponkaa
