/-
  LeaseOrder.
-/
import Derived.Test.YtbnhaoimdponkaaLSrt
import Derived.Test.YtbnhaoimdponkaaVInts
namespace Go.Proofs.Ytbnhaoimdponkaa
open Go.RowKit

set_option maxRecDepth 100000 in
set_option maxHeartbeats 2000000 in
theorem LeaseOrder_in (a0 : Option Addr) (n0 c0 : Nat) (l0 : List L.Ls) (x0 y0 : L.Ls) (w : World) (h0 : RIn w a0 n0 c0 l0) :
    Calls Try.prog 7 #[.slice a0 n0 c0, L.val x0, L.val y0] w fun e w' => e = .returned (.bool true) ∧ Below w.heap.size w w' := by
  obtain ⟨Zx, hZx⟩ : ∃ W, w.alloc (.cells #[.int .i64 x0.s, .int .i64 x0.a, .int .i64 x0.b, .int .i64 x0.f, .int .i64 x0.t] 30) = W := ⟨_, rfl⟩
  have Bx : Below w.heap.size w Zx := by rw [← hZx]; exact (Below.refl _ w).alloc (Nat.le_refl _) _
  have Kx : L.Bx Zx w.heap.size 30 x0 := by rw [← hZx]; exact Blok.new w _ _
  have sx : Zx.heap.size = w.heap.size + 1 := by rw [← hZx]; simp
  obtain ⟨Zy, hZy⟩ : ∃ W, Zx.alloc (.cells #[.int .i64 y0.s, .int .i64 y0.a, .int .i64 y0.b, .int .i64 y0.f, .int .i64 y0.t] 30) = W := ⟨_, rfl⟩
  have By : Below Zx.heap.size Zx Zy := by rw [← hZy]; exact (Below.refl _ Zx).alloc (Nat.le_refl _) _
  have Ky : L.Bx Zy Zx.heap.size 30 y0 := by rw [← hZy]; exact Blok.new Zx _ _
  have sy : Zy.heap.size = Zx.heap.size + 1 := by rw [← hZy]; simp
  have HXx0 : Hid (L.Bx Zy w.heap.size 30 x0) := Lib.hid (Blok.below Kx By (Blok.lt Kx))
  have HXy0 : Hid (L.Bx Zy (w.heap.size + 1) 30 y0) := Lib.hid (by rw [← sx]; exact Ky)
  have HB0 := Lib.hid (Bx.trans (By.mono Bx.size))
  clear Bx Kx By Ky sy
  have HT00 := Lib.hid (h0.below HB0.out)
  clear h0
  have kx0 : Zy.cell? ⟨w.heap.size, 0, none⟩ = some (.int .i64 x0.s) := Blok.cell HXx0.out 0
  have kx1 : Zy.cell? ⟨w.heap.size, 1, none⟩ = some (.int .i64 x0.a) := Blok.cell HXx0.out 1
  have kx2 : Zy.cell? ⟨w.heap.size, 2, none⟩ = some (.int .i64 x0.b) := Blok.cell HXx0.out 2
  have kx3 : Zy.cell? ⟨w.heap.size, 3, none⟩ = some (.int .i64 x0.f) := Blok.cell HXx0.out 3
  have kx4 : Zy.cell? ⟨w.heap.size, 4, none⟩ = some (.int .i64 x0.t) := Blok.cell HXx0.out 4
  have ky0 : Zy.cell? ⟨w.heap.size + 1, 0, none⟩ = some (.int .i64 y0.s) := Blok.cell HXy0.out 0
  have ky1 : Zy.cell? ⟨w.heap.size + 1, 1, none⟩ = some (.int .i64 y0.a) := Blok.cell HXy0.out 1
  have ky2 : Zy.cell? ⟨w.heap.size + 1, 2, none⟩ = some (.int .i64 y0.b) := Blok.cell HXy0.out 2
  have ky3 : Zy.cell? ⟨w.heap.size + 1, 3, none⟩ = some (.int .i64 y0.f) := Blok.cell HXy0.out 3
  have ky4 : Zy.cell? ⟨w.heap.size + 1, 4, none⟩ = some (.int .i64 y0.t) := Blok.cell HXy0.out 4
  have hl := HT00.out.1
  obtain ⟨s, hs⟩ : ∃ b, decide (L.Srt l0) = b := ⟨_, rfl⟩
  have HS := Lib.hid hs
  clear hs
  obtain ⟨u, hu⟩ : ∃ u, (x0.a == y0.a) = u := ⟨_, rfl⟩
  obtain ⟨v, hv⟩ : ∃ v, (x0.b == y0.b) = v := ⟨_, rfl⟩
  have HUV : Hid ((u && v) = true ↔ (x0.a = y0.a ∧ x0.b = y0.b)) := Lib.hid (by rw [← hu, ← hv]; simp)
  unfold L.val
  go_enter Try.func7, Try.ntmps7
  go_wp2_with fail
  refine (lawake_any Zy).mono ?_
  rintro e w1 ⟨rfl, hb⟩
  have HT01 := Lib.hid (HT00.out.below hb)
  have HXx1 : Hid (L.Bx w1 w.heap.size 30 x0) := Lib.hid (Blok.below HXx0.out hb (Blok.lt HXx0.out))
  have HXy1 : Hid (L.Bx w1 (w.heap.size + 1) 30 y0) := Lib.hid (Blok.below HXy0.out hb (Blok.lt HXy0.out))
  have HB1 := Lib.hid (HB0.out.trans (hb.mono HB0.out.size))
  clear hb HT00 HXx0 HXy0 kx0 kx1 kx2 kx3 kx4 ky0 ky1 ky2 ky3 ky4 HB0
  have kx0 : w1.cell? ⟨w.heap.size, 0, none⟩ = some (.int .i64 x0.s) := Blok.cell HXx1.out 0
  have kx1 : w1.cell? ⟨w.heap.size, 1, none⟩ = some (.int .i64 x0.a) := Blok.cell HXx1.out 1
  have kx2 : w1.cell? ⟨w.heap.size, 2, none⟩ = some (.int .i64 x0.b) := Blok.cell HXx1.out 2
  have kx3 : w1.cell? ⟨w.heap.size, 3, none⟩ = some (.int .i64 x0.f) := Blok.cell HXx1.out 3
  have kx4 : w1.cell? ⟨w.heap.size, 4, none⟩ = some (.int .i64 x0.t) := Blok.cell HXx1.out 4
  have ky0 : w1.cell? ⟨w.heap.size + 1, 0, none⟩ = some (.int .i64 y0.s) := Blok.cell HXy1.out 0
  have ky1 : w1.cell? ⟨w.heap.size + 1, 1, none⟩ = some (.int .i64 y0.a) := Blok.cell HXy1.out 1
  have ky2 : w1.cell? ⟨w.heap.size + 1, 2, none⟩ = some (.int .i64 y0.b) := Blok.cell HXy1.out 2
  have ky3 : w1.cell? ⟨w.heap.size + 1, 3, none⟩ = some (.int .i64 y0.f) := Blok.cell HXy1.out 3
  have ky4 : w1.cell? ⟨w.heap.size + 1, 4, none⟩ = some (.int .i64 y0.t) := Blok.cell HXy1.out 4
  go_wp2_with fail
  refine (srt_any a0 n0 c0 l0 s HS.out w1 HT01.out).mono ?_
  rintro e w2 ⟨rfl, hb⟩
  have HT02 := Lib.hid (HT01.out.below hb)
  have HXx2 : Hid (L.Bx w2 w.heap.size 30 x0) := Lib.hid (Blok.below HXx1.out hb (Blok.lt HXx1.out))
  have HXy2 : Hid (L.Bx w2 (w.heap.size + 1) 30 y0) := Lib.hid (Blok.below HXy1.out hb (Blok.lt HXy1.out))
  have HB2 := Lib.hid (HB1.out.trans (hb.mono HB1.out.size))
  clear hb HT01 HXx1 HXy1 kx0 kx1 kx2 kx3 kx4 ky0 ky1 ky2 ky3 ky4 HB1
  have kx0 : w2.cell? ⟨w.heap.size, 0, none⟩ = some (.int .i64 x0.s) := Blok.cell HXx2.out 0
  have kx1 : w2.cell? ⟨w.heap.size, 1, none⟩ = some (.int .i64 x0.a) := Blok.cell HXx2.out 1
  have kx2 : w2.cell? ⟨w.heap.size, 2, none⟩ = some (.int .i64 x0.b) := Blok.cell HXx2.out 2
  have kx3 : w2.cell? ⟨w.heap.size, 3, none⟩ = some (.int .i64 x0.f) := Blok.cell HXx2.out 3
  have kx4 : w2.cell? ⟨w.heap.size, 4, none⟩ = some (.int .i64 x0.t) := Blok.cell HXx2.out 4
  have ky0 : w2.cell? ⟨w.heap.size + 1, 0, none⟩ = some (.int .i64 y0.s) := Blok.cell HXy2.out 0
  have ky1 : w2.cell? ⟨w.heap.size + 1, 1, none⟩ = some (.int .i64 y0.a) := Blok.cell HXy2.out 1
  have ky2 : w2.cell? ⟨w.heap.size + 1, 2, none⟩ = some (.int .i64 y0.b) := Blok.cell HXy2.out 2
  have ky3 : w2.cell? ⟨w.heap.size + 1, 3, none⟩ = some (.int .i64 y0.f) := Blok.cell HXy2.out 3
  have ky4 : w2.cell? ⟨w.heap.size + 1, 4, none⟩ = some (.int .i64 y0.t) := Blok.cell HXy2.out 4
  by_cases h30 : n0 ≤ 30
  · have d30 : decide ((30 : Int) < (n0 : Int)) = false := by simp; omega
    have d30' : decide (30 < n0) = false := by simp; omega
    cases s with
    | false =>
      go_wp2
      go_ret
      exact ⟨rfl, HB2.out⟩
    | true =>
      have hsrt : L.Srt l0 := by have := HS.out; simpa using this
      by_cases huv : (u && v) = true
      · cases u <;> cases v <;> first | exact absurd huv (by decide) | (
          go_wp2
          go_ret
          exact ⟨rfl, HB2.out⟩)
      · have hne : ¬ (x0.a = y0.a ∧ x0.b = y0.b) := fun e => huv (HUV.out.2 e)
        obtain ⟨⟨k1, b1⟩, hk1⟩ : ∃ p, L.put l0 x0 = p := ⟨_, rfl⟩
        obtain ⟨⟨k2, b2⟩, hk2⟩ : ∃ p, L.put k1 y0 = p := ⟨_, rfl⟩
        obtain ⟨⟨k3, b3⟩, hk3⟩ : ∃ p, L.put l0 y0 = p := ⟨_, rfl⟩
        obtain ⟨⟨k4, b4⟩, hk4⟩ : ∃ p, L.put k3 x0 = p := ⟨_, rfl⟩
        have hf1 : b2 = b3 := by have h9 := L.put_flag (l := l0) (x := x0) (y := y0) (by omega) hne; rw [hk1, hk3] at h9; dsimp only at h9; rw [hk2] at h9; exact h9
        have hf2 : b4 = b1 := by have h9 := L.put_flag (l := l0) (x := y0) (y := x0) (by omega) (fun e => hne ⟨e.1.symm, e.2.symm⟩); rw [hk1, hk3] at h9; dsimp only at h9; rw [hk4] at h9; exact h9
        have hf3 : k2 = k4 := by have h9 := L.put_order (x := x0) (y := y0) hsrt (by omega) hne; rw [hk1, hk3] at h9; dsimp only at h9; rw [hk2, hk4] at h9; exact h9
        subst hf1 hf2 hf3
        obtain ⟨m1, hm1⟩ : ∃ m, k1.length = m := ⟨_, rfl⟩
        obtain ⟨m2, hm2⟩ : ∃ m, k2.length = m := ⟨_, rfl⟩
        obtain ⟨m3, hm3⟩ : ∃ m, k3.length = m := ⟨_, rfl⟩
        have hm1' : m1 ≤ 31 := by have h9 := L.put_len l0 x0; rw [hk1, hm1] at h9; split at h9 <;> omega
        have hm2' : m2 ≤ 32 := by have h9 := L.put_len k1 y0; rw [hk2, hm2, hm1] at h9; split at h9 <;> omega
        have hm3' : m3 ≤ 31 := by have h9 := L.put_len l0 y0; rw [hk3, hm3] at h9; split at h9 <;> omega
        obtain ⟨ol, hol⟩ : ∃ q, L.of k2 x0.s = q := ⟨_, rfl⟩
        have HOL := Lib.hid hol
        have HK1 := Lib.hid hk1
        have HK2 := Lib.hid hk2
        have HK3 := Lib.hid hk3
        have HK4 := Lib.hid hk4
        have HM1 := Lib.hid hm1
        have HM2 := Lib.hid hm2
        have HM3 := Lib.hid hm3
        clear hk1 hk2 hk3 hk4 hm1 hm2 hm3 hol hsrt hne
        cases u <;> cases v <;> first | exact absurd rfl huv | (
          go_wp2_with fail
          refine (put_any a0 n0 c0 l0 k1 x0 _ m1 HK1.out HM1.out w2 HT02.out (by omega)).mono ?_
          rintro e w3 ⟨a1, c1, rfl, ht1, hb⟩
          have HT03 := Lib.hid (HT02.out.below hb)
          have HXx3 : Hid (L.Bx w3 w.heap.size 30 x0) := Lib.hid (Blok.below HXx2.out hb (Blok.lt HXx2.out))
          have HXy3 : Hid (L.Bx w3 (w.heap.size + 1) 30 y0) := Lib.hid (Blok.below HXy2.out hb (Blok.lt HXy2.out))
          have HB3 := Lib.hid (HB2.out.trans (hb.mono HB2.out.size))
          clear hb HT02 HXx2 HXy2 kx0 kx1 kx2 kx3 kx4 ky0 ky1 ky2 ky3 ky4 HB2
          have HT13 := ht1
          clear ht1
          have kx0 : w3.cell? ⟨w.heap.size, 0, none⟩ = some (.int .i64 x0.s) := Blok.cell HXx3.out 0
          have kx1 : w3.cell? ⟨w.heap.size, 1, none⟩ = some (.int .i64 x0.a) := Blok.cell HXx3.out 1
          have kx2 : w3.cell? ⟨w.heap.size, 2, none⟩ = some (.int .i64 x0.b) := Blok.cell HXx3.out 2
          have kx3 : w3.cell? ⟨w.heap.size, 3, none⟩ = some (.int .i64 x0.f) := Blok.cell HXx3.out 3
          have kx4 : w3.cell? ⟨w.heap.size, 4, none⟩ = some (.int .i64 x0.t) := Blok.cell HXx3.out 4
          have ky0 : w3.cell? ⟨w.heap.size + 1, 0, none⟩ = some (.int .i64 y0.s) := Blok.cell HXy3.out 0
          have ky1 : w3.cell? ⟨w.heap.size + 1, 1, none⟩ = some (.int .i64 y0.a) := Blok.cell HXy3.out 1
          have ky2 : w3.cell? ⟨w.heap.size + 1, 2, none⟩ = some (.int .i64 y0.b) := Blok.cell HXy3.out 2
          have ky3 : w3.cell? ⟨w.heap.size + 1, 3, none⟩ = some (.int .i64 y0.f) := Blok.cell HXy3.out 3
          have ky4 : w3.cell? ⟨w.heap.size + 1, 4, none⟩ = some (.int .i64 y0.t) := Blok.cell HXy3.out 4
          go_wp2_with fail
          refine (put_any a1 m1 c1 k1 k2 y0 _ m2 HK2.out HM2.out w3 HT13.out (by omega)).mono ?_
          rintro e w4 ⟨a2, c2, rfl, ht2, hb⟩
          have HT04 := Lib.hid (HT03.out.below hb)
          have HT14 := Lib.hid (HT13.out.below hb)
          have HXx4 : Hid (L.Bx w4 w.heap.size 30 x0) := Lib.hid (Blok.below HXx3.out hb (Blok.lt HXx3.out))
          have HXy4 : Hid (L.Bx w4 (w.heap.size + 1) 30 y0) := Lib.hid (Blok.below HXy3.out hb (Blok.lt HXy3.out))
          have HB4 := Lib.hid (HB3.out.trans (hb.mono HB3.out.size))
          clear hb HT03 HT13 HXx3 HXy3 kx0 kx1 kx2 kx3 kx4 ky0 ky1 ky2 ky3 ky4 HB3
          have HT24 := ht2
          clear ht2
          have kx0 : w4.cell? ⟨w.heap.size, 0, none⟩ = some (.int .i64 x0.s) := Blok.cell HXx4.out 0
          have kx1 : w4.cell? ⟨w.heap.size, 1, none⟩ = some (.int .i64 x0.a) := Blok.cell HXx4.out 1
          have kx2 : w4.cell? ⟨w.heap.size, 2, none⟩ = some (.int .i64 x0.b) := Blok.cell HXx4.out 2
          have kx3 : w4.cell? ⟨w.heap.size, 3, none⟩ = some (.int .i64 x0.f) := Blok.cell HXx4.out 3
          have kx4 : w4.cell? ⟨w.heap.size, 4, none⟩ = some (.int .i64 x0.t) := Blok.cell HXx4.out 4
          have ky0 : w4.cell? ⟨w.heap.size + 1, 0, none⟩ = some (.int .i64 y0.s) := Blok.cell HXy4.out 0
          have ky1 : w4.cell? ⟨w.heap.size + 1, 1, none⟩ = some (.int .i64 y0.a) := Blok.cell HXy4.out 1
          have ky2 : w4.cell? ⟨w.heap.size + 1, 2, none⟩ = some (.int .i64 y0.b) := Blok.cell HXy4.out 2
          have ky3 : w4.cell? ⟨w.heap.size + 1, 3, none⟩ = some (.int .i64 y0.f) := Blok.cell HXy4.out 3
          have ky4 : w4.cell? ⟨w.heap.size + 1, 4, none⟩ = some (.int .i64 y0.t) := Blok.cell HXy4.out 4
          go_wp2_with fail
          refine (put_any a0 n0 c0 l0 k3 y0 _ m3 HK3.out HM3.out w4 HT04.out (by omega)).mono ?_
          rintro e w5 ⟨a3, c3, rfl, ht3, hb⟩
          have HT05 := Lib.hid (HT04.out.below hb)
          have HT15 := Lib.hid (HT14.out.below hb)
          have HT25 := Lib.hid (HT24.out.below hb)
          have HXx5 : Hid (L.Bx w5 w.heap.size 30 x0) := Lib.hid (Blok.below HXx4.out hb (Blok.lt HXx4.out))
          have HXy5 : Hid (L.Bx w5 (w.heap.size + 1) 30 y0) := Lib.hid (Blok.below HXy4.out hb (Blok.lt HXy4.out))
          have HB5 := Lib.hid (HB4.out.trans (hb.mono HB4.out.size))
          clear hb HT04 HT14 HT24 HXx4 HXy4 kx0 kx1 kx2 kx3 kx4 ky0 ky1 ky2 ky3 ky4 HB4
          have HT35 := ht3
          clear ht3
          have kx0 : w5.cell? ⟨w.heap.size, 0, none⟩ = some (.int .i64 x0.s) := Blok.cell HXx5.out 0
          have kx1 : w5.cell? ⟨w.heap.size, 1, none⟩ = some (.int .i64 x0.a) := Blok.cell HXx5.out 1
          have kx2 : w5.cell? ⟨w.heap.size, 2, none⟩ = some (.int .i64 x0.b) := Blok.cell HXx5.out 2
          have kx3 : w5.cell? ⟨w.heap.size, 3, none⟩ = some (.int .i64 x0.f) := Blok.cell HXx5.out 3
          have kx4 : w5.cell? ⟨w.heap.size, 4, none⟩ = some (.int .i64 x0.t) := Blok.cell HXx5.out 4
          have ky0 : w5.cell? ⟨w.heap.size + 1, 0, none⟩ = some (.int .i64 y0.s) := Blok.cell HXy5.out 0
          have ky1 : w5.cell? ⟨w.heap.size + 1, 1, none⟩ = some (.int .i64 y0.a) := Blok.cell HXy5.out 1
          have ky2 : w5.cell? ⟨w.heap.size + 1, 2, none⟩ = some (.int .i64 y0.b) := Blok.cell HXy5.out 2
          have ky3 : w5.cell? ⟨w.heap.size + 1, 3, none⟩ = some (.int .i64 y0.f) := Blok.cell HXy5.out 3
          have ky4 : w5.cell? ⟨w.heap.size + 1, 4, none⟩ = some (.int .i64 y0.t) := Blok.cell HXy5.out 4
          go_wp2_with fail
          refine (put_any a3 m3 c3 k3 k2 x0 _ m2 HK4.out HM2.out w5 HT35.out (by omega)).mono ?_
          rintro e w6 ⟨a4, c4, rfl, ht4, hb⟩
          have HT06 := Lib.hid (HT05.out.below hb)
          have HT16 := Lib.hid (HT15.out.below hb)
          have HT26 := Lib.hid (HT25.out.below hb)
          have HT36 := Lib.hid (HT35.out.below hb)
          have HXx6 : Hid (L.Bx w6 w.heap.size 30 x0) := Lib.hid (Blok.below HXx5.out hb (Blok.lt HXx5.out))
          have HXy6 : Hid (L.Bx w6 (w.heap.size + 1) 30 y0) := Lib.hid (Blok.below HXy5.out hb (Blok.lt HXy5.out))
          have HB6 := Lib.hid (HB5.out.trans (hb.mono HB5.out.size))
          clear hb HT05 HT15 HT25 HT35 HXx5 HXy5 kx0 kx1 kx2 kx3 kx4 ky0 ky1 ky2 ky3 ky4 HB5
          have HT46 := ht4
          clear ht4
          have kx0 : w6.cell? ⟨w.heap.size, 0, none⟩ = some (.int .i64 x0.s) := Blok.cell HXx6.out 0
          have kx1 : w6.cell? ⟨w.heap.size, 1, none⟩ = some (.int .i64 x0.a) := Blok.cell HXx6.out 1
          have kx2 : w6.cell? ⟨w.heap.size, 2, none⟩ = some (.int .i64 x0.b) := Blok.cell HXx6.out 2
          have kx3 : w6.cell? ⟨w.heap.size, 3, none⟩ = some (.int .i64 x0.f) := Blok.cell HXx6.out 3
          have kx4 : w6.cell? ⟨w.heap.size, 4, none⟩ = some (.int .i64 x0.t) := Blok.cell HXx6.out 4
          have ky0 : w6.cell? ⟨w.heap.size + 1, 0, none⟩ = some (.int .i64 y0.s) := Blok.cell HXy6.out 0
          have ky1 : w6.cell? ⟨w.heap.size + 1, 1, none⟩ = some (.int .i64 y0.a) := Blok.cell HXy6.out 1
          have ky2 : w6.cell? ⟨w.heap.size + 1, 2, none⟩ = some (.int .i64 y0.b) := Blok.cell HXy6.out 2
          have ky3 : w6.cell? ⟨w.heap.size + 1, 3, none⟩ = some (.int .i64 y0.f) := Blok.cell HXy6.out 3
          have ky4 : w6.cell? ⟨w.heap.size + 1, 4, none⟩ = some (.int .i64 y0.t) := Blok.cell HXy6.out 4
          go_wp2_with fail
          have hwx : w.heap.size < w6.heap.size := Blok.lt HXx6.out
          refine wp_region_held (S := fun w' => Below w6.heap.size w6 w') (by kernel_rfl) ?_
          change wpAnyH _ _ _ _ _ _ _ _ (World.drew _)
          have HS0 : (fun w' => Below w6.heap.size w6 w') (World.drew w6) := below_drew w6
          refine wpAnyH_take (i := 0) (v := .slice a2 m2 c2) rfl (by kernel_rfl) (by kernel_rfl) (by kernel_rfl) (fun _ _ _ h => h) (.inl ⟨by kernel_rfl, fun w9 hS => by kernel_rfl⟩) HS0 ?_
          refine wpAnyH_take (i := 1) (v := .pointer (some ⟨w.heap.size, 0, none⟩)) rfl (by kernel_rfl) (by kernel_rfl) (by kernel_rfl) (fun _ _ _ h => h) (.inl ⟨by kernel_rfl, fun w9 hS => by kernel_rfl⟩) HS0 ?_
          refine wpAnyH_take (i := 2) (v := .int .i64 x0.s) rfl (by kernel_rfl) (by kernel_rfl) (by kernel_rfl) (fun _ _ _ h => h) (.inl ⟨by kernel_rfl, fun w9 hS => by
            have y9 : w9.cell? ⟨w.heap.size, 0, none⟩ = some (.int .i64 x0.s) := Blok.cell (Blok.below HXx6.out hS hwx) 0
            go_simp⟩) HS0 ?_
          refine wpAnyH_take (i := 4) (v := .slice a4 m2 c4) rfl (by kernel_rfl) (by kernel_rfl) (by kernel_rfl) (fun _ _ _ h => h) (.inl ⟨by kernel_rfl, fun w9 hS => by kernel_rfl⟩) HS0 ?_
          refine wpAnyH_take (i := 5) (v := .pointer (some ⟨w.heap.size, 0, none⟩)) rfl (by kernel_rfl) (by kernel_rfl) (by kernel_rfl) (fun _ _ _ h => h) (.inl ⟨by kernel_rfl, fun w9 hS => by kernel_rfl⟩) HS0 ?_
          refine wpAnyH_take (i := 6) (v := .int .i64 x0.s) rfl (by kernel_rfl) (by kernel_rfl) (by kernel_rfl) (fun _ _ _ h => h) (.inl ⟨by kernel_rfl, fun w9 hS => by
            have y9 : w9.cell? ⟨w.heap.size, 0, none⟩ = some (.int .i64 x0.s) := Blok.cell (Blok.below HXx6.out hS hwx) 0
            go_simp⟩) HS0 ?_
          refine wpAnyH_call (i := 3) (f := 24) (args := #[.slice a2 m2 c2, .int .i64 x0.s]) (by kernel_rfl) rfl (by kernel_rfl) (by kernel_rfl) (of_any a2 m2 c2 k2 x0.s ol HOL.out _ (HT26.out.below HS0) (by omega)) ?_
          rintro e v1 ⟨a5, c5, n5, rfl, hn5, hr5, hb5⟩
          have HS1 : (fun w' => Below w6.heap.size w6 w') v1 := Below.trans HS0 (hb5.mono (Below.size HS0))
          refine ⟨_, rfl, HS1, ?_⟩
          refine wpAnyH_call (i := 7) (f := 24) (args := #[.slice a4 m2 c4, .int .i64 x0.s]) (by kernel_rfl) rfl (by kernel_rfl) (by kernel_rfl) (of_any a4 m2 c4 k2 x0.s ol HOL.out _ (HT46.out.below HS1) (by omega)) ?_
          rintro e v2 ⟨a6, c6, n6, rfl, hn6, hr6, hb6⟩
          have HS2 : (fun w' => Below w6.heap.size w6 w') v2 := Below.trans HS1 (hb6.mono (Below.size HS1))
          refine ⟨_, rfl, HS2, ?_⟩
          refine wpAnyH_call (i := 8) (f := 23) (args := #[.slice a5 n5 c5, .slice a6 n6 c6]) (by kernel_rfl) rfl (by kernel_rfl) (by kernel_rfl) (ints_any a5 a6 n5 n6 c5 c6 ol ol _ hn5.out hn6.out (hr5.out.below hb6) hr6.out) ?_
          rintro e v3 ⟨rfl, hb7⟩
          have HS3 : (fun w' => Below w6.heap.size w6 w') v3 := Below.trans HS2 (hb7.mono (Below.size HS2))
          refine ⟨_, rfl, HS3, ?_⟩
          have hol : decide (ol = ol) = true := decide_eq_true rfl
          try rw [hol]
          refine wpAnyH_take (i := 9) (v := .bool true) rfl (by kernel_rfl) (by kernel_rfl) (by kernel_rfl) (fun _ _ _ h => h) (.inl ⟨by kernel_rfl, fun w9 hS => by kernel_rfl⟩) HS3 ?_
          refine wpAnyH_done (by kernel_rfl) ?_ _
          have HT29 := Lib.hid (HT26.out.below HS3)
          have HT49 := Lib.hid (HT46.out.below HS3)
          have HB9 : Hid (Below w.heap.size w v3) := Lib.hid (HB6.out.trans (Below.mono HS3 HB6.out.size))
          have cs := same_any a2 a4 m2 m2 c2 c4 k2 k2 v3 HT29.out HT49.out (by omega) true (decide_eq_true rfl)
          clear hb5 hb6 hb7 HS0 HS1 HS2 HS3 hr5 hr6 hn5 hn6
          go_wp2_with fail
          refine cs.mono ?_
          rintro e v4 ⟨rfl, hb⟩
          have HB10 := Lib.hid (HB9.out.trans (hb.mono HB9.out.size))
          clear cs hb
          cases b4 <;> cases b2 <;> (
            go_wp2
            go_ret
            exact ⟨rfl, HB10.out⟩))
  · have d30 : decide ((30 : Int) < (n0 : Int)) = true := by simp; omega
    have d30' : decide (30 < n0) = true := by simp; omega
    cases s <;> (
      go_wp2
      go_ret
      exact ⟨rfl, HB2.out⟩)
end Go.Proofs.Ytbnhaoimdponkaa
