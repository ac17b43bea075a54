/-
  The document's one: the event that numbers seem to begin by.
-/
import Derived.Test.YtebiogadkamgcaaNMath
import Derived.Test.YtebiogadkamgcaaNMay
import Derived.Test.YtebiogadkamgcaaPut
import Derived.Test.YtebiogadkamgcaaSl
import Derived.Test.YtebiogadkamgcaaNRet
import Derived.BigRegion
namespace Go.Proofs.Ytebiogadkamgcaa
open Go.RowKit
/-- What one returns. -/
def N.OneIs (t : Int) (L : List Int) (w : World) (e : Ending) (w' : World) : Prop := ∃ f n, e = .returned (.tuple #[.agg (N.ecs f), .int .i64 (n : Nat)]) ∧ N.Ones t L f n ∧ Below w.heap.size w w'
theorem N.cell_kept {w w' : World} {b o g : Nat} {v : Value} (hg : w.grownBy w' (some g)) (hb : b < w.heap.size) (hne : b ≠ g) (h : w.cell? ⟨b, o, none⟩ = some v) : w'.cell? ⟨b, o, none⟩ = some v := by
  rw [← h]
  unfold World.cell?
  rw [hg.block b hb (fun e => hne (Option.some.inj e))]
theorem N.cells_of {w : World} {a : Option Addr} {c : Nat} {b off : Nat} {L : List Int} (h : RowIn .i64 w a c L) (ha : a = some ⟨b, off, none⟩) (i : Nat) (x : Int) (hx : L[i]? = some x) : w.cell? ⟨b, off + i, none⟩ = some (.int .i64 x) := by
  obtain ⟨hi, hx'⟩ := List.getElem?_eq_some_iff.1 hx
  obtain ⟨b', off', h', -, hc⟩ := row_at h hi
  rw [ha] at h'
  cases h'
  rw [hc]
  simp [hi, hx']
set_option maxRecDepth 100000 in
set_option maxHeartbeats 600000 in
theorem refOne_0 (a : Option Addr) (c : Nat) (t x : Int) (L : List Int) (w : World) (h : RowIn .i64 w a c (x :: L)) (hL : L.length ≤ 1000) (hx : M.isn x) (hk : x % 16 = 0) (hi : ∀ z ∈ L, M.isn z) :
    Calls Try.prog 28 #[.int .i64 t, .slice a (L.length + 1) c] w (N.OneIs t (x :: L) w) := by
  obtain ⟨b, off, rfl, hb, hc⟩ := row_at h (i := 0) (by simp)
  have hc0 : w.cell? ⟨b, off, none⟩ = some (.int .i64 x) := by simpa using hc
  have k0 : (0 : Int) < (L.length : Int) + 1 := by omega
  obtain ⟨x0, x1⟩ := hx
  obtain ⟨w1, hw1, hb1, hk1⟩ := Zn w 34 #[.int .i64 0, .int .i64 0, .int .i64 0, .int .i64 0, .int .i64 0, .int .i64 0, .int .i64 0, .int .i64 0, .bool false]
  have e1 : w1.heap.size = w.heap.size + 1 := by rw [← hw1]; simp
  have hc1 := (hb1.cell (p := ⟨b, off, none⟩) hb).trans hc0
  have hc2 : (w1.alloc (.cells #[.int .i64 0, .int .i64 0, .int .i64 0, .int .i64 0, .int .i64 0, .int .i64 0, .int .i64 0, .int .i64 0, .bool false] 34)).cell? ⟨b, off, none⟩ = some (.int .i64 x) := (((Below.refl w1.heap.size w1).alloc (Nat.le_refl _) _).cell (p := ⟨b, off, none⟩) (Nat.lt_of_lt_of_le hb hb1.size)).trans hc1
  have HR := Lib.hid h
  have HI := Lib.hid hi
  have HB1 := Lib.hid hb1
  have KR1 := Lib.hid hk1
  clear hc hc0 h hi hb1 hk1
  go_enter Try.func28, Try.ntmps28
  go_wp2_with fail
  go_region
  clear hc1 hc2
  obtain ⟨w2, hw2, hb2, hk2⟩ := Zn w1 34 #[.int .i64 0, .int .i64 (Go.RowKit.wrap64 (t + x / 16)), .int .i64 0, .int .i64 0, .int .i64 0, .int .i64 0, .int .i64 0, .int .i64 0, .bool false]
  have HB2 := Zt HB1 hb2
  have KR2 := Zk KR1 hb2
  rw [e1] at hk2
  have KE2 := Lib.hid hk2
  obtain ⟨w3, hw3⟩ : ∃ W, World.drew w2 = W := ⟨_, rfl⟩
  have HB3 : Hid (Below w.heap.size w w3) := Lib.hid (by rw [← hw3]; exact HB2.out.drew)
  have KR3 : Hid (Blok w3 w.heap.size 34 #[.int .i64 0, .int .i64 0, .int .i64 0, .int .i64 0, .int .i64 0, .int .i64 0, .int .i64 0, .int .i64 0, .bool false]) := Lib.hid (by rw [← hw3]; exact KR2.out.drew)
  have KE3 : Hid (Blok w3 (w.heap.size + 1) 34 #[.int .i64 0, .int .i64 (Go.RowKit.wrap64 (t + x / 16)), .int .i64 0, .int .i64 0, .int .i64 0, .int .i64 0, .int .i64 0, .int .i64 0, .bool false]) := Lib.hid (by rw [← hw3]; exact KE2.out.drew)
  have sz3 := KE3.out.lt
  have hb3 : b < w3.heap.size := Nat.lt_of_lt_of_le hb HB3.out.size
  clear hb2 hk2
  have v0 := Zv KE3.out 0 (.int .i64 0)
  cases L with
  | nil =>
    simp only [List.length_nil]
    obtain ⟨wz, hwz⟩ : ∃ W, w3.setRow w.heap.size #[.int .i64 0, .int .i64 (Go.RowKit.wrap64 (t + x / 16)), .int .i64 0, .int .i64 0, .int .i64 0, .int .i64 0, .int .i64 0, .int .i64 0, .bool false] = W := ⟨_, rfl⟩
    have HWz := Lib.hid hwz
    have v0 := Zv KE3.out 0 (.int .i64 0)
    have v1 := Zv KE3.out 1 (.int .i64 (Go.RowKit.wrap64 (t + x / 16)))
    have v2 := Zv KE3.out 2 (.int .i64 0)
    have v3 := Zv KE3.out 3 (.int .i64 0)
    have v4 := Zv KE3.out 4 (.int .i64 0)
    have v5 := Zv KE3.out 5 (.int .i64 0)
    have v6 := Zv KE3.out 6 (.int .i64 0)
    have v7 := Zv KE3.out 7 (.int .i64 0)
    have v8 := Zv KE3.out 8 (.bool false)
    clear hwz
    go_wp2_with (refine Zw KR3.out HWz.out ?_)
    refine bodyPost_ret (ret_cell_tmp rfl w.heap.size #[.int .i64 0, .int .i64 (Go.RowKit.wrap64 (t + x / 16)), .int .i64 0, .int .i64 0, .int .i64 0, .int .i64 0, .int .i64 0, .int .i64 0, .bool false] (.int .i64 0) (by kernel_rfl) (by kernel_rfl) (by rw [← HWz.out]; exact KR3.out.put _) Try.underlying34 rfl (by kernel_rfl)) (by kernel_rfl) ?_
    exact ⟨⟨0, (Go.RowKit.wrap64 (t + x / 16)), 0, 0, 0, Y.zp⟩, 0, rfl, N.ones_few rfl, by rw [← HWz.out]; exact below_put HB3.out HB3.out.size (Nat.le_refl _) _⟩
  | cons y L =>
    have HN := HI.out y (by simp)
    obtain ⟨y0, y1⟩ := HN
    have hw := N.cells_of HR.out rfl 1 y rfl
    have hy3 := (HB3.out.cell (p := ⟨b, off + 1, none⟩) hb).trans hw
    have k1 : (1 : Int) < (L.length : Int) + 1 + 1 := by omega
    have d2 : decide ((L.length : Int) + 1 + 1 < 2) = false := by simp; omega
    simp only [List.length_cons]
    clear hw
    obtain ⟨w4, hw4⟩ : ∃ W, w3.setCell ⟨w.heap.size + 1, 2, none⟩ (.int .i64 (y / 32)) = W := ⟨_, rfl⟩
    have hg4 : w3.grownBy w4 (some (w.heap.size + 1)) := by rw [← hw4]; exact grown_set1 _ _ _ _
    have HB4 := Lib.hid (HB3.out.grown hg4 HB3.out.size fun q hq => by cases hq; omega)
    have KR4 := Lib.hid (KR3.out.grown hg4 (by simp))
    have KE4 : Hid (Blok w4 (w.heap.size + 1) 34 #[.int .i64 0, .int .i64 (Go.RowKit.wrap64 (t + x / 16)), .int .i64 (y / 32), .int .i64 0, .int .i64 0, .int .i64 0, .int .i64 0, .int .i64 0, .bool false]) := Lib.hid (by rw [← hw4]; simpa using KE3.out.set 2 (.int .i64 (y / 32)))
    have hy4 := N.cell_kept hg4 (Nat.lt_of_lt_of_le hb HB3.out.size) (by have := HB1.out.size; omega) hy3
    have p4 := Zv KE3.out 2 (.int .i64 0)
    have z4 := KE3.out.frozen 2
    obtain ⟨w5, hw5⟩ : ∃ W, w4.setCell ⟨w.heap.size + 1, 3, none⟩ (.int .i64 (y / 8 % 4)) = W := ⟨_, rfl⟩
    have hg5 : w4.grownBy w5 (some (w.heap.size + 1)) := by rw [← hw5]; exact grown_set1 _ _ _ _
    have HB5 := Lib.hid (HB4.out.grown hg5 HB4.out.size fun q hq => by cases hq; omega)
    have KR5 := Lib.hid (KR4.out.grown hg5 (by simp))
    have KE5 : Hid (Blok w5 (w.heap.size + 1) 34 #[.int .i64 0, .int .i64 (Go.RowKit.wrap64 (t + x / 16)), .int .i64 (y / 32), .int .i64 (y / 8 % 4), .int .i64 0, .int .i64 0, .int .i64 0, .int .i64 0, .bool false]) := Lib.hid (by rw [← hw5]; simpa using KE4.out.set 3 (.int .i64 (y / 8 % 4)))
    have hy5 := N.cell_kept hg5 (Nat.lt_of_lt_of_le hb HB4.out.size) (by have := HB1.out.size; omega) hy4
    have p5 := Zv KE4.out 3 (.int .i64 0)
    have z5 := KE4.out.frozen 3
    obtain ⟨w6, hw6⟩ : ∃ W, w5.setCell ⟨w.heap.size + 1, 4, none⟩ (.int .i64 (y % 8)) = W := ⟨_, rfl⟩
    have hg6 : w5.grownBy w6 (some (w.heap.size + 1)) := by rw [← hw6]; exact grown_set1 _ _ _ _
    have HB6 := Lib.hid (HB5.out.grown hg6 HB5.out.size fun q hq => by cases hq; omega)
    have KR6 := Lib.hid (KR5.out.grown hg6 (by simp))
    have KE6 : Hid (Blok w6 (w.heap.size + 1) 34 #[.int .i64 0, .int .i64 (Go.RowKit.wrap64 (t + x / 16)), .int .i64 (y / 32), .int .i64 (y / 8 % 4), .int .i64 (y % 8), .int .i64 0, .int .i64 0, .int .i64 0, .bool false]) := Lib.hid (by rw [← hw6]; simpa using KE5.out.set 4 (.int .i64 (y % 8)))
    have hy6 := N.cell_kept hg6 (Nat.lt_of_lt_of_le hb HB5.out.size) (by have := HB1.out.size; omega) hy5
    have p6 := Zv KE5.out 4 (.int .i64 0)
    have z6 := KE5.out.frozen 4
    clear hg4 hg5 hg6
    obtain ⟨wz, hwz⟩ : ∃ W, w6.setRow w.heap.size #[.int .i64 0, .int .i64 (Go.RowKit.wrap64 (t + x / 16)), .int .i64 (y / 32), .int .i64 (y / 8 % 4), .int .i64 (y % 8), .int .i64 0, .int .i64 0, .int .i64 0, .bool false] = W := ⟨_, rfl⟩
    have HWz := Lib.hid hwz
    have v0 := Zv KE6.out 0 (.int .i64 0)
    have v1 := Zv KE6.out 1 (.int .i64 (Go.RowKit.wrap64 (t + x / 16)))
    have v2 := Zv KE6.out 2 (.int .i64 (y / 32))
    have v3 := Zv KE6.out 3 (.int .i64 (y / 8 % 4))
    have v4 := Zv KE6.out 4 (.int .i64 (y % 8))
    have v5 := Zv KE6.out 5 (.int .i64 0)
    have v6 := Zv KE6.out 6 (.int .i64 0)
    have v7 := Zv KE6.out 7 (.int .i64 0)
    have v8 := Zv KE6.out 8 (.bool false)
    clear hwz
    go_wp2_with (refine Zw KR6.out HWz.out ?_)
    refine bodyPost_ret (ret_cell_tmp rfl w.heap.size #[.int .i64 0, .int .i64 (Go.RowKit.wrap64 (t + x / 16)), .int .i64 (y / 32), .int .i64 (y / 8 % 4), .int .i64 (y % 8), .int .i64 0, .int .i64 0, .int .i64 0, .bool false] (.int .i64 2) (by kernel_rfl) (by kernel_rfl) (by rw [← HWz.out]; exact KR6.out.put _) Try.underlying34 rfl (by kernel_rfl)) (by kernel_rfl) ?_
    exact ⟨⟨0, (Go.RowKit.wrap64 (t + x / 16)), y / 32, y / 8 % 4, y % 8, Y.zp⟩, 2, rfl, N.ones_yes (by unfold N.one N.body; simp only [List.headD_cons, List.tail_cons, hk]; simp; omega) (by simp) (by decide), by rw [← HWz.out]; exact below_put HB6.out HB6.out.size (Nat.le_refl _) _⟩
set_option maxRecDepth 100000 in
set_option maxHeartbeats 600000 in
theorem refOne_1 (a : Option Addr) (c : Nat) (t x : Int) (L : List Int) (w : World) (h : RowIn .i64 w a c (x :: L)) (hL : L.length ≤ 1000) (hx : M.isn x) (hk : x % 16 = 1) (hi : ∀ z ∈ L, M.isn z) :
    Calls Try.prog 28 #[.int .i64 t, .slice a (L.length + 1) c] w (N.OneIs t (x :: L) w) := by
  obtain ⟨b, off, rfl, hb, hc⟩ := row_at h (i := 0) (by simp)
  have hc0 : w.cell? ⟨b, off, none⟩ = some (.int .i64 x) := by simpa using hc
  have k0 : (0 : Int) < (L.length : Int) + 1 := by omega
  obtain ⟨x0, x1⟩ := hx
  obtain ⟨w1, hw1, hb1, hk1⟩ := Zn w 34 #[.int .i64 0, .int .i64 0, .int .i64 0, .int .i64 0, .int .i64 0, .int .i64 0, .int .i64 0, .int .i64 0, .bool false]
  have e1 : w1.heap.size = w.heap.size + 1 := by rw [← hw1]; simp
  have hc1 := (hb1.cell (p := ⟨b, off, none⟩) hb).trans hc0
  have hc2 : (w1.alloc (.cells #[.int .i64 0, .int .i64 0, .int .i64 0, .int .i64 0, .int .i64 0, .int .i64 0, .int .i64 0, .int .i64 0, .bool false] 34)).cell? ⟨b, off, none⟩ = some (.int .i64 x) := (((Below.refl w1.heap.size w1).alloc (Nat.le_refl _) _).cell (p := ⟨b, off, none⟩) (Nat.lt_of_lt_of_le hb hb1.size)).trans hc1
  have HR := Lib.hid h
  have HI := Lib.hid hi
  have HB1 := Lib.hid hb1
  have KR1 := Lib.hid hk1
  clear hc hc0 h hi hb1 hk1
  go_enter Try.func28, Try.ntmps28
  go_wp2_with fail
  go_region
  clear hc1 hc2
  obtain ⟨w2, hw2, hb2, hk2⟩ := Zn w1 34 #[.int .i64 1, .int .i64 (Go.RowKit.wrap64 (t + x / 16)), .int .i64 0, .int .i64 0, .int .i64 0, .int .i64 0, .int .i64 0, .int .i64 0, .bool false]
  have HB2 := Zt HB1 hb2
  have KR2 := Zk KR1 hb2
  rw [e1] at hk2
  have KE2 := Lib.hid hk2
  obtain ⟨w3, hw3⟩ : ∃ W, World.drew w2 = W := ⟨_, rfl⟩
  have HB3 : Hid (Below w.heap.size w w3) := Lib.hid (by rw [← hw3]; exact HB2.out.drew)
  have KR3 : Hid (Blok w3 w.heap.size 34 #[.int .i64 0, .int .i64 0, .int .i64 0, .int .i64 0, .int .i64 0, .int .i64 0, .int .i64 0, .int .i64 0, .bool false]) := Lib.hid (by rw [← hw3]; exact KR2.out.drew)
  have KE3 : Hid (Blok w3 (w.heap.size + 1) 34 #[.int .i64 1, .int .i64 (Go.RowKit.wrap64 (t + x / 16)), .int .i64 0, .int .i64 0, .int .i64 0, .int .i64 0, .int .i64 0, .int .i64 0, .bool false]) := Lib.hid (by rw [← hw3]; exact KE2.out.drew)
  have sz3 := KE3.out.lt
  have hb3 : b < w3.heap.size := Nat.lt_of_lt_of_le hb HB3.out.size
  clear hb2 hk2
  have v0 := Zv KE3.out 0 (.int .i64 1)
  cases L with
  | nil =>
    simp only [List.length_nil]
    obtain ⟨wz, hwz⟩ : ∃ W, w3.setRow w.heap.size #[.int .i64 1, .int .i64 (Go.RowKit.wrap64 (t + x / 16)), .int .i64 0, .int .i64 0, .int .i64 0, .int .i64 0, .int .i64 0, .int .i64 0, .bool false] = W := ⟨_, rfl⟩
    have HWz := Lib.hid hwz
    have v0 := Zv KE3.out 0 (.int .i64 1)
    have v1 := Zv KE3.out 1 (.int .i64 (Go.RowKit.wrap64 (t + x / 16)))
    have v2 := Zv KE3.out 2 (.int .i64 0)
    have v3 := Zv KE3.out 3 (.int .i64 0)
    have v4 := Zv KE3.out 4 (.int .i64 0)
    have v5 := Zv KE3.out 5 (.int .i64 0)
    have v6 := Zv KE3.out 6 (.int .i64 0)
    have v7 := Zv KE3.out 7 (.int .i64 0)
    have v8 := Zv KE3.out 8 (.bool false)
    clear hwz
    go_wp2_with (refine Zw KR3.out HWz.out ?_)
    refine bodyPost_ret (ret_cell_tmp rfl w.heap.size #[.int .i64 1, .int .i64 (Go.RowKit.wrap64 (t + x / 16)), .int .i64 0, .int .i64 0, .int .i64 0, .int .i64 0, .int .i64 0, .int .i64 0, .bool false] (.int .i64 0) (by kernel_rfl) (by kernel_rfl) (by rw [← HWz.out]; exact KR3.out.put _) Try.underlying34 rfl (by kernel_rfl)) (by kernel_rfl) ?_
    exact ⟨⟨1, (Go.RowKit.wrap64 (t + x / 16)), 0, 0, 0, Y.zp⟩, 0, rfl, N.ones_few rfl, by rw [← HWz.out]; exact below_put HB3.out HB3.out.size (Nat.le_refl _) _⟩
  | cons y L =>
    have HN := HI.out y (by simp)
    obtain ⟨y0, y1⟩ := HN
    have hw := N.cells_of HR.out rfl 1 y rfl
    have hy3 := (HB3.out.cell (p := ⟨b, off + 1, none⟩) hb).trans hw
    have k1 : (1 : Int) < (L.length : Int) + 1 + 1 := by omega
    have d2 : decide ((L.length : Int) + 1 + 1 < 2) = false := by simp; omega
    simp only [List.length_cons]
    clear hw
    obtain ⟨w4, hw4⟩ : ∃ W, w3.setCell ⟨w.heap.size + 1, 2, none⟩ (.int .i64 (y / 32)) = W := ⟨_, rfl⟩
    have hg4 : w3.grownBy w4 (some (w.heap.size + 1)) := by rw [← hw4]; exact grown_set1 _ _ _ _
    have HB4 := Lib.hid (HB3.out.grown hg4 HB3.out.size fun q hq => by cases hq; omega)
    have KR4 := Lib.hid (KR3.out.grown hg4 (by simp))
    have KE4 : Hid (Blok w4 (w.heap.size + 1) 34 #[.int .i64 1, .int .i64 (Go.RowKit.wrap64 (t + x / 16)), .int .i64 (y / 32), .int .i64 0, .int .i64 0, .int .i64 0, .int .i64 0, .int .i64 0, .bool false]) := Lib.hid (by rw [← hw4]; simpa using KE3.out.set 2 (.int .i64 (y / 32)))
    have hy4 := N.cell_kept hg4 (Nat.lt_of_lt_of_le hb HB3.out.size) (by have := HB1.out.size; omega) hy3
    have p4 := Zv KE3.out 2 (.int .i64 0)
    have z4 := KE3.out.frozen 2
    obtain ⟨w5, hw5⟩ : ∃ W, w4.setCell ⟨w.heap.size + 1, 3, none⟩ (.int .i64 (y / 8 % 4)) = W := ⟨_, rfl⟩
    have hg5 : w4.grownBy w5 (some (w.heap.size + 1)) := by rw [← hw5]; exact grown_set1 _ _ _ _
    have HB5 := Lib.hid (HB4.out.grown hg5 HB4.out.size fun q hq => by cases hq; omega)
    have KR5 := Lib.hid (KR4.out.grown hg5 (by simp))
    have KE5 : Hid (Blok w5 (w.heap.size + 1) 34 #[.int .i64 1, .int .i64 (Go.RowKit.wrap64 (t + x / 16)), .int .i64 (y / 32), .int .i64 (y / 8 % 4), .int .i64 0, .int .i64 0, .int .i64 0, .int .i64 0, .bool false]) := Lib.hid (by rw [← hw5]; simpa using KE4.out.set 3 (.int .i64 (y / 8 % 4)))
    have hy5 := N.cell_kept hg5 (Nat.lt_of_lt_of_le hb HB4.out.size) (by have := HB1.out.size; omega) hy4
    have p5 := Zv KE4.out 3 (.int .i64 0)
    have z5 := KE4.out.frozen 3
    obtain ⟨w6, hw6⟩ : ∃ W, w5.setCell ⟨w.heap.size + 1, 4, none⟩ (.int .i64 (y % 8)) = W := ⟨_, rfl⟩
    have hg6 : w5.grownBy w6 (some (w.heap.size + 1)) := by rw [← hw6]; exact grown_set1 _ _ _ _
    have HB6 := Lib.hid (HB5.out.grown hg6 HB5.out.size fun q hq => by cases hq; omega)
    have KR6 := Lib.hid (KR5.out.grown hg6 (by simp))
    have KE6 : Hid (Blok w6 (w.heap.size + 1) 34 #[.int .i64 1, .int .i64 (Go.RowKit.wrap64 (t + x / 16)), .int .i64 (y / 32), .int .i64 (y / 8 % 4), .int .i64 (y % 8), .int .i64 0, .int .i64 0, .int .i64 0, .bool false]) := Lib.hid (by rw [← hw6]; simpa using KE5.out.set 4 (.int .i64 (y % 8)))
    have hy6 := N.cell_kept hg6 (Nat.lt_of_lt_of_le hb HB5.out.size) (by have := HB1.out.size; omega) hy5
    have p6 := Zv KE5.out 4 (.int .i64 0)
    have z6 := KE5.out.frozen 4
    clear hg4 hg5 hg6
    obtain ⟨wz, hwz⟩ : ∃ W, w6.setRow w.heap.size #[.int .i64 1, .int .i64 (Go.RowKit.wrap64 (t + x / 16)), .int .i64 (y / 32), .int .i64 (y / 8 % 4), .int .i64 (y % 8), .int .i64 0, .int .i64 0, .int .i64 0, .bool false] = W := ⟨_, rfl⟩
    have HWz := Lib.hid hwz
    have v0 := Zv KE6.out 0 (.int .i64 1)
    have v1 := Zv KE6.out 1 (.int .i64 (Go.RowKit.wrap64 (t + x / 16)))
    have v2 := Zv KE6.out 2 (.int .i64 (y / 32))
    have v3 := Zv KE6.out 3 (.int .i64 (y / 8 % 4))
    have v4 := Zv KE6.out 4 (.int .i64 (y % 8))
    have v5 := Zv KE6.out 5 (.int .i64 0)
    have v6 := Zv KE6.out 6 (.int .i64 0)
    have v7 := Zv KE6.out 7 (.int .i64 0)
    have v8 := Zv KE6.out 8 (.bool false)
    clear hwz
    go_wp2_with (refine Zw KR6.out HWz.out ?_)
    refine bodyPost_ret (ret_cell_tmp rfl w.heap.size #[.int .i64 1, .int .i64 (Go.RowKit.wrap64 (t + x / 16)), .int .i64 (y / 32), .int .i64 (y / 8 % 4), .int .i64 (y % 8), .int .i64 0, .int .i64 0, .int .i64 0, .bool false] (.int .i64 2) (by kernel_rfl) (by kernel_rfl) (by rw [← HWz.out]; exact KR6.out.put _) Try.underlying34 rfl (by kernel_rfl)) (by kernel_rfl) ?_
    exact ⟨⟨1, (Go.RowKit.wrap64 (t + x / 16)), y / 32, y / 8 % 4, y % 8, Y.zp⟩, 2, rfl, N.ones_yes (by unfold N.one N.body; simp only [List.headD_cons, List.tail_cons, hk]; simp; omega) (by simp) (by decide), by rw [← HWz.out]; exact below_put HB6.out HB6.out.size (Nat.le_refl _) _⟩
set_option maxRecDepth 100000 in
set_option maxHeartbeats 600000 in
theorem refOne_2 (a : Option Addr) (c : Nat) (t x : Int) (L : List Int) (w : World) (h : RowIn .i64 w a c (x :: L)) (hL : L.length ≤ 1000) (hx : M.isn x) (hk : x % 16 = 2) (hi : ∀ z ∈ L, M.isn z) :
    Calls Try.prog 28 #[.int .i64 t, .slice a (L.length + 1) c] w (N.OneIs t (x :: L) w) := by
  obtain ⟨b, off, rfl, hb, hc⟩ := row_at h (i := 0) (by simp)
  have hc0 : w.cell? ⟨b, off, none⟩ = some (.int .i64 x) := by simpa using hc
  have k0 : (0 : Int) < (L.length : Int) + 1 := by omega
  obtain ⟨x0, x1⟩ := hx
  obtain ⟨w1, hw1, hb1, hk1⟩ := Zn w 34 #[.int .i64 0, .int .i64 0, .int .i64 0, .int .i64 0, .int .i64 0, .int .i64 0, .int .i64 0, .int .i64 0, .bool false]
  have e1 : w1.heap.size = w.heap.size + 1 := by rw [← hw1]; simp
  have hc1 := (hb1.cell (p := ⟨b, off, none⟩) hb).trans hc0
  have hc2 : (w1.alloc (.cells #[.int .i64 0, .int .i64 0, .int .i64 0, .int .i64 0, .int .i64 0, .int .i64 0, .int .i64 0, .int .i64 0, .bool false] 34)).cell? ⟨b, off, none⟩ = some (.int .i64 x) := (((Below.refl w1.heap.size w1).alloc (Nat.le_refl _) _).cell (p := ⟨b, off, none⟩) (Nat.lt_of_lt_of_le hb hb1.size)).trans hc1
  have HR := Lib.hid h
  have HI := Lib.hid hi
  have HB1 := Lib.hid hb1
  have KR1 := Lib.hid hk1
  clear hc hc0 h hi hb1 hk1
  go_enter Try.func28, Try.ntmps28
  go_wp2_with fail
  go_region
  clear hc1 hc2
  obtain ⟨w2, hw2, hb2, hk2⟩ := Zn w1 34 #[.int .i64 2, .int .i64 (Go.RowKit.wrap64 (t + x / 16)), .int .i64 0, .int .i64 0, .int .i64 0, .int .i64 0, .int .i64 0, .int .i64 0, .bool false]
  have HB2 := Zt HB1 hb2
  have KR2 := Zk KR1 hb2
  rw [e1] at hk2
  have KE2 := Lib.hid hk2
  obtain ⟨w3, hw3⟩ : ∃ W, World.drew w2 = W := ⟨_, rfl⟩
  have HB3 : Hid (Below w.heap.size w w3) := Lib.hid (by rw [← hw3]; exact HB2.out.drew)
  have KR3 : Hid (Blok w3 w.heap.size 34 #[.int .i64 0, .int .i64 0, .int .i64 0, .int .i64 0, .int .i64 0, .int .i64 0, .int .i64 0, .int .i64 0, .bool false]) := Lib.hid (by rw [← hw3]; exact KR2.out.drew)
  have KE3 : Hid (Blok w3 (w.heap.size + 1) 34 #[.int .i64 2, .int .i64 (Go.RowKit.wrap64 (t + x / 16)), .int .i64 0, .int .i64 0, .int .i64 0, .int .i64 0, .int .i64 0, .int .i64 0, .bool false]) := Lib.hid (by rw [← hw3]; exact KE2.out.drew)
  have sz3 := KE3.out.lt
  have hb3 : b < w3.heap.size := Nat.lt_of_lt_of_le hb HB3.out.size
  clear hb2 hk2
  have v0 := Zv KE3.out 0 (.int .i64 2)
  cases L with
  | nil =>
    simp only [List.length_nil]
    obtain ⟨wz, hwz⟩ : ∃ W, w3.setRow w.heap.size #[.int .i64 2, .int .i64 (Go.RowKit.wrap64 (t + x / 16)), .int .i64 0, .int .i64 0, .int .i64 0, .int .i64 0, .int .i64 0, .int .i64 0, .bool false] = W := ⟨_, rfl⟩
    have HWz := Lib.hid hwz
    have v0 := Zv KE3.out 0 (.int .i64 2)
    have v1 := Zv KE3.out 1 (.int .i64 (Go.RowKit.wrap64 (t + x / 16)))
    have v2 := Zv KE3.out 2 (.int .i64 0)
    have v3 := Zv KE3.out 3 (.int .i64 0)
    have v4 := Zv KE3.out 4 (.int .i64 0)
    have v5 := Zv KE3.out 5 (.int .i64 0)
    have v6 := Zv KE3.out 6 (.int .i64 0)
    have v7 := Zv KE3.out 7 (.int .i64 0)
    have v8 := Zv KE3.out 8 (.bool false)
    clear hwz
    go_wp2_with (refine Zw KR3.out HWz.out ?_)
    refine bodyPost_ret (ret_cell_tmp rfl w.heap.size #[.int .i64 2, .int .i64 (Go.RowKit.wrap64 (t + x / 16)), .int .i64 0, .int .i64 0, .int .i64 0, .int .i64 0, .int .i64 0, .int .i64 0, .bool false] (.int .i64 0) (by kernel_rfl) (by kernel_rfl) (by rw [← HWz.out]; exact KR3.out.put _) Try.underlying34 rfl (by kernel_rfl)) (by kernel_rfl) ?_
    exact ⟨⟨2, (Go.RowKit.wrap64 (t + x / 16)), 0, 0, 0, Y.zp⟩, 0, rfl, N.ones_few rfl, by rw [← HWz.out]; exact below_put HB3.out HB3.out.size (Nat.le_refl _) _⟩
  | cons y L =>
    have HN := HI.out y (by simp)
    obtain ⟨y0, y1⟩ := HN
    have hw := N.cells_of HR.out rfl 1 y rfl
    have hy3 := (HB3.out.cell (p := ⟨b, off + 1, none⟩) hb).trans hw
    have k1 : (1 : Int) < (L.length : Int) + 1 + 1 := by omega
    have d2 : decide ((L.length : Int) + 1 + 1 < 2) = false := by simp; omega
    simp only [List.length_cons]
    clear hw
    obtain ⟨w4, hw4⟩ : ∃ W, w3.setCell ⟨w.heap.size + 1, 2, none⟩ (.int .i64 (y / 8)) = W := ⟨_, rfl⟩
    have hg4 : w3.grownBy w4 (some (w.heap.size + 1)) := by rw [← hw4]; exact grown_set1 _ _ _ _
    have HB4 := Lib.hid (HB3.out.grown hg4 HB3.out.size fun q hq => by cases hq; omega)
    have KR4 := Lib.hid (KR3.out.grown hg4 (by simp))
    have KE4 : Hid (Blok w4 (w.heap.size + 1) 34 #[.int .i64 2, .int .i64 (Go.RowKit.wrap64 (t + x / 16)), .int .i64 (y / 8), .int .i64 0, .int .i64 0, .int .i64 0, .int .i64 0, .int .i64 0, .bool false]) := Lib.hid (by rw [← hw4]; simpa using KE3.out.set 2 (.int .i64 (y / 8)))
    have hy4 := N.cell_kept hg4 (Nat.lt_of_lt_of_le hb HB3.out.size) (by have := HB1.out.size; omega) hy3
    have p4 := Zv KE3.out 2 (.int .i64 0)
    have z4 := KE3.out.frozen 2
    obtain ⟨w5, hw5⟩ : ∃ W, w4.setCell ⟨w.heap.size + 1, 3, none⟩ (.int .i64 (y % 8)) = W := ⟨_, rfl⟩
    have hg5 : w4.grownBy w5 (some (w.heap.size + 1)) := by rw [← hw5]; exact grown_set1 _ _ _ _
    have HB5 := Lib.hid (HB4.out.grown hg5 HB4.out.size fun q hq => by cases hq; omega)
    have KR5 := Lib.hid (KR4.out.grown hg5 (by simp))
    have KE5 : Hid (Blok w5 (w.heap.size + 1) 34 #[.int .i64 2, .int .i64 (Go.RowKit.wrap64 (t + x / 16)), .int .i64 (y / 8), .int .i64 (y % 8), .int .i64 0, .int .i64 0, .int .i64 0, .int .i64 0, .bool false]) := Lib.hid (by rw [← hw5]; simpa using KE4.out.set 3 (.int .i64 (y % 8)))
    have hy5 := N.cell_kept hg5 (Nat.lt_of_lt_of_le hb HB4.out.size) (by have := HB1.out.size; omega) hy4
    have p5 := Zv KE4.out 3 (.int .i64 0)
    have z5 := KE4.out.frozen 3
    clear hg4 hg5
    obtain ⟨wz, hwz⟩ : ∃ W, w5.setRow w.heap.size #[.int .i64 2, .int .i64 (Go.RowKit.wrap64 (t + x / 16)), .int .i64 (y / 8), .int .i64 (y % 8), .int .i64 0, .int .i64 0, .int .i64 0, .int .i64 0, .bool false] = W := ⟨_, rfl⟩
    have HWz := Lib.hid hwz
    have v0 := Zv KE5.out 0 (.int .i64 2)
    have v1 := Zv KE5.out 1 (.int .i64 (Go.RowKit.wrap64 (t + x / 16)))
    have v2 := Zv KE5.out 2 (.int .i64 (y / 8))
    have v3 := Zv KE5.out 3 (.int .i64 (y % 8))
    have v4 := Zv KE5.out 4 (.int .i64 0)
    have v5 := Zv KE5.out 5 (.int .i64 0)
    have v6 := Zv KE5.out 6 (.int .i64 0)
    have v7 := Zv KE5.out 7 (.int .i64 0)
    have v8 := Zv KE5.out 8 (.bool false)
    clear hwz
    go_wp2_with (refine Zw KR5.out HWz.out ?_)
    refine bodyPost_ret (ret_cell_tmp rfl w.heap.size #[.int .i64 2, .int .i64 (Go.RowKit.wrap64 (t + x / 16)), .int .i64 (y / 8), .int .i64 (y % 8), .int .i64 0, .int .i64 0, .int .i64 0, .int .i64 0, .bool false] (.int .i64 2) (by kernel_rfl) (by kernel_rfl) (by rw [← HWz.out]; exact KR5.out.put _) Try.underlying34 rfl (by kernel_rfl)) (by kernel_rfl) ?_
    exact ⟨⟨2, (Go.RowKit.wrap64 (t + x / 16)), y / 8, y % 8, 0, Y.zp⟩, 2, rfl, N.ones_yes (by unfold N.one N.body; simp only [List.headD_cons, List.tail_cons, hk]; simp; skip) (by simp) (by decide), by rw [← HWz.out]; exact below_put HB5.out HB5.out.size (Nat.le_refl _) _⟩
set_option maxRecDepth 100000 in
set_option maxHeartbeats 600000 in
theorem refOne_3 (a : Option Addr) (c : Nat) (t x : Int) (L : List Int) (w : World) (h : RowIn .i64 w a c (x :: L)) (hL : L.length ≤ 1000) (hx : M.isn x) (hk : x % 16 = 3) (hi : ∀ z ∈ L, M.isn z) :
    Calls Try.prog 28 #[.int .i64 t, .slice a (L.length + 1) c] w (N.OneIs t (x :: L) w) := by
  obtain ⟨b, off, rfl, hb, hc⟩ := row_at h (i := 0) (by simp)
  have hc0 : w.cell? ⟨b, off, none⟩ = some (.int .i64 x) := by simpa using hc
  have k0 : (0 : Int) < (L.length : Int) + 1 := by omega
  obtain ⟨x0, x1⟩ := hx
  obtain ⟨w1, hw1, hb1, hk1⟩ := Zn w 34 #[.int .i64 0, .int .i64 0, .int .i64 0, .int .i64 0, .int .i64 0, .int .i64 0, .int .i64 0, .int .i64 0, .bool false]
  have e1 : w1.heap.size = w.heap.size + 1 := by rw [← hw1]; simp
  have hc1 := (hb1.cell (p := ⟨b, off, none⟩) hb).trans hc0
  have hc2 : (w1.alloc (.cells #[.int .i64 0, .int .i64 0, .int .i64 0, .int .i64 0, .int .i64 0, .int .i64 0, .int .i64 0, .int .i64 0, .bool false] 34)).cell? ⟨b, off, none⟩ = some (.int .i64 x) := (((Below.refl w1.heap.size w1).alloc (Nat.le_refl _) _).cell (p := ⟨b, off, none⟩) (Nat.lt_of_lt_of_le hb hb1.size)).trans hc1
  have HR := Lib.hid h
  have HI := Lib.hid hi
  have HB1 := Lib.hid hb1
  have KR1 := Lib.hid hk1
  clear hc hc0 h hi hb1 hk1
  go_enter Try.func28, Try.ntmps28
  go_wp2_with fail
  go_region
  clear hc1 hc2
  obtain ⟨w2, hw2, hb2, hk2⟩ := Zn w1 34 #[.int .i64 3, .int .i64 (Go.RowKit.wrap64 (t + x / 16)), .int .i64 0, .int .i64 0, .int .i64 0, .int .i64 0, .int .i64 0, .int .i64 0, .bool false]
  have HB2 := Zt HB1 hb2
  have KR2 := Zk KR1 hb2
  rw [e1] at hk2
  have KE2 := Lib.hid hk2
  obtain ⟨w3, hw3⟩ : ∃ W, World.drew w2 = W := ⟨_, rfl⟩
  have HB3 : Hid (Below w.heap.size w w3) := Lib.hid (by rw [← hw3]; exact HB2.out.drew)
  have KR3 : Hid (Blok w3 w.heap.size 34 #[.int .i64 0, .int .i64 0, .int .i64 0, .int .i64 0, .int .i64 0, .int .i64 0, .int .i64 0, .int .i64 0, .bool false]) := Lib.hid (by rw [← hw3]; exact KR2.out.drew)
  have KE3 : Hid (Blok w3 (w.heap.size + 1) 34 #[.int .i64 3, .int .i64 (Go.RowKit.wrap64 (t + x / 16)), .int .i64 0, .int .i64 0, .int .i64 0, .int .i64 0, .int .i64 0, .int .i64 0, .bool false]) := Lib.hid (by rw [← hw3]; exact KE2.out.drew)
  have sz3 := KE3.out.lt
  have hb3 : b < w3.heap.size := Nat.lt_of_lt_of_le hb HB3.out.size
  clear hb2 hk2
  have v0 := Zv KE3.out 0 (.int .i64 3)
  cases L with
  | nil =>
    simp only [List.length_nil]
    obtain ⟨wz, hwz⟩ : ∃ W, w3.setRow w.heap.size #[.int .i64 3, .int .i64 (Go.RowKit.wrap64 (t + x / 16)), .int .i64 0, .int .i64 0, .int .i64 0, .int .i64 0, .int .i64 0, .int .i64 0, .bool false] = W := ⟨_, rfl⟩
    have HWz := Lib.hid hwz
    have v0 := Zv KE3.out 0 (.int .i64 3)
    have v1 := Zv KE3.out 1 (.int .i64 (Go.RowKit.wrap64 (t + x / 16)))
    have v2 := Zv KE3.out 2 (.int .i64 0)
    have v3 := Zv KE3.out 3 (.int .i64 0)
    have v4 := Zv KE3.out 4 (.int .i64 0)
    have v5 := Zv KE3.out 5 (.int .i64 0)
    have v6 := Zv KE3.out 6 (.int .i64 0)
    have v7 := Zv KE3.out 7 (.int .i64 0)
    have v8 := Zv KE3.out 8 (.bool false)
    clear hwz
    go_wp2_with (refine Zw KR3.out HWz.out ?_)
    refine bodyPost_ret (ret_cell_tmp rfl w.heap.size #[.int .i64 3, .int .i64 (Go.RowKit.wrap64 (t + x / 16)), .int .i64 0, .int .i64 0, .int .i64 0, .int .i64 0, .int .i64 0, .int .i64 0, .bool false] (.int .i64 0) (by kernel_rfl) (by kernel_rfl) (by rw [← HWz.out]; exact KR3.out.put _) Try.underlying34 rfl (by kernel_rfl)) (by kernel_rfl) ?_
    exact ⟨⟨3, (Go.RowKit.wrap64 (t + x / 16)), 0, 0, 0, Y.zp⟩, 0, rfl, N.ones_few rfl, by rw [← HWz.out]; exact below_put HB3.out HB3.out.size (Nat.le_refl _) _⟩
  | cons y L =>
    have HN := HI.out y (by simp)
    obtain ⟨y0, y1⟩ := HN
    have hw := N.cells_of HR.out rfl 1 y rfl
    have hy3 := (HB3.out.cell (p := ⟨b, off + 1, none⟩) hb).trans hw
    have k1 : (1 : Int) < (L.length : Int) + 1 + 1 := by omega
    have d2 : decide ((L.length : Int) + 1 + 1 < 2) = false := by simp; omega
    simp only [List.length_cons]
    clear hw
    obtain ⟨w4, hw4⟩ : ∃ W, w3.setCell ⟨w.heap.size + 1, 2, none⟩ (.int .i64 y) = W := ⟨_, rfl⟩
    have hg4 : w3.grownBy w4 (some (w.heap.size + 1)) := by rw [← hw4]; exact grown_set1 _ _ _ _
    have HB4 := Lib.hid (HB3.out.grown hg4 HB3.out.size fun q hq => by cases hq; omega)
    have KR4 := Lib.hid (KR3.out.grown hg4 (by simp))
    have KE4 : Hid (Blok w4 (w.heap.size + 1) 34 #[.int .i64 3, .int .i64 (Go.RowKit.wrap64 (t + x / 16)), .int .i64 y, .int .i64 0, .int .i64 0, .int .i64 0, .int .i64 0, .int .i64 0, .bool false]) := Lib.hid (by rw [← hw4]; simpa using KE3.out.set 2 (.int .i64 y))
    have hy4 := N.cell_kept hg4 (Nat.lt_of_lt_of_le hb HB3.out.size) (by have := HB1.out.size; omega) hy3
    have p4 := Zv KE3.out 2 (.int .i64 0)
    have z4 := KE3.out.frozen 2
    clear hg4
    obtain ⟨wz, hwz⟩ : ∃ W, w4.setRow w.heap.size #[.int .i64 3, .int .i64 (Go.RowKit.wrap64 (t + x / 16)), .int .i64 y, .int .i64 0, .int .i64 0, .int .i64 0, .int .i64 0, .int .i64 0, .bool false] = W := ⟨_, rfl⟩
    have HWz := Lib.hid hwz
    have v0 := Zv KE4.out 0 (.int .i64 3)
    have v1 := Zv KE4.out 1 (.int .i64 (Go.RowKit.wrap64 (t + x / 16)))
    have v2 := Zv KE4.out 2 (.int .i64 y)
    have v3 := Zv KE4.out 3 (.int .i64 0)
    have v4 := Zv KE4.out 4 (.int .i64 0)
    have v5 := Zv KE4.out 5 (.int .i64 0)
    have v6 := Zv KE4.out 6 (.int .i64 0)
    have v7 := Zv KE4.out 7 (.int .i64 0)
    have v8 := Zv KE4.out 8 (.bool false)
    clear hwz
    go_wp2_with (refine Zw KR4.out HWz.out ?_)
    refine bodyPost_ret (ret_cell_tmp rfl w.heap.size #[.int .i64 3, .int .i64 (Go.RowKit.wrap64 (t + x / 16)), .int .i64 y, .int .i64 0, .int .i64 0, .int .i64 0, .int .i64 0, .int .i64 0, .bool false] (.int .i64 2) (by kernel_rfl) (by kernel_rfl) (by rw [← HWz.out]; exact KR4.out.put _) Try.underlying34 rfl (by kernel_rfl)) (by kernel_rfl) ?_
    exact ⟨⟨3, (Go.RowKit.wrap64 (t + x / 16)), y, 0, 0, Y.zp⟩, 2, rfl, N.ones_yes (by unfold N.one N.body; simp only [List.headD_cons, List.tail_cons, hk]; simp; skip) (by simp) (by decide), by rw [← HWz.out]; exact below_put HB4.out HB4.out.size (Nat.le_refl _) _⟩
set_option maxRecDepth 100000 in
set_option maxHeartbeats 600000 in
theorem refOne_4 (a : Option Addr) (c : Nat) (t x : Int) (L : List Int) (w : World) (h : RowIn .i64 w a c (x :: L)) (hL : L.length ≤ 1000) (hx : M.isn x) (hk : x % 16 = 4) (hi : ∀ z ∈ L, M.isn z) :
    Calls Try.prog 28 #[.int .i64 t, .slice a (L.length + 1) c] w (N.OneIs t (x :: L) w) := by
  obtain ⟨b, off, rfl, hb, hc⟩ := row_at h (i := 0) (by simp)
  have hc0 : w.cell? ⟨b, off, none⟩ = some (.int .i64 x) := by simpa using hc
  have k0 : (0 : Int) < (L.length : Int) + 1 := by omega
  obtain ⟨x0, x1⟩ := hx
  obtain ⟨w1, hw1, hb1, hk1⟩ := Zn w 34 #[.int .i64 0, .int .i64 0, .int .i64 0, .int .i64 0, .int .i64 0, .int .i64 0, .int .i64 0, .int .i64 0, .bool false]
  have e1 : w1.heap.size = w.heap.size + 1 := by rw [← hw1]; simp
  have hc1 := (hb1.cell (p := ⟨b, off, none⟩) hb).trans hc0
  have hc2 : (w1.alloc (.cells #[.int .i64 0, .int .i64 0, .int .i64 0, .int .i64 0, .int .i64 0, .int .i64 0, .int .i64 0, .int .i64 0, .bool false] 34)).cell? ⟨b, off, none⟩ = some (.int .i64 x) := (((Below.refl w1.heap.size w1).alloc (Nat.le_refl _) _).cell (p := ⟨b, off, none⟩) (Nat.lt_of_lt_of_le hb hb1.size)).trans hc1
  have HR := Lib.hid h
  have HI := Lib.hid hi
  have HB1 := Lib.hid hb1
  have KR1 := Lib.hid hk1
  clear hc hc0 h hi hb1 hk1
  go_enter Try.func28, Try.ntmps28
  go_wp2_with fail
  go_region
  clear hc1 hc2
  obtain ⟨w2, hw2, hb2, hk2⟩ := Zn w1 34 #[.int .i64 4, .int .i64 (Go.RowKit.wrap64 (t + x / 16)), .int .i64 0, .int .i64 0, .int .i64 0, .int .i64 0, .int .i64 0, .int .i64 0, .bool false]
  have HB2 := Zt HB1 hb2
  have KR2 := Zk KR1 hb2
  rw [e1] at hk2
  have KE2 := Lib.hid hk2
  obtain ⟨w3, hw3⟩ : ∃ W, World.drew w2 = W := ⟨_, rfl⟩
  have HB3 : Hid (Below w.heap.size w w3) := Lib.hid (by rw [← hw3]; exact HB2.out.drew)
  have KR3 : Hid (Blok w3 w.heap.size 34 #[.int .i64 0, .int .i64 0, .int .i64 0, .int .i64 0, .int .i64 0, .int .i64 0, .int .i64 0, .int .i64 0, .bool false]) := Lib.hid (by rw [← hw3]; exact KR2.out.drew)
  have KE3 : Hid (Blok w3 (w.heap.size + 1) 34 #[.int .i64 4, .int .i64 (Go.RowKit.wrap64 (t + x / 16)), .int .i64 0, .int .i64 0, .int .i64 0, .int .i64 0, .int .i64 0, .int .i64 0, .bool false]) := Lib.hid (by rw [← hw3]; exact KE2.out.drew)
  have sz3 := KE3.out.lt
  have hb3 : b < w3.heap.size := Nat.lt_of_lt_of_le hb HB3.out.size
  clear hb2 hk2
  have v0 := Zv KE3.out 0 (.int .i64 4)
  cases L with
  | nil =>
    simp only [List.length_nil]
    obtain ⟨wz, hwz⟩ : ∃ W, w3.setRow w.heap.size #[.int .i64 4, .int .i64 (Go.RowKit.wrap64 (t + x / 16)), .int .i64 0, .int .i64 0, .int .i64 0, .int .i64 0, .int .i64 0, .int .i64 0, .bool false] = W := ⟨_, rfl⟩
    have HWz := Lib.hid hwz
    have v0 := Zv KE3.out 0 (.int .i64 4)
    have v1 := Zv KE3.out 1 (.int .i64 (Go.RowKit.wrap64 (t + x / 16)))
    have v2 := Zv KE3.out 2 (.int .i64 0)
    have v3 := Zv KE3.out 3 (.int .i64 0)
    have v4 := Zv KE3.out 4 (.int .i64 0)
    have v5 := Zv KE3.out 5 (.int .i64 0)
    have v6 := Zv KE3.out 6 (.int .i64 0)
    have v7 := Zv KE3.out 7 (.int .i64 0)
    have v8 := Zv KE3.out 8 (.bool false)
    clear hwz
    go_wp2_with (refine Zw KR3.out HWz.out ?_)
    refine bodyPost_ret (ret_cell_tmp rfl w.heap.size #[.int .i64 4, .int .i64 (Go.RowKit.wrap64 (t + x / 16)), .int .i64 0, .int .i64 0, .int .i64 0, .int .i64 0, .int .i64 0, .int .i64 0, .bool false] (.int .i64 0) (by kernel_rfl) (by kernel_rfl) (by rw [← HWz.out]; exact KR3.out.put _) Try.underlying34 rfl (by kernel_rfl)) (by kernel_rfl) ?_
    exact ⟨⟨4, (Go.RowKit.wrap64 (t + x / 16)), 0, 0, 0, Y.zp⟩, 0, rfl, N.ones_few rfl, by rw [← HWz.out]; exact below_put HB3.out HB3.out.size (Nat.le_refl _) _⟩
  | cons y L =>
    have HN := HI.out y (by simp)
    obtain ⟨y0, y1⟩ := HN
    have hw := N.cells_of HR.out rfl 1 y rfl
    have hy3 := (HB3.out.cell (p := ⟨b, off + 1, none⟩) hb).trans hw
    have k1 : (1 : Int) < (L.length : Int) + 1 + 1 := by omega
    have d2 : decide ((L.length : Int) + 1 + 1 < 2) = false := by simp; omega
    simp only [List.length_cons]
    clear hw
    obtain ⟨w4, hw4⟩ : ∃ W, w3.setCell ⟨w.heap.size + 1, 2, none⟩ (.int .i64 (y / 8)) = W := ⟨_, rfl⟩
    have hg4 : w3.grownBy w4 (some (w.heap.size + 1)) := by rw [← hw4]; exact grown_set1 _ _ _ _
    have HB4 := Lib.hid (HB3.out.grown hg4 HB3.out.size fun q hq => by cases hq; omega)
    have KR4 := Lib.hid (KR3.out.grown hg4 (by simp))
    have KE4 : Hid (Blok w4 (w.heap.size + 1) 34 #[.int .i64 4, .int .i64 (Go.RowKit.wrap64 (t + x / 16)), .int .i64 (y / 8), .int .i64 0, .int .i64 0, .int .i64 0, .int .i64 0, .int .i64 0, .bool false]) := Lib.hid (by rw [← hw4]; simpa using KE3.out.set 2 (.int .i64 (y / 8)))
    have hy4 := N.cell_kept hg4 (Nat.lt_of_lt_of_le hb HB3.out.size) (by have := HB1.out.size; omega) hy3
    have p4 := Zv KE3.out 2 (.int .i64 0)
    have z4 := KE3.out.frozen 2
    obtain ⟨w5, hw5⟩ : ∃ W, w4.setCell ⟨w.heap.size + 1, 3, none⟩ (.int .i64 (y % 8)) = W := ⟨_, rfl⟩
    have hg5 : w4.grownBy w5 (some (w.heap.size + 1)) := by rw [← hw5]; exact grown_set1 _ _ _ _
    have HB5 := Lib.hid (HB4.out.grown hg5 HB4.out.size fun q hq => by cases hq; omega)
    have KR5 := Lib.hid (KR4.out.grown hg5 (by simp))
    have KE5 : Hid (Blok w5 (w.heap.size + 1) 34 #[.int .i64 4, .int .i64 (Go.RowKit.wrap64 (t + x / 16)), .int .i64 (y / 8), .int .i64 (y % 8), .int .i64 0, .int .i64 0, .int .i64 0, .int .i64 0, .bool false]) := Lib.hid (by rw [← hw5]; simpa using KE4.out.set 3 (.int .i64 (y % 8)))
    have hy5 := N.cell_kept hg5 (Nat.lt_of_lt_of_le hb HB4.out.size) (by have := HB1.out.size; omega) hy4
    have p5 := Zv KE4.out 3 (.int .i64 0)
    have z5 := KE4.out.frozen 3
    clear hg4 hg5
    obtain ⟨wz, hwz⟩ : ∃ W, w5.setRow w.heap.size #[.int .i64 4, .int .i64 (Go.RowKit.wrap64 (t + x / 16)), .int .i64 (y / 8), .int .i64 (y % 8), .int .i64 0, .int .i64 0, .int .i64 0, .int .i64 0, .bool false] = W := ⟨_, rfl⟩
    have HWz := Lib.hid hwz
    have v0 := Zv KE5.out 0 (.int .i64 4)
    have v1 := Zv KE5.out 1 (.int .i64 (Go.RowKit.wrap64 (t + x / 16)))
    have v2 := Zv KE5.out 2 (.int .i64 (y / 8))
    have v3 := Zv KE5.out 3 (.int .i64 (y % 8))
    have v4 := Zv KE5.out 4 (.int .i64 0)
    have v5 := Zv KE5.out 5 (.int .i64 0)
    have v6 := Zv KE5.out 6 (.int .i64 0)
    have v7 := Zv KE5.out 7 (.int .i64 0)
    have v8 := Zv KE5.out 8 (.bool false)
    clear hwz
    go_wp2_with (refine Zw KR5.out HWz.out ?_)
    refine bodyPost_ret (ret_cell_tmp rfl w.heap.size #[.int .i64 4, .int .i64 (Go.RowKit.wrap64 (t + x / 16)), .int .i64 (y / 8), .int .i64 (y % 8), .int .i64 0, .int .i64 0, .int .i64 0, .int .i64 0, .bool false] (.int .i64 2) (by kernel_rfl) (by kernel_rfl) (by rw [← HWz.out]; exact KR5.out.put _) Try.underlying34 rfl (by kernel_rfl)) (by kernel_rfl) ?_
    exact ⟨⟨4, (Go.RowKit.wrap64 (t + x / 16)), y / 8, y % 8, 0, Y.zp⟩, 2, rfl, N.ones_yes (by unfold N.one N.body; simp only [List.headD_cons, List.tail_cons, hk]; simp; skip) (by simp) (by decide), by rw [← HWz.out]; exact below_put HB5.out HB5.out.size (Nat.le_refl _) _⟩
set_option maxRecDepth 100000 in
set_option maxHeartbeats 600000 in
theorem refOne_5 (a : Option Addr) (c : Nat) (t x : Int) (L : List Int) (w : World) (h : RowIn .i64 w a c (x :: L)) (hL : L.length ≤ 1000) (hx : M.isn x) (hk : x % 16 = 5) (hi : ∀ z ∈ L, M.isn z) :
    Calls Try.prog 28 #[.int .i64 t, .slice a (L.length + 1) c] w (N.OneIs t (x :: L) w) := by
  obtain ⟨b, off, rfl, hb, hc⟩ := row_at h (i := 0) (by simp)
  have hc0 : w.cell? ⟨b, off, none⟩ = some (.int .i64 x) := by simpa using hc
  have k0 : (0 : Int) < (L.length : Int) + 1 := by omega
  obtain ⟨x0, x1⟩ := hx
  obtain ⟨w1, hw1, hb1, hk1⟩ := Zn w 34 #[.int .i64 0, .int .i64 0, .int .i64 0, .int .i64 0, .int .i64 0, .int .i64 0, .int .i64 0, .int .i64 0, .bool false]
  have e1 : w1.heap.size = w.heap.size + 1 := by rw [← hw1]; simp
  have hc1 := (hb1.cell (p := ⟨b, off, none⟩) hb).trans hc0
  have hc2 : (w1.alloc (.cells #[.int .i64 0, .int .i64 0, .int .i64 0, .int .i64 0, .int .i64 0, .int .i64 0, .int .i64 0, .int .i64 0, .bool false] 34)).cell? ⟨b, off, none⟩ = some (.int .i64 x) := (((Below.refl w1.heap.size w1).alloc (Nat.le_refl _) _).cell (p := ⟨b, off, none⟩) (Nat.lt_of_lt_of_le hb hb1.size)).trans hc1
  have HR := Lib.hid h
  have HI := Lib.hid hi
  have HB1 := Lib.hid hb1
  have KR1 := Lib.hid hk1
  clear hc hc0 h hi hb1 hk1
  go_enter Try.func28, Try.ntmps28
  go_wp2_with fail
  go_region
  clear hc1 hc2
  obtain ⟨w2, hw2, hb2, hk2⟩ := Zn w1 34 #[.int .i64 5, .int .i64 (Go.RowKit.wrap64 (t + x / 16)), .int .i64 0, .int .i64 0, .int .i64 0, .int .i64 0, .int .i64 0, .int .i64 0, .bool false]
  have HB2 := Zt HB1 hb2
  have KR2 := Zk KR1 hb2
  rw [e1] at hk2
  have KE2 := Lib.hid hk2
  obtain ⟨w3, hw3⟩ : ∃ W, World.drew w2 = W := ⟨_, rfl⟩
  have HB3 : Hid (Below w.heap.size w w3) := Lib.hid (by rw [← hw3]; exact HB2.out.drew)
  have KR3 : Hid (Blok w3 w.heap.size 34 #[.int .i64 0, .int .i64 0, .int .i64 0, .int .i64 0, .int .i64 0, .int .i64 0, .int .i64 0, .int .i64 0, .bool false]) := Lib.hid (by rw [← hw3]; exact KR2.out.drew)
  have KE3 : Hid (Blok w3 (w.heap.size + 1) 34 #[.int .i64 5, .int .i64 (Go.RowKit.wrap64 (t + x / 16)), .int .i64 0, .int .i64 0, .int .i64 0, .int .i64 0, .int .i64 0, .int .i64 0, .bool false]) := Lib.hid (by rw [← hw3]; exact KE2.out.drew)
  have sz3 := KE3.out.lt
  have hb3 : b < w3.heap.size := Nat.lt_of_lt_of_le hb HB3.out.size
  clear hb2 hk2
  have v0 := Zv KE3.out 0 (.int .i64 5)
  cases L with
  | nil =>
    simp only [List.length_nil]
    obtain ⟨wz, hwz⟩ : ∃ W, w3.setRow w.heap.size #[.int .i64 5, .int .i64 (Go.RowKit.wrap64 (t + x / 16)), .int .i64 0, .int .i64 0, .int .i64 0, .int .i64 0, .int .i64 0, .int .i64 0, .bool false] = W := ⟨_, rfl⟩
    have HWz := Lib.hid hwz
    have v0 := Zv KE3.out 0 (.int .i64 5)
    have v1 := Zv KE3.out 1 (.int .i64 (Go.RowKit.wrap64 (t + x / 16)))
    have v2 := Zv KE3.out 2 (.int .i64 0)
    have v3 := Zv KE3.out 3 (.int .i64 0)
    have v4 := Zv KE3.out 4 (.int .i64 0)
    have v5 := Zv KE3.out 5 (.int .i64 0)
    have v6 := Zv KE3.out 6 (.int .i64 0)
    have v7 := Zv KE3.out 7 (.int .i64 0)
    have v8 := Zv KE3.out 8 (.bool false)
    clear hwz
    go_wp2_with (refine Zw KR3.out HWz.out ?_)
    refine bodyPost_ret (ret_cell_tmp rfl w.heap.size #[.int .i64 5, .int .i64 (Go.RowKit.wrap64 (t + x / 16)), .int .i64 0, .int .i64 0, .int .i64 0, .int .i64 0, .int .i64 0, .int .i64 0, .bool false] (.int .i64 0) (by kernel_rfl) (by kernel_rfl) (by rw [← HWz.out]; exact KR3.out.put _) Try.underlying34 rfl (by kernel_rfl)) (by kernel_rfl) ?_
    exact ⟨⟨5, (Go.RowKit.wrap64 (t + x / 16)), 0, 0, 0, Y.zp⟩, 0, rfl, N.ones_few rfl, by rw [← HWz.out]; exact below_put HB3.out HB3.out.size (Nat.le_refl _) _⟩
  | cons y L =>
    have HN := HI.out y (by simp)
    obtain ⟨y0, y1⟩ := HN
    have hw := N.cells_of HR.out rfl 1 y rfl
    have hy3 := (HB3.out.cell (p := ⟨b, off + 1, none⟩) hb).trans hw
    have k1 : (1 : Int) < (L.length : Int) + 1 + 1 := by omega
    have d2 : decide ((L.length : Int) + 1 + 1 < 2) = false := by simp; omega
    simp only [List.length_cons]
    clear hw
    obtain ⟨w4, hw4⟩ : ∃ W, w3.setCell ⟨w.heap.size + 1, 2, none⟩ (.int .i64 y) = W := ⟨_, rfl⟩
    have hg4 : w3.grownBy w4 (some (w.heap.size + 1)) := by rw [← hw4]; exact grown_set1 _ _ _ _
    have HB4 := Lib.hid (HB3.out.grown hg4 HB3.out.size fun q hq => by cases hq; omega)
    have KR4 := Lib.hid (KR3.out.grown hg4 (by simp))
    have KE4 : Hid (Blok w4 (w.heap.size + 1) 34 #[.int .i64 5, .int .i64 (Go.RowKit.wrap64 (t + x / 16)), .int .i64 y, .int .i64 0, .int .i64 0, .int .i64 0, .int .i64 0, .int .i64 0, .bool false]) := Lib.hid (by rw [← hw4]; simpa using KE3.out.set 2 (.int .i64 y))
    have hy4 := N.cell_kept hg4 (Nat.lt_of_lt_of_le hb HB3.out.size) (by have := HB1.out.size; omega) hy3
    have p4 := Zv KE3.out 2 (.int .i64 0)
    have z4 := KE3.out.frozen 2
    clear hg4
    obtain ⟨wz, hwz⟩ : ∃ W, w4.setRow w.heap.size #[.int .i64 5, .int .i64 (Go.RowKit.wrap64 (t + x / 16)), .int .i64 y, .int .i64 0, .int .i64 0, .int .i64 0, .int .i64 0, .int .i64 0, .bool false] = W := ⟨_, rfl⟩
    have HWz := Lib.hid hwz
    have v0 := Zv KE4.out 0 (.int .i64 5)
    have v1 := Zv KE4.out 1 (.int .i64 (Go.RowKit.wrap64 (t + x / 16)))
    have v2 := Zv KE4.out 2 (.int .i64 y)
    have v3 := Zv KE4.out 3 (.int .i64 0)
    have v4 := Zv KE4.out 4 (.int .i64 0)
    have v5 := Zv KE4.out 5 (.int .i64 0)
    have v6 := Zv KE4.out 6 (.int .i64 0)
    have v7 := Zv KE4.out 7 (.int .i64 0)
    have v8 := Zv KE4.out 8 (.bool false)
    clear hwz
    go_wp2_with (refine Zw KR4.out HWz.out ?_)
    refine bodyPost_ret (ret_cell_tmp rfl w.heap.size #[.int .i64 5, .int .i64 (Go.RowKit.wrap64 (t + x / 16)), .int .i64 y, .int .i64 0, .int .i64 0, .int .i64 0, .int .i64 0, .int .i64 0, .bool false] (.int .i64 2) (by kernel_rfl) (by kernel_rfl) (by rw [← HWz.out]; exact KR4.out.put _) Try.underlying34 rfl (by kernel_rfl)) (by kernel_rfl) ?_
    exact ⟨⟨5, (Go.RowKit.wrap64 (t + x / 16)), y, 0, 0, Y.zp⟩, 2, rfl, N.ones_yes (by unfold N.one N.body; simp only [List.headD_cons, List.tail_cons, hk]; simp; skip) (by simp) (by decide), by rw [← HWz.out]; exact below_put HB4.out HB4.out.size (Nat.le_refl _) _⟩
set_option maxRecDepth 100000 in
set_option maxHeartbeats 600000 in
theorem refOne_6 (a : Option Addr) (c : Nat) (t x : Int) (L : List Int) (w : World) (h : RowIn .i64 w a c (x :: L)) (hL : L.length ≤ 1000) (hx : M.isn x) (hk : x % 16 = 6) (hi : ∀ z ∈ L, M.isn z) :
    Calls Try.prog 28 #[.int .i64 t, .slice a (L.length + 1) c] w (N.OneIs t (x :: L) w) := by
  obtain ⟨b, off, rfl, hb, hc⟩ := row_at h (i := 0) (by simp)
  have hc0 : w.cell? ⟨b, off, none⟩ = some (.int .i64 x) := by simpa using hc
  have k0 : (0 : Int) < (L.length : Int) + 1 := by omega
  obtain ⟨x0, x1⟩ := hx
  obtain ⟨w1, hw1, hb1, hk1⟩ := Zn w 34 #[.int .i64 0, .int .i64 0, .int .i64 0, .int .i64 0, .int .i64 0, .int .i64 0, .int .i64 0, .int .i64 0, .bool false]
  have e1 : w1.heap.size = w.heap.size + 1 := by rw [← hw1]; simp
  have hc1 := (hb1.cell (p := ⟨b, off, none⟩) hb).trans hc0
  have hc2 : (w1.alloc (.cells #[.int .i64 0, .int .i64 0, .int .i64 0, .int .i64 0, .int .i64 0, .int .i64 0, .int .i64 0, .int .i64 0, .bool false] 34)).cell? ⟨b, off, none⟩ = some (.int .i64 x) := (((Below.refl w1.heap.size w1).alloc (Nat.le_refl _) _).cell (p := ⟨b, off, none⟩) (Nat.lt_of_lt_of_le hb hb1.size)).trans hc1
  have HR := Lib.hid h
  have HI := Lib.hid hi
  have HB1 := Lib.hid hb1
  have KR1 := Lib.hid hk1
  clear hc hc0 h hi hb1 hk1
  go_enter Try.func28, Try.ntmps28
  go_wp2_with fail
  go_region
  clear hc1 hc2
  obtain ⟨w2, hw2, hb2, hk2⟩ := Zn w1 34 #[.int .i64 6, .int .i64 (Go.RowKit.wrap64 (t + x / 16)), .int .i64 0, .int .i64 0, .int .i64 0, .int .i64 0, .int .i64 0, .int .i64 0, .bool false]
  have HB2 := Zt HB1 hb2
  have KR2 := Zk KR1 hb2
  rw [e1] at hk2
  have KE2 := Lib.hid hk2
  obtain ⟨w3, hw3⟩ : ∃ W, World.drew w2 = W := ⟨_, rfl⟩
  have HB3 : Hid (Below w.heap.size w w3) := Lib.hid (by rw [← hw3]; exact HB2.out.drew)
  have KR3 : Hid (Blok w3 w.heap.size 34 #[.int .i64 0, .int .i64 0, .int .i64 0, .int .i64 0, .int .i64 0, .int .i64 0, .int .i64 0, .int .i64 0, .bool false]) := Lib.hid (by rw [← hw3]; exact KR2.out.drew)
  have KE3 : Hid (Blok w3 (w.heap.size + 1) 34 #[.int .i64 6, .int .i64 (Go.RowKit.wrap64 (t + x / 16)), .int .i64 0, .int .i64 0, .int .i64 0, .int .i64 0, .int .i64 0, .int .i64 0, .bool false]) := Lib.hid (by rw [← hw3]; exact KE2.out.drew)
  have sz3 := KE3.out.lt
  have hb3 : b < w3.heap.size := Nat.lt_of_lt_of_le hb HB3.out.size
  clear hb2 hk2
  have v0 := Zv KE3.out 0 (.int .i64 6)
  by_cases h5 : L.length < 4
  · have d5 : decide ((L.length : Int) + 1 < 5) = true := by simp; omega
    obtain ⟨wz, hwz⟩ : ∃ W, w3.setRow w.heap.size #[.int .i64 6, .int .i64 (Go.RowKit.wrap64 (t + x / 16)), .int .i64 0, .int .i64 0, .int .i64 0, .int .i64 0, .int .i64 0, .int .i64 0, .bool false] = W := ⟨_, rfl⟩
    have HWz := Lib.hid hwz
    have v0 := Zv KE3.out 0 (.int .i64 6)
    have v1 := Zv KE3.out 1 (.int .i64 (Go.RowKit.wrap64 (t + x / 16)))
    have v2 := Zv KE3.out 2 (.int .i64 0)
    have v3 := Zv KE3.out 3 (.int .i64 0)
    have v4 := Zv KE3.out 4 (.int .i64 0)
    have v5 := Zv KE3.out 5 (.int .i64 0)
    have v6 := Zv KE3.out 6 (.int .i64 0)
    have v7 := Zv KE3.out 7 (.int .i64 0)
    have v8 := Zv KE3.out 8 (.bool false)
    clear hwz
    go_wp2_with (refine Zw KR3.out HWz.out ?_)
    refine bodyPost_ret (ret_cell_tmp rfl w.heap.size #[.int .i64 6, .int .i64 (Go.RowKit.wrap64 (t + x / 16)), .int .i64 0, .int .i64 0, .int .i64 0, .int .i64 0, .int .i64 0, .int .i64 0, .bool false] (.int .i64 0) (by kernel_rfl) (by kernel_rfl) (by rw [← HWz.out]; exact KR3.out.put _) Try.underlying34 rfl (by kernel_rfl)) (by kernel_rfl) ?_
    exact ⟨⟨6, (Go.RowKit.wrap64 (t + x / 16)), 0, 0, 0, Y.zp⟩, 0, rfl, N.ones_few6 hk h5, by rw [← HWz.out]; exact below_put HB3.out HB3.out.size (Nat.le_refl _) _⟩
  · have d5 : decide ((L.length : Int) + 1 < 5) = false := by simp; omega
    match L, h5 with
    | [], h => simp at h
    | [_], h => simp at h
    | [_, _], h => simp at h
    | [_, _, _], h => simp at h
    | y1 :: y2 :: y3 :: y4 :: L, _ =>
    simp only [List.length_cons]
    have i4 := HI.out y4 (by simp)
    obtain ⟨i0, i1⟩ := i4
    have g1 := (HB3.out.cell (p := ⟨b, off + 1, none⟩) hb).trans (N.cells_of HR.out rfl 1 y1 rfl)
    have g2 := (HB3.out.cell (p := ⟨b, off + 2, none⟩) hb).trans (N.cells_of HR.out rfl 2 y2 rfl)
    have g3 := (HB3.out.cell (p := ⟨b, off + 3, none⟩) hb).trans (N.cells_of HR.out rfl 3 y3 rfl)
    have g4 := (HB3.out.cell (p := ⟨b, off + 4, none⟩) hb).trans (N.cells_of HR.out rfl 4 y4 rfl)
    have l1 : (1 : Int) < (L.length : Int) + 1 + 1 + 1 + 1 + 1 := by omega
    have l2 : (2 : Int) < (L.length : Int) + 1 + 1 + 1 + 1 + 1 := by omega
    have l3 : (3 : Int) < (L.length : Int) + 1 + 1 + 1 + 1 + 1 := by omega
    have l4 : (4 : Int) < (L.length : Int) + 1 + 1 + 1 + 1 + 1 := by omega
    have d5 : decide ((L.length : Int) + 1 + 1 + 1 + 1 + 1 < 5) = false := by simp; omega
    by_cases h4 : 1 < y4
    · have d6 : decide (1 < y4) = true := decide_eq_true h4
      obtain ⟨wz, hwz⟩ : ∃ W, w3.setRow w.heap.size #[.int .i64 6, .int .i64 (Go.RowKit.wrap64 (t + x / 16)), .int .i64 0, .int .i64 0, .int .i64 0, .int .i64 0, .int .i64 0, .int .i64 0, .bool false] = W := ⟨_, rfl⟩
      have HWz := Lib.hid hwz
      have v0 := Zv KE3.out 0 (.int .i64 6)
      have v1 := Zv KE3.out 1 (.int .i64 (Go.RowKit.wrap64 (t + x / 16)))
      have v2 := Zv KE3.out 2 (.int .i64 0)
      have v3 := Zv KE3.out 3 (.int .i64 0)
      have v4 := Zv KE3.out 4 (.int .i64 0)
      have v5 := Zv KE3.out 5 (.int .i64 0)
      have v6 := Zv KE3.out 6 (.int .i64 0)
      have v7 := Zv KE3.out 7 (.int .i64 0)
      have v8 := Zv KE3.out 8 (.bool false)
      clear hwz
      go_wp2_with (refine Zw KR3.out HWz.out ?_)
      refine bodyPost_ret (ret_cell_tmp rfl w.heap.size #[.int .i64 6, .int .i64 (Go.RowKit.wrap64 (t + x / 16)), .int .i64 0, .int .i64 0, .int .i64 0, .int .i64 0, .int .i64 0, .int .i64 0, .bool false] (.int .i64 0) (by kernel_rfl) (by kernel_rfl) (by rw [← HWz.out]; exact KR3.out.put _) Try.underlying34 rfl (by kernel_rfl)) (by kernel_rfl) ?_
      exact ⟨⟨6, (Go.RowKit.wrap64 (t + x / 16)), 0, 0, 0, Y.zp⟩, 0, rfl, N.ones_pair hk h4, by rw [← HWz.out]; exact below_put HB3.out HB3.out.size (Nat.le_refl _) _⟩
    · have d6 : decide (1 < y4) = false := decide_eq_false h4
      have s5 := Zv KE3.out 5 (.int .i64 0)
      have s6 := Zv KE3.out 6 (.int .i64 0)
      have s7 := Zv KE3.out 7 (.int .i64 0)
      have s8 := Zv KE3.out 8 (.bool false)
      have z5 := KE3.out.frozen 5
      have z6 := KE3.out.frozen 6
      have z7 := KE3.out.frozen 7
      have z8 := KE3.out.frozen 8
      go_wp2_with fail
      go_region
      obtain ⟨w4, hw4⟩ : ∃ W, World.drew ((((w3.setCell ⟨w.heap.size + 1, 5, none⟩ (.int .i64 y1)).setCell ⟨w.heap.size + 1, 6, none⟩ (.int .i64 y2)).setCell ⟨w.heap.size + 1, 7, none⟩ (.int .i64 y3)).setCell ⟨w.heap.size + 1, 8, none⟩ (.bool (y4 == 1))) = W := ⟨_, rfl⟩
      have KE4 : Hid (Blok w4 (w.heap.size + 1) 34 #[.int .i64 6, .int .i64 (Go.RowKit.wrap64 (t + x / 16)), .int .i64 0, .int .i64 0, .int .i64 0, .int .i64 y1, .int .i64 y2, .int .i64 y3, .bool (y4 == 1)]) := Lib.hid (by rw [← hw4]; simpa using ((((KE3.out.set 5 (.int .i64 y1)).set 6 (.int .i64 y2)).set 7 (.int .i64 y3)).set 8 (.bool (y4 == 1))).drew)
      have KR4 : Hid (Blok w4 w.heap.size 34 #[.int .i64 0, .int .i64 0, .int .i64 0, .int .i64 0, .int .i64 0, .int .i64 0, .int .i64 0, .int .i64 0, .bool false]) := Lib.hid (by rw [← hw4]; exact ((((KR3.out.far (by simp) _).far (by simp) _).far (by simp) _).far (by simp) _).drew)
      have HB4 : Hid (Below w.heap.size w w4) := Lib.hid (by rw [← hw4]; exact ((((HB3.out.setCell (by simp) _).setCell (by simp) _).setCell (by simp) _).setCell (by simp) _).drew)
      clear s5 s6 s7 s8 z5 z6 z7 z8 g1 g2 g3 g4
      obtain ⟨wz, hwz⟩ : ∃ W, w4.setRow w.heap.size #[.int .i64 6, .int .i64 (Go.RowKit.wrap64 (t + x / 16)), .int .i64 0, .int .i64 0, .int .i64 0, .int .i64 y1, .int .i64 y2, .int .i64 y3, .bool (y4 == 1)] = W := ⟨_, rfl⟩
      have HWz := Lib.hid hwz
      have v0 := Zv KE4.out 0 (.int .i64 6)
      have v1 := Zv KE4.out 1 (.int .i64 (Go.RowKit.wrap64 (t + x / 16)))
      have v2 := Zv KE4.out 2 (.int .i64 0)
      have v3 := Zv KE4.out 3 (.int .i64 0)
      have v4 := Zv KE4.out 4 (.int .i64 0)
      have v5 := Zv KE4.out 5 (.int .i64 y1)
      have v6 := Zv KE4.out 6 (.int .i64 y2)
      have v7 := Zv KE4.out 7 (.int .i64 y3)
      have v8 := Zv KE4.out 8 (.bool (y4 == 1))
      clear hwz
      go_wp2_with (refine Zw KR4.out HWz.out ?_)
      refine bodyPost_ret (ret_cell_tmp rfl w.heap.size #[.int .i64 6, .int .i64 (Go.RowKit.wrap64 (t + x / 16)), .int .i64 0, .int .i64 0, .int .i64 0, .int .i64 y1, .int .i64 y2, .int .i64 y3, .bool (y4 == 1)] (.int .i64 5) (by kernel_rfl) (by kernel_rfl) (by rw [← HWz.out]; exact KR4.out.put _) Try.underlying34 rfl (by kernel_rfl)) (by kernel_rfl) ?_
      exact ⟨⟨6, (Go.RowKit.wrap64 (t + x / 16)), 0, 0, 0, ⟨y1, y2, y3, y4 == 1⟩⟩, 5, rfl, N.ones_yes (by unfold N.one N.body; simp only [List.headD_cons, List.tail_cons, hk]; rfl) (by simp) (by decide), by rw [← HWz.out]; exact below_put HB4.out HB4.out.size (Nat.le_refl _) _⟩
set_option maxRecDepth 100000 in
set_option maxHeartbeats 600000 in
theorem refOne_7 (a : Option Addr) (c : Nat) (t x kd : Int) (L : List Int) (w : World) (h : RowIn .i64 w a c (x :: L)) (hL : L.length ≤ 1000) (hx : M.isn x) (hk7 : 7 ≤ kd) (hk : x % 16 = kd) (hi : ∀ z ∈ L, M.isn z) :
    Calls Try.prog 28 #[.int .i64 t, .slice a (L.length + 1) c] w (N.OneIs t (x :: L) w) := by
  obtain ⟨b, off, rfl, hb, hc⟩ := row_at h (i := 0) (by simp)
  have hc0 : w.cell? ⟨b, off, none⟩ = some (.int .i64 x) := by simpa using hc
  have k0 : (0 : Int) < (L.length : Int) + 1 := by omega
  obtain ⟨x0, x1⟩ := hx
  obtain ⟨w1, hw1, hb1, hk1⟩ := Zn w 34 #[.int .i64 0, .int .i64 0, .int .i64 0, .int .i64 0, .int .i64 0, .int .i64 0, .int .i64 0, .int .i64 0, .bool false]
  have e1 : w1.heap.size = w.heap.size + 1 := by rw [← hw1]; simp
  have hc1 := (hb1.cell (p := ⟨b, off, none⟩) hb).trans hc0
  have hc2 : (w1.alloc (.cells #[.int .i64 0, .int .i64 0, .int .i64 0, .int .i64 0, .int .i64 0, .int .i64 0, .int .i64 0, .int .i64 0, .bool false] 34)).cell? ⟨b, off, none⟩ = some (.int .i64 x) := (((Below.refl w1.heap.size w1).alloc (Nat.le_refl _) _).cell (p := ⟨b, off, none⟩) (Nat.lt_of_lt_of_le hb hb1.size)).trans hc1
  have HR := Lib.hid h
  have HI := Lib.hid hi
  have HB1 := Lib.hid hb1
  have KR1 := Lib.hid hk1
  clear hc hc0 h hi hb1 hk1
  go_enter Try.func28, Try.ntmps28
  go_wp2_with fail
  go_region
  clear hc1 hc2
  obtain ⟨w2, hw2, hb2, hk2⟩ := Zn w1 34 #[.int .i64 kd, .int .i64 (Go.RowKit.wrap64 (t + x / 16)), .int .i64 0, .int .i64 0, .int .i64 0, .int .i64 0, .int .i64 0, .int .i64 0, .bool false]
  have HB2 := Zt HB1 hb2
  have KR2 := Zk KR1 hb2
  rw [e1] at hk2
  have KE2 := Lib.hid hk2
  obtain ⟨w3, hw3⟩ : ∃ W, World.drew w2 = W := ⟨_, rfl⟩
  have HB3 : Hid (Below w.heap.size w w3) := Lib.hid (by rw [← hw3]; exact HB2.out.drew)
  have KR3 : Hid (Blok w3 w.heap.size 34 #[.int .i64 0, .int .i64 0, .int .i64 0, .int .i64 0, .int .i64 0, .int .i64 0, .int .i64 0, .int .i64 0, .bool false]) := Lib.hid (by rw [← hw3]; exact KR2.out.drew)
  have KE3 : Hid (Blok w3 (w.heap.size + 1) 34 #[.int .i64 kd, .int .i64 (Go.RowKit.wrap64 (t + x / 16)), .int .i64 0, .int .i64 0, .int .i64 0, .int .i64 0, .int .i64 0, .int .i64 0, .bool false]) := Lib.hid (by rw [← hw3]; exact KE2.out.drew)
  have sz3 := KE3.out.lt
  have hb3 : b < w3.heap.size := Nat.lt_of_lt_of_le hb HB3.out.size
  clear hb2 hk2
  have v0 := Zv KE3.out 0 (.int .i64 kd)
  have n6 : (kd == 6) = false := by simp; omega
  have n0' : (kd == 0) = false := by simp; omega
  have m0' : (kd = 0) = False := by simp; omega
  have n1' : (kd == 1) = false := by simp; omega
  have m1' : (kd = 1) = False := by simp; omega
  have n2' : (kd == 2) = false := by simp; omega
  have m2' : (kd = 2) = False := by simp; omega
  have n4' : (kd == 4) = false := by simp; omega
  have m4' : (kd = 4) = False := by simp; omega
  have n6' : (kd == 6) = false := by simp; omega
  have m6' : (kd = 6) = False := by simp; omega
  cases L with
  | nil =>
    simp only [List.length_nil]
    obtain ⟨wz, hwz⟩ : ∃ W, w3.setRow w.heap.size #[.int .i64 kd, .int .i64 (Go.RowKit.wrap64 (t + x / 16)), .int .i64 0, .int .i64 0, .int .i64 0, .int .i64 0, .int .i64 0, .int .i64 0, .bool false] = W := ⟨_, rfl⟩
    have HWz := Lib.hid hwz
    have v0 := Zv KE3.out 0 (.int .i64 kd)
    have v1 := Zv KE3.out 1 (.int .i64 (Go.RowKit.wrap64 (t + x / 16)))
    have v2 := Zv KE3.out 2 (.int .i64 0)
    have v3 := Zv KE3.out 3 (.int .i64 0)
    have v4 := Zv KE3.out 4 (.int .i64 0)
    have v5 := Zv KE3.out 5 (.int .i64 0)
    have v6 := Zv KE3.out 6 (.int .i64 0)
    have v7 := Zv KE3.out 7 (.int .i64 0)
    have v8 := Zv KE3.out 8 (.bool false)
    clear hwz
    go_wp2_with (refine Zw KR3.out HWz.out ?_)
    refine bodyPost_ret (ret_cell_tmp rfl w.heap.size #[.int .i64 kd, .int .i64 (Go.RowKit.wrap64 (t + x / 16)), .int .i64 0, .int .i64 0, .int .i64 0, .int .i64 0, .int .i64 0, .int .i64 0, .bool false] (.int .i64 0) (by kernel_rfl) (by kernel_rfl) (by rw [← HWz.out]; exact KR3.out.put _) Try.underlying34 rfl (by kernel_rfl)) (by kernel_rfl) ?_
    exact ⟨⟨kd, (Go.RowKit.wrap64 (t + x / 16)), 0, 0, 0, Y.zp⟩, 0, rfl, N.ones_few rfl, by rw [← HWz.out]; exact below_put HB3.out HB3.out.size (Nat.le_refl _) _⟩
  | cons y L =>
    have HN := HI.out y (by simp)
    obtain ⟨y0, y1⟩ := HN
    have hw := N.cells_of HR.out rfl 1 y rfl
    have hy3 := (HB3.out.cell (p := ⟨b, off + 1, none⟩) hb).trans hw
    have k1 : (1 : Int) < (L.length : Int) + 1 + 1 := by omega
    have d2 : decide ((L.length : Int) + 1 + 1 < 2) = false := by simp; omega
    simp only [List.length_cons]
    clear hw
    obtain ⟨w4, hw4⟩ : ∃ W, w3.setCell ⟨w.heap.size + 1, 2, none⟩ (.int .i64 y) = W := ⟨_, rfl⟩
    have hg4 : w3.grownBy w4 (some (w.heap.size + 1)) := by rw [← hw4]; exact grown_set1 _ _ _ _
    have HB4 := Lib.hid (HB3.out.grown hg4 HB3.out.size fun q hq => by cases hq; omega)
    have KR4 := Lib.hid (KR3.out.grown hg4 (by simp))
    have KE4 : Hid (Blok w4 (w.heap.size + 1) 34 #[.int .i64 kd, .int .i64 (Go.RowKit.wrap64 (t + x / 16)), .int .i64 y, .int .i64 0, .int .i64 0, .int .i64 0, .int .i64 0, .int .i64 0, .bool false]) := Lib.hid (by rw [← hw4]; simpa using KE3.out.set 2 (.int .i64 y))
    have hy4 := N.cell_kept hg4 (Nat.lt_of_lt_of_le hb HB3.out.size) (by have := HB1.out.size; omega) hy3
    have p4 := Zv KE3.out 2 (.int .i64 0)
    have z4 := KE3.out.frozen 2
    clear hg4
    obtain ⟨wz, hwz⟩ : ∃ W, w4.setRow w.heap.size #[.int .i64 kd, .int .i64 (Go.RowKit.wrap64 (t + x / 16)), .int .i64 y, .int .i64 0, .int .i64 0, .int .i64 0, .int .i64 0, .int .i64 0, .bool false] = W := ⟨_, rfl⟩
    have HWz := Lib.hid hwz
    have v0 := Zv KE4.out 0 (.int .i64 kd)
    have v1 := Zv KE4.out 1 (.int .i64 (Go.RowKit.wrap64 (t + x / 16)))
    have v2 := Zv KE4.out 2 (.int .i64 y)
    have v3 := Zv KE4.out 3 (.int .i64 0)
    have v4 := Zv KE4.out 4 (.int .i64 0)
    have v5 := Zv KE4.out 5 (.int .i64 0)
    have v6 := Zv KE4.out 6 (.int .i64 0)
    have v7 := Zv KE4.out 7 (.int .i64 0)
    have v8 := Zv KE4.out 8 (.bool false)
    clear hwz
    go_wp2_with (refine Zw KR4.out HWz.out ?_)
    refine bodyPost_ret (ret_cell_tmp rfl w.heap.size #[.int .i64 kd, .int .i64 (Go.RowKit.wrap64 (t + x / 16)), .int .i64 y, .int .i64 0, .int .i64 0, .int .i64 0, .int .i64 0, .int .i64 0, .bool false] (.int .i64 2) (by kernel_rfl) (by kernel_rfl) (by rw [← HWz.out]; exact KR4.out.put _) Try.underlying34 rfl (by kernel_rfl)) (by kernel_rfl) ?_
    exact ⟨⟨kd, (Go.RowKit.wrap64 (t + x / 16)), y, 0, 0, Y.zp⟩, 2, rfl, N.ones_far (by omega) (by simp) (by decide), by rw [← HWz.out]; exact below_put HB4.out HB4.out.size (Nat.le_refl _) _⟩
theorem refOne_any (a : Option Addr) (c : Nat) (t : Int) (L : List Int) (w : World) (h : RowIn .i64 w a c L) (h0 : L ≠ []) (hL : L.length ≤ 1000) (hi : ∀ z ∈ L, M.isn z) :
    Calls Try.prog 28 #[.int .i64 t, .slice a L.length c] w (N.OneIs t L w) := by
  cases L with
  | nil => exact absurd rfl h0
  | cons x L =>
    have hx := hi x (by simp)
    have hi' : ∀ z ∈ L, M.isn z := fun z hz => hi z (by simp [hz])
    simp only [List.length_cons] at hL
    have h8 : x % 16 = 0 ∨ x % 16 = 1 ∨ x % 16 = 2 ∨ x % 16 = 3 ∨ x % 16 = 4 ∨ x % 16 = 5 ∨ x % 16 = 6 ∨ 7 ≤ x % 16 := by have := hx.1; omega
    rcases h8 with hk | hk | hk | hk | hk | hk | hk | hk
    · exact refOne_0 a c t x L w h (by omega) hx hk hi'
    · exact refOne_1 a c t x L w h (by omega) hx hk hi'
    · exact refOne_2 a c t x L w h (by omega) hx hk hi'
    · exact refOne_3 a c t x L w h (by omega) hx hk hi'
    · exact refOne_4 a c t x L w h (by omega) hx hk hi'
    · exact refOne_5 a c t x L w h (by omega) hx hk hi'
    · exact refOne_6 a c t x L w h (by omega) hx hk hi'
    · exact refOne_7 a c t x _ L w h (by omega) hx hk rfl hi'
end Go.Proofs.Ytebiogadkamgcaa
