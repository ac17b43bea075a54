/-
  The closures: what they answer.
-/
import Derived.Test.YtbnhaoimdponkaaLCl
namespace Go.Proofs.Ytbnhaoimdponkaa
open Go.RowKit

set_option maxHeartbeats 400000 in
theorem find1 (B : Nat) (a b : Int) (W0 : World) (hB : Blok W0 B 60 #[.int .i64 a, .int .i64 b]) (H X : Nat) (hH : B < H) (hX : B ≠ X) : Asks H X 37 #[.pointer (some ⟨B, 0, none⟩)] (fun x => L.isOf a b x) W0 := by
  intro W hW x
  have HB := Lib.hid (hW.blok hB hH hX)
  obtain ⟨r, hr⟩ : ∃ r, L.isOf a b x = r := ⟨_, rfl⟩
  have c1 := fun V => isOf_any x a b r hr V
  have HR := Lib.hid hr
  clear hB hW hr hH hX
  obtain ⟨V, hV⟩ : ∃ V, W.alloc (.cells #[.int .i64 x.a, .int .i64 x.b, .int .i64 x.x] 66) = V := ⟨_, rfl⟩
  have HV : Hid (Below W.heap.size W V) := Lib.hid (by rw [← hV]; exact (Below.refl _ W).alloc (Nat.le_refl _) _)
  have b0 : V.cell? ⟨B, 0, none⟩ = some (.int .i64 a) := (HB.out.below HV.out HB.out.lt).cell 0
  have b1 : V.cell? ⟨B, 1, none⟩ = some (.int .i64 b) := (HB.out.below HV.out HB.out.lt).cell 1
  have x0 : V.cell? ⟨W.heap.size, 0, none⟩ = some (.int .i64 x.a) := by rw [← hV]; exact (Blok.new W _ _).cell 0
  have x1 : V.cell? ⟨W.heap.size, 1, none⟩ = some (.int .i64 x.b) := by rw [← hV]; exact (Blok.new W _ _).cell 1
  unfold L.val3
  go_enter Try.func37, Try.ntmps37
  go_wp2_with fail
  refine (c1 _).mono ?_
  rintro e w2 ⟨rfl, hb2⟩
  have HB2 := Lib.hid (HV.out.trans (hb2.mono HV.out.size))
  clear c1 hb2
  go_wp2
  go_ret
  exact ⟨by rw [HR.out]; rfl, HB2.out⟩
set_option maxHeartbeats 400000 in
theorem put1 (B : Nat) (a b : Int) (W0 : World) (hB : Blok W0 B 60 #[.int .i64 a, .int .i64 b]) (H X : Nat) (hH : B < H) (hX : B ≠ X) : Asks H X 33 #[.pointer (some ⟨B, 0, none⟩)] (fun x => L.behind a b x) W0 := by
  intro W hW x
  have HB := Lib.hid (hW.blok hB hH hX)
  obtain ⟨r, hr⟩ : ∃ r, L.behind a b x = r := ⟨_, rfl⟩
  have c1 := fun V => behind_any x a b r hr V
  have HR := Lib.hid hr
  clear hB hW hr hH hX
  obtain ⟨V, hV⟩ : ∃ V, W.alloc (.cells #[.int .i64 x.a, .int .i64 x.b, .int .i64 x.x] 66) = V := ⟨_, rfl⟩
  have HV : Hid (Below W.heap.size W V) := Lib.hid (by rw [← hV]; exact (Below.refl _ W).alloc (Nat.le_refl _) _)
  have b0 : V.cell? ⟨B, 0, none⟩ = some (.int .i64 a) := (HB.out.below HV.out HB.out.lt).cell 0
  have b1 : V.cell? ⟨B, 1, none⟩ = some (.int .i64 b) := (HB.out.below HV.out HB.out.lt).cell 1
  have x0 : V.cell? ⟨W.heap.size, 0, none⟩ = some (.int .i64 x.a) := by rw [← hV]; exact (Blok.new W _ _).cell 0
  have x1 : V.cell? ⟨W.heap.size, 1, none⟩ = some (.int .i64 x.b) := by rw [← hV]; exact (Blok.new W _ _).cell 1
  unfold L.val3
  go_enter Try.func33, Try.ntmps33
  go_wp2_with fail
  refine (c1 _).mono ?_
  rintro e w2 ⟨rfl, hb2⟩
  have HB2 := Lib.hid (HV.out.trans (hb2.mono HV.out.size))
  clear c1 hb2
  go_wp2
  go_ret
  exact ⟨by rw [HR.out]; rfl, HB2.out⟩
set_option maxHeartbeats 400000 in
theorem hold1 (B : Nat) (a b : Int) (W0 : World) (hB : Blok W0 B 60 #[.int .i64 a, .int .i64 b]) (H X : Nat) (hH : B < H) (hX : B ≠ X) : Asks H X 50 #[.pointer (some ⟨B, 0, none⟩)] (fun x => !L.isOf a b x) W0 := by
  intro W hW x
  have HB := Lib.hid (hW.blok hB hH hX)
  obtain ⟨r, hr⟩ : ∃ r, L.isOf a b x = r := ⟨_, rfl⟩
  have c1 := fun V => isOf_any x a b r hr V
  have HR := Lib.hid hr
  clear hB hW hr hH hX
  obtain ⟨V, hV⟩ : ∃ V, W.alloc (.cells #[.int .i64 x.a, .int .i64 x.b, .int .i64 x.x] 80) = V := ⟨_, rfl⟩
  have HV : Hid (Below W.heap.size W V) := Lib.hid (by rw [← hV]; exact (Below.refl _ W).alloc (Nat.le_refl _) _)
  have b0 : V.cell? ⟨B, 0, none⟩ = some (.int .i64 a) := (HB.out.below HV.out HB.out.lt).cell 0
  have b1 : V.cell? ⟨B, 1, none⟩ = some (.int .i64 b) := (HB.out.below HV.out HB.out.lt).cell 1
  have x0 : V.cell? ⟨W.heap.size, 0, none⟩ = some (.int .i64 x.a) := by rw [← hV]; exact (Blok.new W _ _).cell 0
  have x1 : V.cell? ⟨W.heap.size, 1, none⟩ = some (.int .i64 x.b) := by rw [← hV]; exact (Blok.new W _ _).cell 1
  unfold L.val3
  go_enter Try.func50, Try.ntmps50
  go_wp2_with fail
  refine (c1 _).mono ?_
  rintro e w2 ⟨rfl, hb2⟩
  have HB2 := Lib.hid (HV.out.trans (hb2.mono HV.out.size))
  clear c1 hb2
  go_wp2
  go_ret
  exact ⟨by rw [HR.out]; rfl, HB2.out⟩
set_option maxHeartbeats 400000 in
theorem hold2 (B : Nat) (a b : Int) (W0 : World) (hB : Blok W0 B 60 #[.int .i64 a, .int .i64 b]) (H X : Nat) (hH : B < H) (hX : B ≠ X) : Asks H X 51 #[.pointer (some ⟨B, 0, none⟩)] (fun x => L.behind a b x) W0 := by
  intro W hW x
  have HB := Lib.hid (hW.blok hB hH hX)
  obtain ⟨r, hr⟩ : ∃ r, L.behind a b x = r := ⟨_, rfl⟩
  have c1 := fun V => behind_any x a b r hr V
  have HR := Lib.hid hr
  clear hB hW hr hH hX
  obtain ⟨V, hV⟩ : ∃ V, W.alloc (.cells #[.int .i64 x.a, .int .i64 x.b, .int .i64 x.x] 80) = V := ⟨_, rfl⟩
  have HV : Hid (Below W.heap.size W V) := Lib.hid (by rw [← hV]; exact (Below.refl _ W).alloc (Nat.le_refl _) _)
  have b0 : V.cell? ⟨B, 0, none⟩ = some (.int .i64 a) := (HB.out.below HV.out HB.out.lt).cell 0
  have b1 : V.cell? ⟨B, 1, none⟩ = some (.int .i64 b) := (HB.out.below HV.out HB.out.lt).cell 1
  have x0 : V.cell? ⟨W.heap.size, 0, none⟩ = some (.int .i64 x.a) := by rw [← hV]; exact (Blok.new W _ _).cell 0
  have x1 : V.cell? ⟨W.heap.size, 1, none⟩ = some (.int .i64 x.b) := by rw [← hV]; exact (Blok.new W _ _).cell 1
  unfold L.val3
  go_enter Try.func51, Try.ntmps51
  go_wp2_with fail
  refine (c1 _).mono ?_
  rintro e w2 ⟨rfl, hb2⟩
  have HB2 := Lib.hid (HV.out.trans (hb2.mono HV.out.size))
  clear c1 hb2
  go_wp2
  go_ret
  exact ⟨by rw [HR.out]; rfl, HB2.out⟩
set_option maxHeartbeats 400000 in
theorem of1 (B : Nat) (a : Int) (W0 : World) (hB : Blok W0 B 3 #[.int .i64 a]) (H X : Nat) (hH : B < H) (hX : B ≠ X) : Asks H X 47 #[.pointer (some ⟨B, 0, none⟩)] (fun x => (x.x == a)) W0 := by
  intro W hW x
  have HB := Lib.hid (hW.blok hB hH hX)
  obtain ⟨r, hr⟩ : ∃ r, (x.x == a) = r := ⟨_, rfl⟩
  have HR : Hid ((x.x == a) = r) := Lib.hid hr
  clear hB hW hH hX
  obtain ⟨V, hV⟩ : ∃ V, W.alloc (.cells #[.int .i64 x.a, .int .i64 x.b, .int .i64 x.x] 66) = V := ⟨_, rfl⟩
  have HV : Hid (Below W.heap.size W V) := Lib.hid (by rw [← hV]; exact (Below.refl _ W).alloc (Nat.le_refl _) _)
  have b0 : V.cell? ⟨B, 0, none⟩ = some (.int .i64 a) := (HB.out.below HV.out HB.out.lt).cell 0
  have x0 : V.cell? ⟨W.heap.size, 2, none⟩ = some (.int .i64 x.x) := by rw [← hV]; exact (Blok.new W _ _).cell 2
  unfold L.val3
  go_enter Try.func47, Try.ntmps47
  go_wp2_with fail
  go_ret
  exact ⟨by rw [HR.out]; rfl, HV.out⟩
set_option maxHeartbeats 400000 in
theorem clean1 (B : Nat) (a : Int) (W0 : World) (hB : Blok W0 B 3 #[.int .i64 a]) (H X : Nat) (hH : B < H) (hX : B ≠ X) : Asks H X 53 #[.pointer (some ⟨B, 0, none⟩)] (fun x => decide (a < x.x)) W0 := by
  intro W hW x
  have HB := Lib.hid (hW.blok hB hH hX)
  obtain ⟨r, hr⟩ : ∃ r, decide (a < x.x) = r := ⟨_, rfl⟩
  have HR : Hid (decide (a < x.x) = r) := Lib.hid hr
  clear hB hW hH hX
  obtain ⟨V, hV⟩ : ∃ V, W.alloc (.cells #[.int .i64 x.a, .int .i64 x.b, .int .i64 x.x] 80) = V := ⟨_, rfl⟩
  have HV : Hid (Below W.heap.size W V) := Lib.hid (by rw [← hV]; exact (Below.refl _ W).alloc (Nat.le_refl _) _)
  have b0 : V.cell? ⟨B, 0, none⟩ = some (.int .i64 a) := (HB.out.below HV.out HB.out.lt).cell 0
  have x0 : V.cell? ⟨W.heap.size, 2, none⟩ = some (.int .i64 x.x) := by rw [← hV]; exact (Blok.new W _ _).cell 2
  unfold L.val3
  go_enter Try.func53, Try.ntmps53
  go_wp2_with fail
  go_ret
  exact ⟨by rw [HR.out]; rfl, HV.out⟩
end Go.Proofs.Ytbnhaoimdponkaa
