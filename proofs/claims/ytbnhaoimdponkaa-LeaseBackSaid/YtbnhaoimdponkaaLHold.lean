/-
  lease.Hold.
-/
import Derived.Test.YtbnhaoimdponkaaLFind
import Derived.Test.YtbnhaoimdponkaaLIns3
namespace Go.Proofs.Ytbnhaoimdponkaa
open Go.RowKit

theorem hold_math (l : List L.T3) (x : L.T3) (o : List L.T3) (sp : Nat) (ho : L.others l x.a x.b = o) (hs : o.findIdx (L.behind x.a x.b) = sp) : L.hold l x = o.take sp ++ x :: o.drop sp := by
  unfold L.hold; rw [ho, hs]
set_option maxRecDepth 100000 in
set_option maxHeartbeats 400000 in
theorem hold_any (a : Option Addr) (n c : Nat) (l k : List L.T3) (x : L.T3) (n2 : Nat) (hk : L.hold l x = k) (hn2 : k.length = n2) (w : World) (h : RIn w a n c l) (hn : n ≤ 800) :
    Calls Try.prog 25 #[.slice a n c, L.val3 x] w fun e w' => ∃ a2 c2, e = .returned (.slice a2 n2 c2) ∧ Hid (RIn w' a2 n2 c2 k) ∧ Below w.heap.size w w' := by
  have HT := Lib.hid h
  have hl := h.1
  obtain ⟨o, ho⟩ : ∃ o, L.others l x.a x.b = o := ⟨_, rfl⟩
  obtain ⟨m, hm⟩ : ∃ m, o.length = m := ⟨_, rfl⟩
  obtain ⟨sp, hsp⟩ : ∃ sp, o.findIdx (L.behind x.a x.b) = sp := ⟨_, rfl⟩
  have hmn : m ≤ n := by rw [← hm, ← ho, ← hl]; exact List.length_filter_le _ _
  have hspm : sp ≤ m := by rw [← hsp, ← hm]; exact List.findIdx_le_length
  rw [hold_math l x o sp ho hsp] at hk
  subst hk
  have HN2 : Hid (m + 1 = n2) := Lib.hid (by rw [← hn2, List.length_append, List.length_cons, List.length_take, List.length_drop]; omega)
  have hat : L.at1 (L.behind x.a x.b) o (m : Int) = (sp : Int) := by rw [← hm, L.at1_len, hsp]
  have hof : l.filter (fun y => !L.isOf x.a x.b y) = o := ho
  obtain ⟨W0, hW0⟩ : ∃ W, (w.alloc (.cells #[.int .i64 x.a, .int .i64 x.b, .int .i64 x.x] 45)) = W := ⟨_, rfl⟩
  have B0 : Below w.heap.size w W0 := by rw [← hW0]; exact (Below.refl _ w).alloc (Nat.le_refl _) _
  have s0 : W0.heap.size = w.heap.size + 1 := by rw [← hW0]; simp
  have K0 : L.Bx W0 w.heap.size 45 x := by rw [← hW0]; exact Blok.new w _ _
  obtain ⟨W1, hW1⟩ : ∃ W, W0.alloc (.cells #[.int .i64 x.a, .int .i64 x.b] 60) = W := ⟨_, rfl⟩
  have B1 : Below W0.heap.size W0 W1 := by rw [← hW1]; exact (Below.refl _ W0).alloc (Nat.le_refl _) _
  have K1 : Blok W1 (w.heap.size + 1) 60 #[.int .i64 x.a, .int .i64 x.b] := by rw [← hW1, ← s0]; exact Blok.new W0 _ _
  have HB1 := Lib.hid (B0.trans (B1.mono B0.size))
  have HX1 : Hid (L.Bx W1 w.heap.size 45 x) := Lib.hid (Blok.below K0 B1 (Blok.lt K0))
  have HK1 := Lib.hid K1
  have x0 : W0.cell? ⟨w.heap.size, 0, none⟩ = some (.int .i64 x.a) := Blok.cell K0 0
  have x1 : W0.cell? ⟨w.heap.size, 1, none⟩ = some (.int .i64 x.b) := Blok.cell K0 1
  have c1 := helds_is a n c l W1 (HT.out.below HB1.out) (by omega)
  unfold L.val3
  clear h ho hn2 hsp B0 K0 B1 K1
  go_enter Try.func25, Try.ntmps25
  go_wp2_with fail
  try rw [hW1]
  refine c1.mono ?_
  rintro e w2 ⟨a2, c2, rfl, hr2, hb2, -⟩
  have HB2 := Lib.hid (HB1.out.trans (hb2.mono HB1.out.size))
  have HX2 : Hid (L.Bx w2 w.heap.size 45 x) := Lib.hid (Blok.below HX1.out hb2 (Blok.lt HX1.out))
  have HK2 : Hid (Blok w2 (w.heap.size + 1) 60 #[.int .i64 x.a, .int .i64 x.b]) := Lib.hid (HK1.out.below hb2 HK1.out.lt)
  have cp := kept_any (w2.heap.size + 2) a2 n c2 l 50 (enters_of Try.func50 (by kernel_rfl) rfl) #[.pointer (some ⟨w.heap.size + 1, 0, none⟩)] _ w2 hr2.out (hold1 (w.heap.size + 1) x.a x.b w2 HK2.out w2.heap.size (w2.heap.size + 2) HK2.out.lt (by have := HK2.out.lt; omega)) ⟨by omega, by omega⟩ (hr2.out.off (by omega))
  clear c1 hb2 hW0 hW1 x0 x1
  go_wp2_with fail
  refine cp.mono ?_
  rintro e w3 ⟨bl, rfl, hG, hb3, hs3⟩
  have HB3 := Lib.hid (HB2.out.trans (hb3.mono HB2.out.size))
  have HX3 : Hid (L.Bx w3 w.heap.size 45 x) := Lib.hid (Blok.below HX2.out hb3 (Blok.lt HX2.out))
  have HK3 : Hid (Blok w3 (w.heap.size + 1) 60 #[.int .i64 x.a, .int .i64 x.b]) := Lib.hid (HK2.out.below hb3 HK2.out.lt)
  have cf := picked_any a n c l o 62 enters_kept bl _ _ _ hof w3 (HT.out.below HB3.out) hG (by omega) (by omega)
  clear cp hG hb3 hs3
  go_wp2_with fail
  refine cf.mono ?_
  rintro e w4 ⟨v, rfl, ho4, hb4⟩
  rw [hm] at ho4
  have HB4 := Lib.hid (HB3.out.trans (hb4.mono HB3.out.size))
  have HO4 : Hid (w4.ownsRow w3.heap.size 45 3 v m (L.flat o)) := Lib.hid ho4.out
  have HX4 : Hid (L.Bx w4 w.heap.size 45 x) := Lib.hid (Blok.below HX3.out hb4 (Blok.lt HX3.out))
  have HK4 : Hid (Blok w4 (w.heap.size + 1) 60 #[.int .i64 x.a, .int .i64 x.b]) := Lib.hid (HK3.out.below hb4 HK3.out.lt)
  have hw3 : w.heap.size < w3.heap.size := Blok.lt HX3.out
  have s34 := hb4.size
  clear cf hb4 ho4
  obtain ⟨a4, c4, hv, hr4⟩ := own_t3 HO4.out hm
  subst hv
  have HR4 := Lib.hid hr4
  have c5 := helds_is a4 m c4 o w4 hr4 (by omega)
  clear hr4
  go_wp2_with fail
  refine c5.mono ?_
  rintro e w5 ⟨a5, c5', rfl, hr5, hb5, -⟩
  have HB5 := Lib.hid (HB4.out.trans (hb5.mono HB4.out.size))
  have HO5 := Lib.hid (ownsRow_below HO4.out hb5)
  have HX5 : Hid (L.Bx w5 w.heap.size 45 x) := Lib.hid (Blok.below HX4.out hb5 (Blok.lt HX4.out))
  have HK5 : Hid (Blok w5 (w.heap.size + 1) 60 #[.int .i64 x.a, .int .i64 x.b]) := Lib.hid (HK4.out.below hb5 HK4.out.lt)
  have cp := kept_any (w5.heap.size + 2) a5 m c5' o 51 (enters_of Try.func51 (by kernel_rfl) rfl) #[.pointer (some ⟨w.heap.size + 1, 0, none⟩)] _ w5 hr5.out (hold2 (w.heap.size + 1) x.a x.b w5 HK5.out w5.heap.size (w5.heap.size + 2) HK5.out.lt (by have := HK5.out.lt; omega)) ⟨by omega, by omega⟩ (hr5.out.off (by omega))
  have s45 := hb5.size
  clear c5 hb5
  go_wp2_with fail
  refine cp.mono ?_
  rintro e w6 ⟨bl2, rfl, hG, hb6, hs6⟩
  have HB6 := Lib.hid (HB5.out.trans (hb6.mono HB5.out.size))
  have HO6 := Lib.hid (ownsRow_below HO5.out hb6)
  have HX6 : Hid (L.Bx w6 w.heap.size 45 x) := Lib.hid (Blok.below HX5.out hb6 (Blok.lt HX5.out))
  have cf := lfirst_any 62 enters_kept bl2 _ _ _ _ (m : Int) (sp : Int) w6 hG (by omega) (by rw [L.hd_pl]; exact hat)
  have s56 := hb6.size
  clear cp hG hb6
  go_wp2_with fail
  refine cf.mono ?_
  rintro e w7 ⟨rfl, hb7⟩
  have HB7 := Lib.hid (HB6.out.trans (hb7.mono HB6.out.size))
  have HO7 := Lib.hid (ownsRow_below HO6.out hb7)
  have KX7 : L.Bx w7 w.heap.size 45 x := Blok.below HX6.out hb7 (Blok.lt HX6.out)
  have y0 : w7.cell? ⟨w.heap.size, 0, none⟩ = some (.int .i64 x.a) := Blok.cell KX7 0
  have y1 : w7.cell? ⟨w.heap.size, 1, none⟩ = some (.int .i64 x.b) := Blok.cell KX7 1
  have y2 : w7.cell? ⟨w.heap.size, 2, none⟩ = some (.int .i64 x.x) := Blok.cell KX7 2
  have s37 : w3.heap.size ≤ w7.heap.size := by have := hb7.size; omega
  clear cf hb7
  obtain ⟨W8, hW8⟩ : ∃ W, w7.alloc (.cells #[.int .i64 x.a, .int .i64 x.b, .int .i64 x.x] 45) = W := ⟨_, rfl⟩
  have B8 : Below w7.heap.size w7 W8 := by rw [← hW8]; exact (Below.refl _ w7).alloc (Nat.le_refl _) _
  have K8 : L.Bx W8 w7.heap.size 45 x := by rw [← hW8]; exact Blok.new w7 _ _
  have HB8 := Lib.hid (HB7.out.trans (B8.mono HB7.out.size))
  have ci := ins3_any (.slice a4 m c4) m sp w7.heap.size w3.heap.size 45 o x W8 (ownsRow_below HO7.out B8) hm (by omega) hspm (Nat.le_trans s37 B8.size) K8 (fun e => by have := (HO7.out.lt _ e).2; omega)
  clear B8 K8
  go_wp2_with fail
  try rw [hW8]
  refine ci.mono ?_
  rintro e w9 ⟨g, cg, rfl, ho9, hg9⟩
  have HB9 : Hid (Below w.heap.size w w9) := Lib.hid (HB8.out.grown hg9.out HB8.out.size (fun i hi => by have := (HO7.out.lt i hi).1; omega))
  obtain ⟨a9, c9, he9, hr9⟩ := own_t3 ho9.out (by rw [List.length_append, List.length_cons, List.length_take, List.length_drop]; omega)
  cases he9
  have HR9 := Lib.hid hr9
  have hN2 := HN2.out
  subst hN2
  clear ci hr9 ho9 hg9
  go_wp2
  go_ret
  exact ⟨_, _, rfl, HR9, HB9.out⟩
end Go.Proofs.Ytbnhaoimdponkaa
