/-
  Walks of moorings/addr.Text, TextAll, at every address and every prefix.
-/
import Derived.Test.YtbaneeedoledoaaDoorAPre
import Derived.Laws.BitsLemmas
namespace Go.Proofs.YtbaneeedoledoaaDoor
open Go.RowKit

def A.txt (a : Int) : List UInt8 := if 0 ≤ a ∧ a < 4294967296 then A.text a.toNat else []
def A.txtAll (b k : Int) : List UInt8 := if A.may b k then A.textAll b.toNat k.toNat else []

theorem i64_and255 (m : Nat) (h : m < 4294967296) : bits .and .i64 (m : Int) 255 = ((m % 256 : Nat) : Int) := by
  have h1 : bits .and .i64 (m : Int) ((255 : Nat) : Int) = ((m &&& 255 : Nat) : Int) := (bits_nat .i64 63 (by decide) (fun n h0 h1 => by rw [IntKind.wrap_i64]; omega) m 255 (by omega) (by decide)).1
  have h2 : m &&& 255 = m % 256 := Nat.and_two_pow_sub_one_eq_mod m 8
  rw [h2] at h1
  exact h1

theorem and24 {n : Nat} (h : n < 4294967296) : bits .and .i64 ((n : Int) / 16777216) 255 = ((n / 16777216 : Nat) : Int) := by
  have := i64_and255 (n / 16777216) (by omega)
  rw [show n / 16777216 % 256 = n / 16777216 by omega] at this
  rw [← this, Int.natCast_ediv]; rfl
theorem and16 {n : Nat} (h : n < 4294967296) : bits .and .i64 ((n : Int) / 65536) 255 = ((n / 65536 % 256 : Nat) : Int) := by
  rw [← i64_and255 (n / 65536) (by omega), Int.natCast_ediv]; rfl
theorem and8 {n : Nat} (h : n < 4294967296) : bits .and .i64 ((n : Int) / 256) 255 = ((n / 256 % 256 : Nat) : Int) := by
  rw [← i64_and255 (n / 256) (by omega), Int.natCast_ediv]; rfl
/-- The four parts of an address's text. -/
def A.pieces (a : Nat) : List (List UInt8) := [A.dg (a / 16777216), A.dg (a / 65536 % 256), A.dg (a / 256 % 256), A.dg (a % 256)]
/-- The cells while they are filled. -/
def A.half (a j : Nat) : List Value := ((A.pieces a).map fun l => Value.string (str l)).take j ++ List.replicate (4 - j) (.string ByteArray.empty)
theorem A.join_pieces (a : Nat) : Lib.join (A.pieces a) [46] = A.text a := by
  unfold A.pieces
  rw [Lib.join_cons]
  simp [Lib.joinTail, A.text]

theorem info9 : (Tryd.prog.info? 9).map (fun i => (i.zero, i.size, i.bytes)) = some (some (.string ByteArray.empty), 1, 16) := by kernel_rfl
theorem A.half_set (a : Nat) {j : Nat} (h : j < 4) : (A.half a j).toArray.setIfInBounds j (.string (str ((A.pieces a).getD j []))) = (A.half a (j + 1)).toArray := by
  have hj4 : j = 0 ∨ j = 1 ∨ j = 2 ∨ j = 3 := by omega
  rcases hj4 with rfl | rfl | rfl | rfl <;> rfl

set_option maxHeartbeats 800000 in
theorem text_any (a : Int) (s : List UInt8) (w : World) (hL : Laid w) (hs : A.txt a = s) :
    Calls Tryd.prog 25 #[.int .i64 a] w fun e w' => e = .returned (.string (str s)) ∧ Below w.heap.size w w' := by
  have HS := Lib.hid hs
  have HL := Lib.hid hL
  clear hL hs
  by_cases h0 : 0 ≤ a ∧ a < 4294967296
  · have HF : Hid (s = A.text a.toNat) := Lib.hid (by rw [← HS.out]; unfold A.txt; rw [if_pos h0])
    have hA := isAddress_any a true w (by simpa using h0)
    obtain ⟨n, rfl⟩ := Int.eq_ofNat_of_zero_le h0.1
    have HF2 : Hid (s = A.text n) := Lib.hid HF.out
    have hn : n < 4294967296 := by omega
    clear h0 HF
    go_enter Tryd.func25, Tryd.ntmps25
    go_wp2_with fail
    refine hA.mono ?_
    rintro e w1 ⟨rfl, rfl⟩
    obtain ⟨i0, hi, hz0, hz1, hz2⟩ := info_parts info9
    go_wp2_with (at_make; refine wpList_make_row _ rfl _ _ 42 rfl 9 i0 (.string ByteArray.empty) Tryd.underlying42 hi hz0 hz1 rfl .i64 .i64 4 rfl rfl (by rw [hz2]; omega) (by omega) ?_)
    go_loopw [11] (fun i wr => ∃ j : Nat, i = .int .i64 j ∧ j ≤ 4 ∧ Hid (Blok wr w.heap.size 9 (A.half n j).toArray) ∧ Hid (Below w.heap.size w wr)) (fun i _ => 4 - (intOf i).toNat)
    case atStart =>
      refine ⟨0, rfl, by omega, Lib.hid ?_, Lib.hid ((Below.refl _ w).alloc (Nat.le_refl _) _)⟩
      have := Blok.new w 9 (madeCells #[.string ByteArray.empty] 4)
      have e : madeCells #[Value.string ByteArray.empty] 4 = (A.half n 0).toArray := by
        apply Array.ext'; rw [toList_madeCells_one]; rfl
      rwa [e] at this ⊢
    case round =>
      obtain ⟨j, rfl, hj, HK, HB⟩ := hrel
      by_cases hlt : j < 4
      · have d1 : decide ((j : Int) < 4) = true := by simp; omega
        have hj4 : j = 0 ∨ j = 1 ∨ j = 2 ∨ j = 3 := by omega
        rcases hj4 with rfl | rfl | rfl | rfl
        · go_wp2_with fail
          refine (itoa_at (n / 16777216) (and24 hn) (by omega) wr (HL.out.below HB.out)).mono ?_
          rintro e w2 ⟨rfl, hb2⟩
          have hk2 := HK.out.below hb2 HK.out.lt
          have HK2 := Lib.hid hk2
          have f2 := hk2.frozen 0
          have c2 : w2.cell? ⟨w.heap.size, 0, none⟩ = some (.string ByteArray.empty) := hk2.cell 0
          have HB2 := Lib.hid (HB.out.trans (hb2.mono HB.out.size))
          clear hk2 hb2
          go_wp2
          go_roundw
          case rel => exact ⟨1, by go_num, by omega, Lib.hid (by have := HK2.out.set 0 (.string (str (A.dg (n / 16777216)))); exact this), Lib.hid (HB2.out.setCell (p := ⟨w.heap.size, 0, none⟩) (Nat.le_refl _) _)⟩
          case measure => simp [intOf]
        · go_wp2_with fail
          refine (itoa_at (n / 65536 % 256) (and16 hn) (by omega) wr (HL.out.below HB.out)).mono ?_
          rintro e w2 ⟨rfl, hb2⟩
          have hk2 := HK.out.below hb2 HK.out.lt
          have HK2 := Lib.hid hk2
          have f2 := hk2.frozen 1
          have c2 : w2.cell? ⟨w.heap.size, 1, none⟩ = some (.string ByteArray.empty) := hk2.cell 1
          have HB2 := Lib.hid (HB.out.trans (hb2.mono HB.out.size))
          clear hk2 hb2
          go_wp2
          go_roundw
          case rel => exact ⟨2, by go_num, by omega, Lib.hid (by have := HK2.out.set 1 (.string (str (A.dg (n / 65536 % 256)))); exact this), Lib.hid (HB2.out.setCell (p := ⟨w.heap.size, 1, none⟩) (Nat.le_refl _) _)⟩
          case measure => simp [intOf]
        · go_wp2_with fail
          refine (itoa_at (n / 256 % 256) (and8 hn) (by omega) wr (HL.out.below HB.out)).mono ?_
          rintro e w2 ⟨rfl, hb2⟩
          have hk2 := HK.out.below hb2 HK.out.lt
          have HK2 := Lib.hid hk2
          have f2 := hk2.frozen 2
          have c2 : w2.cell? ⟨w.heap.size, 2, none⟩ = some (.string ByteArray.empty) := hk2.cell 2
          have HB2 := Lib.hid (HB.out.trans (hb2.mono HB.out.size))
          clear hk2 hb2
          go_wp2
          go_roundw
          case rel => exact ⟨3, by go_num, by omega, Lib.hid (by have := HK2.out.set 2 (.string (str (A.dg (n / 256 % 256)))); exact this), Lib.hid (HB2.out.setCell (p := ⟨w.heap.size, 2, none⟩) (Nat.le_refl _) _)⟩
          case measure => simp [intOf]
        · go_wp2_with fail
          refine (itoa_at (n % 256) (i64_and255 n hn) (by omega) wr (HL.out.below HB.out)).mono ?_
          rintro e w2 ⟨rfl, hb2⟩
          have hk2 := HK.out.below hb2 HK.out.lt
          have HK2 := Lib.hid hk2
          have f2 := hk2.frozen 3
          have c2 : w2.cell? ⟨w.heap.size, 3, none⟩ = some (.string ByteArray.empty) := hk2.cell 3
          have HB2 := Lib.hid (HB.out.trans (hb2.mono HB.out.size))
          clear hk2 hb2
          go_wp2
          go_roundw
          case rel => exact ⟨4, by go_num, by omega, Lib.hid (by have := HK2.out.set 3 (.string (str (A.dg (n % 256)))); exact this), Lib.hid (HB2.out.setCell (p := ⟨w.heap.size, 3, none⟩) (Nat.le_refl _) _)⟩
          case measure => simp [intOf]
      · obtain rfl : j = 4 := by omega
        have hw := HB.out.size
        go_wp2_with fail
        refine (Tryd.strings_Join w.heap.size 0 4 ((A.pieces n).map str) (str [46]) wr (fun j x hx => ?_) HK.out.lt (by simp [A.pieces]) (by simp [A.pieces]) ?_).mono ?_
        · rw [Nat.zero_add, HK.out.cell j]
          have e : (A.half n 4).toArray[j]? = ((A.pieces n).map fun l => Value.string (str l))[j]? := by rw [List.getElem?_toArray]; rfl
          rw [e]
          simp only [List.getElem?_map, Option.map_eq_some_iff] at hx ⊢
          obtain ⟨l, h1, rfl⟩ := hx
          exact ⟨l, h1, rfl⟩
        · have e : (Lib.join (((A.pieces n).map str).map (·.data.toList)) (str [46]).data.toList) = A.text n := A.join_pieces n
          rw [e]
          have := A.text_len hn
          omega
        · rintro e w2 ⟨rfl, hb2⟩
          have e : (Lib.join (((A.pieces n).map str).map (·.data.toList)) (str [46]).data.toList) = A.text n := A.join_pieces n
          rw [e]
          have HB2 := Lib.hid (HB.out.trans (hb2.mono HB.out.size))
          clear hb2 e
          go_wp2
          go_ret
          exact ⟨by rw [HF2.out]; rfl, HB2.out⟩
  · have HF : Hid (s = []) := Lib.hid (by rw [← HS.out]; unfold A.txt; rw [if_neg h0])
    have hA := isAddress_any a false w (by simpa using h0)
    go_enter Tryd.func25, Tryd.ntmps25
    go_wp2_with fail
    refine hA.mono ?_
    rintro e w1 ⟨rfl, rfl⟩
    go_wp2
    go_ret
    exact ⟨by rw [HF.out]; rfl, Below.refl _ _⟩

theorem A.txt_of {b : Int} (h0 : 0 ≤ b) (h1 : b < 4294967296) : ∃ n : Nat, b = n ∧ n < 4294967296 ∧ A.txt b = A.text n := by
  obtain ⟨n, rfl⟩ := Int.eq_ofNat_of_zero_le h0
  exact ⟨n, rfl, by omega, by unfold A.txt; rw [if_pos ⟨h0, h1⟩]; rfl⟩
theorem A.txtAll_of {b k : Int} (h : A.may b k = true) : ∃ n j : Nat, b = n ∧ k = j ∧ n < 4294967296 ∧ j ≤ 32 ∧ A.txt b = A.text n ∧ A.txtAll b k = A.text n ++ [47] ++ A.dg j := by
  obtain ⟨⟨h0, h1⟩, h2, h3⟩ := A.may_bits h
  obtain ⟨n, rfl, hn, ht⟩ := A.txt_of h2 h3
  obtain ⟨j, rfl⟩ := Int.eq_ofNat_of_zero_le h0
  refine ⟨n, j, rfl, rfl, hn, by omega, ht, ?_⟩
  unfold A.txtAll A.textAll; rw [h, if_pos rfl]; simp

set_option maxHeartbeats 400000 in
theorem textAll_any (b k : Int) (s : List UInt8) (w : World) (hL : Laid w) (hs : A.txtAll b k = s) :
    Calls Tryd.prog 27 #[.agg #[.int .i64 b, .int .i64 k]] w fun e w' => e = .returned (.string (str s)) ∧ Below w.heap.size w w' := by
  have HS := Lib.hid hs
  have HBX := Lib.hid (pbox_below w b k)
  have HBL := Lib.hid (pbox_blok w b k)
  have HL := Lib.hid (hL.below HBX.out)
  clear hs hL
  cases hd : A.may b k
  · have HF : Hid (s = []) := Lib.hid (by rw [← HS.out]; unfold A.txtAll; rw [hd]; rfl)
    have hm := may_any b k false (pbox w b k) hd
    clear hd
    go_enter Tryd.func27, Tryd.ntmps27
    go_wp2_with fail
    refine hm.mono ?_
    rintro e w1 ⟨rfl, hb1⟩
    go_wp2
    go_ret
    exact ⟨by rw [HF.out]; rfl, HBX.out.trans (hb1.mono (pbox_below w b k).size)⟩
  · have hm := may_any b k true (pbox w b k) hd
    obtain ⟨n, j, hbn, hkj, hn, hj, ht, hta⟩ := A.txtAll_of hd
    have HF : Hid (s = A.text n ++ [47] ++ A.dg j) := Lib.hid (by rw [← HS.out, hta])
    have l1 : (str (A.text n)).size ≤ 15 := (A.text_len hn).2
    have l2 : (str (A.dg j)).size ≤ 3 := (A.dg_len (by omega)).2
    obtain ⟨t, htt⟩ : ∃ t, str (A.text n) = t := ⟨_, rfl⟩
    obtain ⟨u, htu⟩ : ∃ u, str (A.dg j) = u := ⟨_, rfl⟩
    have HF3 : Hid (str s = t ++ str [47] ++ u) := Lib.hid (by rw [HF.out, ← htt, ← htu, str_append, str_append])
    rw [htt] at l1
    rw [htu] at l2
    have ht1 : ∀ W, Laid W → Calls Tryd.prog 25 #[.int .i64 b] W fun e w' => e = .returned (.string t) ∧ Below W.heap.size W w' := fun W hW => by rw [← htt]; exact text_any b _ W hW ht
    have ht2 : ∀ W, Laid W → Calls Tryd.prog 35 #[.int .i64 k] W fun e w' => e = .returned (.string u) ∧ Below W.heap.size W w' := fun W hW => by rw [← htu]; exact itoa_at j hkj (by omega) W hW
    clear hd hbn hkj ht hta htt htu
    go_enter Tryd.func27, Tryd.ntmps27
    go_wp2_with fail
    refine hm.mono ?_
    rintro e w1 ⟨rfl, hb1⟩
    have k0 := pb0 (HBL.out.below hb1 HBL.out.lt)
    have k1 := pb1 (HBL.out.below hb1 HBL.out.lt)
    have c0 : ∀ d os, (Go.Sort.grow (redrawn w1 d) os).cell? ⟨w.heap.size, 0, none⟩ = some (.int .i64 b) := fun d os => cell_regrown k0 d os
    have c1 : ∀ d os, (Go.Sort.grow (redrawn w1 d) os).cell? ⟨w.heap.size, 1, none⟩ = some (.int .i64 k) := fun d os => cell_regrown k1 d os
    have HL1 := Lib.hid (HL.out.below hb1)
    have HB1 := Lib.hid (HBX.out.trans (hb1.mono HBX.out.size))
    clear hb1 k0 k1
    go_wp2_with fail
    refine wp_region_quiet_below (by kernel_rfl) (by kernel_rfl) ?_
    repeat (go_big_quiet_step (first | exact Calls.regrown_of (ht1 _ (HL1.out.below (below_regrown _ _ _))) | exact Calls.regrown_of (ht2 _ (HL1.out.below (below_regrown _ _ _)))))
    refine wpQuiet_nil ?_
    intro _ hw'
    obtain ⟨⟨dq, osq⟩, hw''⟩ := hw'
    subst hw''
    go_wp2
    go_ret
    exact ⟨by rw [HF3.out]; rfl, HB1.out.trans ((below_regrown _ dq osq).mono HB1.out.size)⟩
end Go.Proofs.YtbaneeedoledoaaDoor
