/-
  Walk of the document's numbers of a text (at most 100 bytes).
-/
import Derived.Test.YtbaneeedoledoaaDoorANum
import Derived.Test.YtbaneeedoledoaaDoorBlok
import Derived.Laws.OwnMore
import Derived.Deep.OwnRows
namespace Go.Proofs.YtbaneeedoledoaaDoor
open Go.RowKit

/-- Naturals as the cells of a slice of integers. -/
def A.ints (l : List Nat) : List Int := l.map fun m : Nat => (m : Int)
theorem A.ints_app (l m : List Nat) : A.ints (l ++ m) = A.ints l ++ A.ints m := by simp [A.ints]
theorem A.ints_len (l : List Nat) : (A.ints l).length = l.length := by simp [A.ints]
theorem A.ints_wf {l : List Nat} (h : ∀ m ∈ l, m ≤ 9999) : ∀ n ∈ A.ints l, (Lit.int .i64 n).wf = true := by
  intro n hn
  obtain ⟨m, hm, rfl⟩ := List.mem_map.1 hn
  have := h m hm
  exact WalkArith.wf_i64 (by omega)
theorem A.numsF_digit {P : List Nat} {x : Nat} {c : UInt8} (hd : A.isD c) (hx : x < 1000) : A.numsF (P ++ [x]) c = P ++ [10 * x + (c.toNat - 48)] := by
  have hD : 48 ≤ c.toNat ∧ c.toNat ≤ 57 := hd
  unfold A.numsF; rw [if_pos hD]; simp [hx]
theorem A.numsF_full {P : List Nat} {x : Nat} {c : UInt8} (hd : A.isD c) (hx : ¬ x < 1000) : A.numsF (P ++ [x]) c = P ++ [x] := by
  have hD : 48 ≤ c.toNat ∧ c.toNat ≤ 57 := hd
  unfold A.numsF; rw [if_pos hD]; simp [hx]

set_option maxHeartbeats 800000 in
theorem numbers_any (s : ByteArray) (w : World) (hz : s.size ≤ 100) :
    Calls Tryd.prog 31 #[.string s] w fun e w' => ∃ v, e = .returned v ∧ w'.ownsRow w.heap.size 3 1 v (A.nums s.data.toList).length ((A.ints (A.nums s.data.toList)).map (Value.int .i64)) ∧ (∀ m ∈ A.nums s.data.toList, m ≤ 9999) ∧ Below w.heap.size w w' := by
  obtain ⟨i0, hi, hz0, hz1, hz2⟩ := info_parts info3
  go_enter Tryd.func31, Tryd.ntmps31
  go_wp2_with fail
  go_loopg [3, 4] s.size (fun g v i wr => ∃ (j : Nat) (P : List Nat) (x : Nat) (cap q : Nat), v = .slice (some ⟨q, 0, none⟩) (P.length + 1) cap ∧ i = .int .i64 j ∧ j + g = s.size ∧ P.length ≤ j ∧ x ≤ 9999 ∧ Hid (∀ m ∈ P, m ≤ 9999) ∧ Hid ((s.data.toList.take j).foldl A.numsF [0] = P ++ [x]) ∧ Hid (wr.ownsRow w.heap.size 3 1 (.slice (some ⟨q, 0, none⟩) (P.length + 1) cap) (P.length + 1) ((A.ints (P ++ [x])).map (Value.int .i64))) ∧ Hid (Below w.heap.size w wr))
  case atStart =>
    refine ⟨0, [], 0, 1, w.heap.size, rfl, rfl, by omega, Nat.le_refl 0, by omega, Lib.hid (by simp), Lib.hid rfl, Lib.hid ?_, Lib.hid ((Below.refl _ w).alloc (Nat.le_refl _) _)⟩
    exact (Blok.new w 3 #[.int .i64 0]).own (xs := [.int .i64 0]) (Nat.le_refl _) rfl (Nat.le_refl _) (by simp [maxLen]) rfl
  case round =>
    obtain ⟨j, P, x, cap, q, rfl, rfl, hjg, hPj, hx9, HM, HF, HO, HB⟩ := hrel
    by_cases hlt : j < s.size
    · obtain ⟨c, hs, hs1, hsc⟩ := bytes_at s j hlt
      have d1 : decide ((j : Int) < (s.size : Int)) = true := by simp; omega
      obtain ⟨y, hy⟩ : ∃ y, c.toNat = y := ⟨_, rfl⟩
      rw [hy] at hsc
      have HS1 := Lib.hid hs1
      have HY := Lib.hid hy
      clear hs hs1 hy
      by_cases hD : A.isD c
      · have hyD : 48 ≤ y ∧ y ≤ 57 := by rw [← HY.out]; exact hD
        have HD := Lib.hid hD
        obtain ⟨hy1, hy2⟩ := hyD
        have e1 : decide (48 ≤ (y : Int)) = true := by simp; omega
        have e2 : decide ((y : Int) ≤ 57) = true := by simp; omega
        have hc1 : wr.cell? ⟨q, P.length, none⟩ = some (.int .i64 x) := by
          rw [HO.out.cellAt P.length (by omega)]
          simp [A.ints]
        have hf1 := HO.out.frozenAt P.length
        clear hD
        by_cases hx : x < 1000
        · have e3 : decide ((x : Int) < 1000) = true := by simp; omega
          have HF2 : Hid ((s.data.toList.take (j + 1)).foldl A.numsF [0] = P ++ [10 * x + (y - 48)]) := Lib.hid (by rw [HS1.out, List.foldl_append, HF.out, List.foldl_cons, List.foldl_nil, A.numsF_digit HD.out hx, HY.out])
          have z1 : IntKind.u8.wrap ((y : Int) - 48) = (y : Int) - 48 := by rw [IntKind.wrap_u8]; omega
          have z2 : IntKind.i64.wrap (10 * (x : Int)) = 10 * (x : Int) := IntWalk.i64_in _ (by omega)
          have z3 : IntKind.i64.wrap (10 * (x : Int) + ((y : Int) - 48)) = 10 * (x : Int) + ((y : Int) - 48) := IntWalk.i64_in _ (by omega)
          clear z1 z2 z3
          have HX : Hid ((10 * (x : Int) + ((y : Int) - 48)) = ((10 * x + (y - 48) : Nat) : Int)) := Lib.hid (by omega)
          have HO2 : Hid ((wr.setCell ⟨q, P.length, none⟩ (.int .i64 (10 * (x : Int) + ((y : Int) - 48)))).drew.ownsRow w.heap.size 3 1 (.slice (some ⟨q, 0, none⟩) (P.length + 1) cap) (P.length + 1) ((A.ints (P ++ [10 * x + (y - 48)])).map (Value.int .i64))) := Lib.hid (by
            have h1 := (HO.out.stored P.length (.int .i64 (10 * (x : Int) + ((y : Int) - 48)))).1
            have h2 : ((A.ints (P ++ [x])).map (Value.int .i64)).set P.length (.int .i64 (10 * (x : Int) + ((y : Int) - 48))) = (A.ints (P ++ [10 * x + (y - 48)])).map (Value.int .i64) := by
              rw [HX.out, A.ints_app, A.ints_app, List.map_append, List.map_append, List.set_append_right _ _ (by simp [A.ints])]
              simp [A.ints]
            rw [h2] at h1
            exact h1)
          have hq := HO.out.lt q rfl
          have HB2 : Hid (Below w.heap.size w (wr.setCell ⟨q, P.length, none⟩ (.int .i64 (10 * (x : Int) + ((y : Int) - 48)))).drew) := Lib.hid ((HB.out.setCell (p := ⟨q, P.length, none⟩) hq.1 _).drew)
          clear hq
          go_wp2_with fail
          go_region
          go_wp2
          go_roundg (s.size - (j + 1))
          case rel => exact ⟨j + 1, P, 10 * x + (y - 48), cap, q, rfl, by go_num, by omega, by omega, by omega, HM, HF2, HO2, HB2⟩
          case measure => omega
        · have e3 : decide ((x : Int) < 1000) = false := by simp; omega
          have HF2 : Hid ((s.data.toList.take (j + 1)).foldl A.numsF [0] = P ++ [x]) := Lib.hid (by rw [HS1.out, List.foldl_append, HF.out, List.foldl_cons, List.foldl_nil, A.numsF_full HD.out hx])
          go_wp2
          go_roundg (s.size - (j + 1))
          case rel => exact ⟨j + 1, P, x, cap, q, rfl, by go_num, by omega, by omega, hx9, HM, HF2, HO, HB⟩
          case measure => omega
      · have HF2 : Hid ((s.data.toList.take (j + 1)).foldl A.numsF [0] = (P ++ [x]) ++ [0]) := Lib.hid (by rw [HS1.out, List.foldl_append, HF.out, List.foldl_cons, List.foldl_nil, A.numsF_no hD])
        have hyD : ¬ (48 ≤ y ∧ y ≤ 57) := by rw [← HY.out]; exact hD
        clear hD
        by_cases hy1 : 48 ≤ y
        · have e1 : decide (48 ≤ (y : Int)) = true := by simp; omega
          have e2 : decide ((y : Int) ≤ 57) = false := by simp; omega
          clear hyD
          go_wp2_with (at_builtin; refine wpList_append_own _ rfl _ _ 46 rfl w.heap.size 3 i0 (.int .i64 0) 1 8 Tryd.underlying46 hi hz0 hz1 hz2 rfl (by decide) _ _ _ rfl (HO.out.alloc _) ⟨wr.heap.size, 0, none⟩ 1 1 [.int .i64 0] rfl rfl (cell_one_new _ _ _) (by simp [Value.oneCell']) (by unfold maxLen; omega) (by omega) (by have := HB.out.size; simp; omega) ?_; intro v' w1 hown' hgrow _; obtain ⟨q2, cap2, rfl⟩ := ownsRow_some hown' (by omega))
          go_roundg (s.size - (j + 1))
          case rel =>
            refine ⟨j + 1, P ++ [x], 0, cap2, q2, by simp, by go_num, by omega, by simp; omega, by omega, Lib.hid ?_, HF2, Lib.hid ?_, Lib.hid (below_appended HO.out HB.out.size HB.out hgrow)⟩
            · intro m hm
              rcases List.mem_append.1 hm with h | h
              · exact HM.out m h
              · rw [List.mem_singleton.1 h]; exact hx9
            · rw [A.ints_app (P ++ [x]) [0], List.map_append, show (P ++ [x]).length = P.length + 1 by simp]
              exact hown'
          case measure => omega
        · have e1 : decide (48 ≤ (y : Int)) = false := by simp; omega
          clear hyD
          go_wp2_with (at_builtin; refine wpList_append_own _ rfl _ _ 46 rfl w.heap.size 3 i0 (.int .i64 0) 1 8 Tryd.underlying46 hi hz0 hz1 hz2 rfl (by decide) _ _ _ rfl (HO.out.alloc _) ⟨wr.heap.size, 0, none⟩ 1 1 [.int .i64 0] rfl rfl (cell_one_new _ _ _) (by simp [Value.oneCell']) (by unfold maxLen; omega) (by omega) (by have := HB.out.size; simp; omega) ?_; intro v' w1 hown' hgrow _; obtain ⟨q2, cap2, rfl⟩ := ownsRow_some hown' (by omega))
          go_roundg (s.size - (j + 1))
          case rel =>
            refine ⟨j + 1, P ++ [x], 0, cap2, q2, by simp, by go_num, by omega, by simp; omega, by omega, Lib.hid ?_, HF2, Lib.hid ?_, Lib.hid (below_appended HO.out HB.out.size HB.out hgrow)⟩
            · intro m hm
              rcases List.mem_append.1 hm with h | h
              · exact HM.out m h
              · rw [List.mem_singleton.1 h]; exact hx9
            · rw [A.ints_app (P ++ [x]) [0], List.map_append, show (P ++ [x]).length = P.length + 1 by simp]
              exact hown'
          case measure => omega
    · have d1 : decide ((j : Int) < (s.size : Int)) = false := by simp; omega
      obtain rfl : j = s.size := by omega
      have HN : Hid (A.nums s.data.toList = P ++ [x]) := Lib.hid (by
        have h := HF.out
        rw [List.take_of_length_le (show s.data.toList.length ≤ s.size from Nat.le_refl _)] at h
        exact h)
      go_wp2
      go_ret
      refine ⟨_, rfl, ?_, ?_, HB.out⟩
      · rw [HN.out]
        have := HO.out
        simpa using this
      · rw [HN.out]
        intro m hm
        rcases List.mem_append.1 hm with h | h
        · exact HM.out m h
        · rw [List.mem_singleton.1 h]; exact hx9
end Go.Proofs.YtbaneeedoledoaaDoor
