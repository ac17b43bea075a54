/-
  lease.Busy: the addresses, sorted, each once.
-/
import Derived.Test.YtbnhaoimdponkaaLList
import Derived.Test.YtbnhaoimdponkaaShelf
import Derived.Lib.OwnBridge
import Derived.Sort.OwnSortedInts
namespace Go.Proofs.Ytbnhaoimdponkaa
open Go.RowKit

instance : L.Rec Int := ⟨1, fun x => [x], fun _ => rfl, by decide⟩
theorem L.flat_int (l : List Int) : L.flat l = l.map (Value.int .i64) := by
  induction l with
  | nil => rfl
  | cons x l ih => rw [L.flat_cons, ih]; rfl
theorem RIn.at1 {w : World} {a : Option Addr} {n c i : Nat} {l : List Int} (h : RIn w a n c l) (hi : i < n) :
    ∃ b off x, a = some ⟨b, off, none⟩ ∧ b < w.heap.size ∧ l[i]? = some x ∧ w.cell? ⟨b, off + i, none⟩ = some (.int .i64 x) := by
  obtain ⟨b, off, x, ha, hb, hx, hc⟩ := h.at hi
  refine ⟨b, off, x, ha, hb, hx, ?_⟩
  have := hc 0 _ rfl
  rw [show off + i * L.Rec.k Int + 0 = off + i from by show off + i * 1 + 0 = off + i; omega] at this
  exact this
namespace L
def sorted' (l : List Ls) : List Int := (l.map (·.a)).mergeSort fun x y => decide (x ≤ y)
def busy (l : List Ls) : List Int := Lib.compact (sorted' l)
theorem sorted_le (l : List Ls) : (sorted' l).Pairwise (· ≤ ·) := by
  unfold sorted'
  have := List.pairwise_mergeSort (le := fun x y : Int => decide (x ≤ y)) (fun a b c h1 h2 => by simp at *; omega) (fun a b => by simp; omega) (l.map (·.a))
  exact this.imp (fun h => by simpa using h)
theorem sorted_len (l : List Ls) : (sorted' l).length = l.length := by unfold sorted'; simp
theorem compact_facts {zs : List Int} (h : zs.Pairwise (· ≤ ·)) : ∀ m, m ≤ zs.length → (∀ x ∈ Lib.compactUpTo zs.toArray m, ∃ j, j < m ∧ zs.toArray[j]! = x) ∧ (∀ j, j < m → zs.toArray[j]! ∈ Lib.compactUpTo zs.toArray m) ∧ (Lib.compactUpTo zs.toArray m).Pairwise (· < ·)
  | 0, _ => ⟨fun x hx => by simp [Lib.compactUpTo] at hx, fun j hj => by omega, by simp [Lib.compactUpTo]⟩
  | m + 1, hm => by
    obtain ⟨h1, h2, h3⟩ := compact_facts h m (by omega)
    have hle : ∀ i j, i ≤ j → j < zs.length → zs.toArray[i]! ≤ zs.toArray[j]! := fun i j hij hj => by
      rw [getElem!_pos _ i (by simp; omega), getElem!_pos _ j (by simpa using hj)]
      rcases Nat.eq_or_lt_of_le hij with rfl | hlt
      · exact Int.le_refl _
      · simpa using List.pairwise_iff_getElem.1 h i j (by omega) hj hlt
    rw [Lib.compactUpTo_succ]
    by_cases hk : Lib.keeps zs.toArray m = true
    · rw [if_pos hk]
      refine ⟨fun x hx => ?_, fun j hj => ?_, ?_⟩
      · rcases List.mem_append.1 hx with hx | hx
        · obtain ⟨j, hj, e⟩ := h1 x hx; exact ⟨j, by omega, e⟩
        · exact ⟨m, by omega, (List.mem_singleton.1 hx).symm⟩
      · by_cases hjm : j = m
        · subst hjm; simp
        · exact List.mem_append_left _ (h2 j (by omega))
      · rw [List.pairwise_append]
        refine ⟨h3, by simp, fun x hx y hy => ?_⟩
        obtain ⟨j, hj, rfl⟩ := h1 x hx
        obtain rfl : y = zs.toArray[m]! := by simpa using hy
        have hne : m = 0 ∨ zs.toArray[m]! ≠ zs.toArray[m - 1]! := by simpa [Lib.keeps] using hk
        have a1 := hle j (m - 1) (by omega) (by omega)
        have a2 := hle (m - 1) m (by omega) (by omega)
        rcases hne with h0 | h0
        · omega
        · omega
    · rw [if_neg hk, List.append_nil]
      have hne : ¬ (m = 0) ∧ zs.toArray[m]! = zs.toArray[m - 1]! := by simpa [Lib.keeps] using hk
      refine ⟨fun x hx => ?_, fun j hj => ?_, h3⟩
      · obtain ⟨j, hj, e⟩ := h1 x hx; exact ⟨j, by omega, e⟩
      · by_cases hjm : j = m
        · subst hjm; rw [hne.2]; exact h2 _ (by omega)
        · exact h2 j (by omega)
theorem busy_mem {l : List Ls} {x : Int} : x ∈ busy l ↔ ∃ y ∈ l, y.a = x := by
  have hf := compact_facts (sorted_le l) _ (Nat.le_refl _)
  have hs : x ∈ sorted' l ↔ ∃ y ∈ l, y.a = x := by unfold sorted'; rw [List.mem_mergeSort, List.mem_map]
  rw [← hs]
  unfold busy Lib.compact
  constructor
  · intro h
    obtain ⟨j, hj, rfl⟩ := hf.1 x h
    rw [getElem!_pos _ j (by simpa using hj)]
    simp
  · intro h
    obtain ⟨j, hj, rfl⟩ := List.mem_iff_getElem.1 h
    have := hf.2.1 j hj
    rw [getElem!_pos _ j (by simpa using hj)] at this
    simpa using this
theorem busy_rise (l : List Ls) : (busy l).Pairwise (· < ·) := (compact_facts (sorted_le l) _ (Nat.le_refl _)).2.2
theorem busy_len (l : List Ls) : (busy l).length ≤ l.length := by
  unfold busy; rw [← sorted_len l]; exact Lib.compact_length_le _
theorem adr_snoc {l : List Ls} {j : Nat} {x : Ls} (hx : l[j]? = some x) : (l.take (j + 1)).map (·.a) = (l.take j).map (·.a) ++ [x.a] := by
  rw [take_snoc hx, List.map_append]; rfl
end L

set_option maxRecDepth 100000 in
set_option maxHeartbeats 400000 in
theorem busy_run (a : Option Addr) (n c : Nat) (l : List L.Ls) (k : List Int) (hk : L.busy l = k) (w : World) (h : RIn w a n c l) (hn : n ≤ 1000) :
    Calls Try.prog 22 #[.slice a n c] w fun e w' => ∃ a2 c2, e = .returned (.slice a2 k.length c2) ∧ Hid (RIn w' a2 k.length c2 k) ∧ Below w.heap.size w w' := by
  have HT := Lib.hid h
  have hl := h.1
  have HK := Lib.hid hk
  clear h hk
  go_enter Try.func22, Try.ntmps22
  go_wp2_with fail
  go_loopw [3, 8] (fun s3 s8 wx => ∃ (v : Value) (j : Nat), v = s3 ∧ s8 = .int .i64 j ∧ j ≤ n ∧ Hid (wx.ownsRow w.heap.size 3 1 v j (L.flat ((l.take j).map (·.a)))) ∧ Hid (Below w.heap.size w wx)) (fun _ i _ => n - (intOf i).toNat)
  case atStart => exact ⟨_, 0, rfl, by go_num, by omega, Lib.hid (World.ownsRow_nil _ _ _ _), Lib.hid (Below.refl _ _)⟩
  case round =>
    obtain ⟨v, j, rfl, rfl, hjn, HO, HB⟩ := hrel
    by_cases hlt : j < n
    · have dj : decide ((j : Int) < n) = true := by simp; omega
      obtain ⟨b, off, x, rfl, hbl, hx, p0, p1, p2, p3, p4⟩ := (HT.out.below HB.out).at5 hlt
      have j0 : (0 : Int) ≤ j := by omega
      have j1 : (j : Int) < n := by omega
      have HS := Lib.hid (L.adr_snoc hx)
      clear hx
      have TB : Hid (Below wr.heap.size wr (wr.alloc (.cells #[.int .i64 x.s, .int .i64 x.a, .int .i64 x.b, .int .i64 x.f, .int .i64 x.t] 30))) := Lib.hid ((Below.refl _ wr).alloc (Nat.le_refl _) _)
      have TK : Hid (Blok (wr.alloc (.cells #[.int .i64 x.s, .int .i64 x.a, .int .i64 x.b, .int .i64 x.f, .int .i64 x.t] 30)) wr.heap.size 30 #[.int .i64 x.s, .int .i64 x.a, .int .i64 x.b, .int .i64 x.f, .int .i64 x.t]) := Lib.hid (Blok.new _ _ _)
      have HBt := Lib.hid (HB.out.trans (TB.out.mono HB.out.size))
      have HOt := Lib.hid (ownsRow_below HO.out TB.out)
      obtain ⟨acc, hacc⟩ : ∃ acc, (l.take j).map (·.a) = acc := ⟨_, rfl⟩
      rw [hacc] at HOt HS
      clear hacc
      go_upto_region 5 with fail
      obtain ⟨V, hV⟩ : ∃ V, wr.alloc (.cells #[.int .i64 x.s, .int .i64 x.a, .int .i64 x.b, .int .i64 x.f, .int .i64 x.t] 30) = V := ⟨_, rfl⟩
      rw [hV] at HOt HBt TK ⊢
      clear hV TB p0
      have t1 := Blok.cell TK.out 1
      simp only [List.getElem?_toArray, List.getElem?_cons_zero, List.getElem?_cons_succ] at t1
      go_wp2_with (at_builtin; refine wpList_appendR (α := Int) rfl (.tmp 12) (.tmp 15) 50 3 rfl (.int .i64 0) 8 Try.underlying50 (info_parts info3) rfl (by decide) w.heap.size v j acc x.a (by simp [Act.eval]) (ownsRow_below HOt.out ((Below.refl _ V).alloc (Nat.le_refl _) _)) V.heap.size 3 (by simp [Act.eval]) (Blok.new V _ _) (by omega) (by have := HBt.out.size; simp; omega) ?_; intro g cap w3 h1 h2 h3 h4)
      have HB3 : Hid (Below w.heap.size w w3) := Lib.hid ((HBt.out.alloc HBt.out.size _).grown h2 (Nat.le_trans HBt.out.size (by simp)) (fun i hi => (HOt.out.lt i hi).1))
      have H1 := Lib.hid h1
      clear h1 h2 h3 h4
      go_wp2
      go_roundw
      case rel => exact ⟨_, j + 1, rfl, by go_num, by omega, by rw [HS.out]; exact H1, HB3⟩
      case measure => simp [intOf] <;> omega
    · have dj : decide ((j : Int) < n) = false := by simp; omega
      obtain rfl : j = n := by omega
      have hE : l.take j = l := List.take_of_length_le (by omega)
      rw [hE, L.flat_int] at HO
      rcases HO.out.2 with ⟨rfl, h0⟩ | ⟨g, cap, cur, rfl, hBg, hg, hnc, hcm, hcs, hct⟩
      · obtain rfl : l = [] := List.eq_nil_of_length_eq_zero (by omega)
        have hk0 : k = [] := by
          have h9 := L.busy_len []
          rw [HK.out] at h9
          exact List.eq_nil_of_length_eq_zero (by simpa using h9)
        subst hk0 h0
        have cs := Try.slices_Sort_int_none none 0 wr
        have cc := Try.slices_Compact_int_empty none 0 wr
        go_wp2_with fail
        refine cs.mono ?_
        rintro e w2 ⟨rfl, rfl⟩
        go_wp2_with fail
        refine cc.mono ?_
        rintro e w3 ⟨rfl, rfl⟩
        go_wp2
        go_ret
        exact ⟨_, _, rfl, Lib.hid (RIn.nil _), HB.out⟩
      · obtain ⟨zs, hzs⟩ : ∃ zs, l.map (·.a) = zs := ⟨_, rfl⟩
        have hzl : zs.length = j := by rw [← hzs, List.length_map]; exact hl
        rw [hzs] at HO hct
        rw [← hzl, Nat.mul_one] at hct
        have hH := holds_of_blockI hg hct
        have cs := Try.slices_Sort_int g 0 cap zs wr hH (Array.getElem?_eq_some_iff.1 hg).1 (by omega)
        rw [hzl] at cs
        obtain ⟨ys, hys⟩ : ∃ ys, zs.mergeSort (fun x y => decide (x ≤ y)) = ys := ⟨_, rfl⟩
        have hyl : ys.length = j := by rw [← hys, List.length_mergeSort]; exact hzl
        have hkc : Lib.compact ys = k := by rw [← HK.out, ← hys, ← hzs]; rfl
        rw [hys] at cs
        have HH := Lib.hid hH
        have HG := Lib.hid hg
        clear hH hct hys hzs
        go_wp2_with fail
        refine cs.mono ?_
        rintro e w2 ⟨rfl, q, os, rfl⟩
        have ho2 : (Go.Sort.grow (Go.Sort.putRow (Value.int .i64) (Go.Sort.ahead wr q) g 0 ys.toArray) os).ownsRow w.heap.size 3 1 (.slice (some ⟨g, 0, none⟩) zs.length cap) zs.length (ys.map (Value.int .i64)) := ownsRow_sortedI (by omega) hBg HG.out (by omega) hcm (by simpa using hcs)
        have hg2 : wr.grownBy (Go.Sort.grow (Go.Sort.putRow (Value.int .i64) (Go.Sort.ahead wr q) g 0 ys.toArray) os) (some g) := grownBy_sortedI ys.toArray
        obtain ⟨w2, hw2⟩ : ∃ W, Go.Sort.grow (Go.Sort.putRow (Value.int .i64) (Go.Sort.ahead wr q) g 0 ys.toArray) os = W := ⟨_, rfl⟩
        rw [hw2] at ho2 hg2 ⊢
        rw [hzl] at ho2
        have HO2 := Lib.hid ho2
        have HB2 : Hid (Below w.heap.size w w2) := Lib.hid (HB.out.grown hg2 HB.out.size (fun i hi => by cases hi; exact hBg))
        obtain ⟨g', cap', he, hbg', hgl', hnc', hcm', hyl', hH2⟩ := Lib.holds_of_ownsRow ho2 (by simp)
        cases he
        have cc := Try.slices_Compact_int g 0 cap ys w2 hH2 (by omega) (by omega)
        rw [hyl, hkc] at cc
        have hkl : k.length ≤ j := by rw [← hkc, ← hyl]; exact Lib.compact_length_le _
        clear cs hH2 ho2 hg2 hw2
        go_wp2_with fail
        refine cc.mono ?_
        rintro e w3 ⟨rfl, q3, rfl⟩
        have ho3 := Lib.ownsRow_putRow (q := q3) (k := k.length) (ys := k ++ List.replicate (j - k.length) 0) HO2.out (by simp; omega) hkl
        have hg3 : w2.grownBy (Go.Sort.putRow (Value.int .i64) (Go.Sort.ahead w2 q3) g 0 (k ++ List.replicate (j - k.length) 0).toArray) (some g) := by
          have := grownBy_sortedI (w := w2) (g := g) (n := q3) (os := #[]) (k ++ List.replicate (j - k.length) 0).toArray
          rwa [Go.Sort.grow_empty] at this
        rw [List.take_left, ← L.flat_int] at ho3
        obtain ⟨w4, hw4⟩ : ∃ W, Go.Sort.putRow (Value.int .i64) (Go.Sort.ahead w2 q3) g 0 (k ++ List.replicate (j - k.length) 0).toArray = W := ⟨_, rfl⟩
        rw [hw4] at ho3 hg3 ⊢
        have HB4 : Hid (Below w.heap.size w w4) := Lib.hid (HB2.out.grown hg3 HB2.out.size (fun i hi => by cases hi; exact hBg))
        obtain ⟨a5, c5, he5, hr5⟩ := own_rec (α := Int) ho3 rfl
        cases he5
        have HR5 := Lib.hid hr5
        clear cc ho3 hg3 hw4 hr5
        go_wp2
        go_ret
        exact ⟨_, _, rfl, HR5, HB4.out⟩
end Go.Proofs.Ytbnhaoimdponkaa
