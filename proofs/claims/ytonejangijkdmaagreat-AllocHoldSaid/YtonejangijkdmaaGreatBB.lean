import Derived.Test.YtonejangijkdmaaGreatBQ
import Derived.Test.YtonejangijkdmaaGreatShelf
import Derived.Lib.OwnBridge
import Derived.Sort.OwnSortedInts
namespace Go.Proofs.YtonejangijkdmaaGreat
set_option maxHeartbeats 400000
set_option maxRecDepth 100000
open Go.RowKit
theorem zdc (a : Option Addr) (n c : Nat) (l : List L.Ls) (k : List Int) (hk : L.busy l = k) (w : World) (h : RIn w a n c l) (hn : n <= 1000) :
  Calls Tryz.prog 148 #[.slice a n c] w fun e w' => ∃ a2 c2, e = .returned (.slice a2 k.length c2) /\ Hid (RIn w' a2 k.length c2 k) /\ Below w.heap.size w w' := by
 have HT := Zh h
 have hl := h.1
 have HK := Zh hk
 clear h hk
 go_enter Tryz.func148, Tryz.ntmps148
 go_wp2_with fail
 go_loopw [3, 8] (fun s3 s8 wx => ∃ (v : Value) (j : Nat), v = s3 /\ s8 = .int .i64 j /\ j <= n /\ Hid (wx.ownsRow w.heap.size 3 1 v j (L.flat ((l.take j).map (·.a)))) /\ Hid (Below w.heap.size w wx)) (fun _ i _ => n - (intOf i).toNat)
 case atStart => exact ⟨_, 0, rfl, by go_num, by omega, Zh (World.ownsRow_nil _ _ _ _), Zh (Below.refl _ _)⟩
 case round =>
  obtain ⟨v, j, rfl, rfl, hjn, HO, HB⟩ := hrel
  by_cases hlt : j < n
  ·have dj : decide ((j : Int) < n) = true := by simp; omega
   obtain ⟨b, off, x, rfl, hbl, hx, p0, p1, p2, p3, p4⟩ := (HT.out.below HB.out).at5 hlt
   have j0 : (0 : Int) <= j := by omega
   have j1 : (j : Int) < n := by omega
   have HS := Zh (L.adr_snoc hx)
   clear hx
   have TB : Hid (Below wr.heap.size wr (wr.alloc (.cells #[.int .i64 x.s, .int .i64 x.a, .int .i64 x.b, .int .i64 x.f, .int .i64 x.t] 58))) := Zh ((Below.refl _ wr).alloc (Nat.le_refl _) _)
   have TK : Hid (Blok (wr.alloc (.cells #[.int .i64 x.s, .int .i64 x.a, .int .i64 x.b, .int .i64 x.f, .int .i64 x.t] 58)) wr.heap.size 58 #[.int .i64 x.s, .int .i64 x.a, .int .i64 x.b, .int .i64 x.f, .int .i64 x.t]) := Zh (Blok.new _ _ _)
   have HBt := Zh (HB.out.trans (TB.out.mono HB.out.size))
   have HOt := Zh (zab HO.out TB.out)
   obtain ⟨acc, hacc⟩ : ∃ acc, (l.take j).map (·.a) = acc := ⟨_, rfl⟩
   rw [hacc] at HOt HS
   clear hacc
   go_upto_region 5 with fail
   obtain ⟨V, hV⟩ : ∃ V, wr.alloc (.cells #[.int .i64 x.s, .int .i64 x.a, .int .i64 x.b, .int .i64 x.f, .int .i64 x.t] 58) = V := ⟨_, rfl⟩
   rw [hV] at HOt HBt TK ⊢
   clear hV TB p0
   have t1 := Blok.cell TK.out 1
   simp only [List.getElem?_toArray, List.getElem?_cons_zero, List.getElem?_cons_succ] at t1
   go_wp2_with (at_builtin; refine zaw (α := Int) rfl (.tmp 12) (.tmp 15) 62 3 rfl (.int .i64 0) 8 Tryz.underlying62 (info_parts zl3) rfl (by decide) w.heap.size v j acc x.a (by simp [Act.eval]) (zab HOt.out ((Below.refl _ V).alloc (Nat.le_refl _) _)) V.heap.size 3 (by simp [Act.eval]) (Blok.new V _ _) (by omega) (by have := HBt.out.size; simp; omega) ?_; intro g cap w3 h1 h2 h3 h4)
   have HB3 : Hid (Below w.heap.size w w3) := Zh ((HBt.out.alloc HBt.out.size _).grown h2 (Nat.le_trans HBt.out.size (by simp)) (fun i hi => (HOt.out.lt i hi).1))
   have H1 := Zh h1
   clear h1 h2 h3 h4
   go_wp2
   go_roundw
   case rel => exact ⟨_, j + 1, rfl, by go_num, by omega, by rw [HS.out]; exact H1, HB3⟩
   case measure => simp [intOf] <;> omega
  ·have dj : decide ((j : Int) < n) = false := by simp; omega
   obtain rfl : j = n := by omega
   have hE : l.take j = l := List.take_of_length_le (by omega)
   rw [hE, L.flat_int] at HO
   rcases HO.out.2 with ⟨rfl, h0⟩ | ⟨g, cap, cur, rfl, hBg, hg, hnc, hcm, hcs, hct⟩
   ·obtain rfl : l = [] := List.eq_nil_of_length_eq_zero (by omega)
    have hk0 : k = [] := by
     have h9 := L.busy_len []
     rw [HK.out] at h9
     exact List.eq_nil_of_length_eq_zero (by simpa using h9)
    subst hk0 h0
    have cs := Tryz.slices_Sort_int_none none 0 wr
    have cc := Tryz.slices_Compact_int_empty none 0 wr
    go_wp2_with fail
    refine cs.mono ?_
    rintro e w2 ⟨rfl, rfl⟩
    go_wp2_with fail
    refine cc.mono ?_
    rintro e w3 ⟨rfl, rfl⟩
    go_wp2
    go_ret
    exact ⟨_, _, rfl, Zh (RIn.nil _), HB.out⟩
   ·obtain ⟨zs, hzs⟩ : ∃ zs, l.map (·.a) = zs := ⟨_, rfl⟩
    have hzl : zs.length = j := by rw [<- hzs, List.length_map]; exact hl
    rw [hzs] at HO hct
    rw [<- hzl, Nat.mul_one] at hct
    have hH := holds_of_blockI hg hct
    have cs := Tryz.slices_Sort_int g 0 cap zs wr hH (Array.getElem?_eq_some_iff.1 hg).1 (by omega)
    rw [hzl] at cs
    obtain ⟨ys, hys⟩ : ∃ ys, zs.mergeSort (fun x y => decide (x <= y)) = ys := ⟨_, rfl⟩
    have hyl : ys.length = j := by rw [<- hys, List.length_mergeSort]; exact hzl
    have hkc : Lib.compact ys = k := by rw [<- HK.out, <- hys, <- hzs]; rfl
    rw [hys] at cs
    have HH := Zh hH
    have HG := Zh hg
    clear hH hct hys hzs
    go_wp2_with fail
    refine cs.mono ?_
    rintro e w2 ⟨rfl, q, os, rfl⟩
    have ho2 : (Go.Sort.grow (Go.Sort.putRow (Value.int .i64) (Go.Sort.ahead wr q) g 0 ys.toArray) os).ownsRow w.heap.size 3 1 (.slice (some ⟨g, 0, none⟩) zs.length cap) zs.length (ys.map (Value.int .i64)) := ownsRow_sortedI (by omega) hBg HG.out (by omega) hcm (by simpa using hcs)
    have hg2 : wr.grownBy (Go.Sort.grow (Go.Sort.putRow (Value.int .i64) (Go.Sort.ahead wr q) g 0 ys.toArray) os) (some g) := grownBy_sortedI ys.toArray
    obtain ⟨w2, hw2⟩ : ∃ W, Go.Sort.grow (Go.Sort.putRow (Value.int .i64) (Go.Sort.ahead wr q) g 0 ys.toArray) os = W := ⟨_, rfl⟩
    rw [hw2] at ho2 hg2 ⊢
    rw [hzl] at ho2
    have HO2 := Zh ho2
    have HB2 : Hid (Below w.heap.size w w2) := Zh (HB.out.grown hg2 HB.out.size (fun i hi => by cases hi; exact hBg))
    obtain ⟨g', cap', he, hbg', hgl', hnc', hcm', hyl', hH2⟩ := Lib.holds_of_ownsRow ho2 (by simp)
    cases he
    have cc := Tryz.slices_Compact_int g 0 cap ys w2 hH2 (by omega) (by omega)
    rw [hyl, hkc] at cc
    have hkl : k.length <= j := by rw [<- hkc, <- hyl]; exact Lib.compact_length_le _
    clear cs hH2 ho2 hg2 hw2
    go_wp2_with fail
    refine cc.mono ?_
    rintro e w3 ⟨rfl, q3, rfl⟩
    have ho3 := Lib.ownsRow_putRow (q := q3) (k := k.length) (ys := k ++ List.replicate (j - k.length) 0) HO2.out (by simp; omega) hkl
    have hg3 : w2.grownBy (Go.Sort.putRow (Value.int .i64) (Go.Sort.ahead w2 q3) g 0 (k ++ List.replicate (j - k.length) 0).toArray) (some g) := by
     have := grownBy_sortedI (w := w2) (g := g) (n := q3) (os := #[]) (k ++ List.replicate (j - k.length) 0).toArray
     rwa [Go.Sort.grow_empty] at this
    rw [List.take_left, <- L.flat_int] at ho3
    obtain ⟨w4, hw4⟩ : ∃ W, Go.Sort.putRow (Value.int .i64) (Go.Sort.ahead w2 q3) g 0 (k ++ List.replicate (j - k.length) 0).toArray = W := ⟨_, rfl⟩
    rw [hw4] at ho3 hg3 ⊢
    have HB4 : Hid (Below w.heap.size w w4) := Zh (HB2.out.grown hg3 HB2.out.size (fun i hi => by cases hi; exact hBg))
    obtain ⟨a5, c5, he5, hr5⟩ := zgc (α := Int) ho3 rfl
    cases he5
    have HR5 := Zh hr5
    clear cc ho3 hg3 hw4 hr5
    go_wp2
    go_ret
    exact ⟨_, _, rfl, HR5, HB4.out⟩
end Go.Proofs.YtonejangijkdmaaGreat
