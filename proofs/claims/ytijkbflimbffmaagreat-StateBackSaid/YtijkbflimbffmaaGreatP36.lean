import Derived.Lib.OwnBridge
import Derived.Sort.OwnSortedInts
import Derived.Lib.QuietBelow
import Derived.Test.YtijkbflimbffmaaGreatP4
import Derived.Test.YtijkbflimbffmaaGreatShelf
import Derived.Test.YtijkbflimbffmaaGreatP6
import Derived.Test.YtijkbflimbffmaaGreatP12
namespace Go.Proofs.YtijkbflimbffmaaGreat
set_option maxHeartbeats 400000
set_option maxRecDepth 100000
open Go.RowKit
theorem zdc (a : Option Addr) (n c : Nat) (l : List L.Ls) (k : List Int) (hk : L.busy l = k) (w : World) (h : RIn w a n c l) (hn : n <= 1000) :
  Calls Tryz.prog 89 #[.slice a n c] w fun e w' => ∃ a2 c2, e = .returned (.slice a2 k.length c2) /\ Hid (RIn w' a2 k.length c2 k) /\ Below w.heap.size w w' := by
 have HT := Zh h
 have hl := h.1
 have HK := Zh hk
 clear h hk
 go_enter Tryz.func89, Tryz.ntmps89
 go_wp2_with fail
 go_loopw [3, 8] (fun s3 s8 wx => ∃ (v : Value) (j : Nat), v = s3 /\ s8 = .int .i64 j /\ j <= n /\ Hid (wx.ownsRow w.heap.size 3 1 v j (L.flat ((l.take j).map (·.a)))) /\ Hid (Below w.heap.size w wx)) (fun _ i _ => n - (intOf i).toNat)
 case atStart => exact ⟨_, 0, rfl, by go_num, by omega, Zh (World.ownsRow_nil _ _ _ _), Zh (Below.refl _ _)⟩
 case round =>
  obtain ⟨v, j, rfl, rfl, hjn, HO, HB⟩ := hrel
  by_cases hlt : j < n
  ·have dj : decide ((j : Int) < n) = true := by simp; omega
   obtain ⟨b, off, x, rfl, hbl, hx, p0, p1, p2, p3, p4⟩ := (HT.out.below HB.out).at5 hlt
   have j0 : (0 : Int) <= j := by omega
   have j1 : (j : Int) < n := by omega
   have HS := Zh (L.adr_snoc hx)
   clear hx
   have TB : Hid (Below wr.heap.size wr (wr.alloc (.cells #[.int .i64 x.s, .int .i64 x.a, .int .i64 x.b, .int .i64 x.f, .int .i64 x.t] 60))) := Zh ((Below.refl _ wr).alloc (Nat.le_refl _) _)
   have TK : Hid (Blok (wr.alloc (.cells #[.int .i64 x.s, .int .i64 x.a, .int .i64 x.b, .int .i64 x.f, .int .i64 x.t] 60)) wr.heap.size 60 #[.int .i64 x.s, .int .i64 x.a, .int .i64 x.b, .int .i64 x.f, .int .i64 x.t]) := Zh (Blok.new _ _ _)
   have HBt := Zh (HB.out.trans (TB.out.mono HB.out.size))
   have HOt := Zh (zab HO.out TB.out)
   obtain ⟨acc, hacc⟩ : ∃ acc, (l.take j).map (·.a) = acc := ⟨_, rfl⟩
   rw [hacc] at HOt HS
   clear hacc
   go_upto_region 5 with fail
   obtain ⟨V, hV⟩ : ∃ V, wr.alloc (.cells #[.int .i64 x.s, .int .i64 x.a, .int .i64 x.b, .int .i64 x.f, .int .i64 x.t] 60) = V := ⟨_, rfl⟩
   rw [hV] at HOt HBt TK ⊢
   clear hV TB p0
   have t1 := Blok.cell TK.out 1
   simp only [List.getElem?_toArray, List.getElem?_cons_zero, List.getElem?_cons_succ] at t1
   go_wp2_with (at_builtin; refine zaw (α := Int) rfl (.tmp 12) (.tmp 15) 75 3 rfl (.int .i64 0) 8 Tryz.underlying75 (info_parts zl3) rfl (by decide) w.heap.size v j acc x.a (by simp [Act.eval]) (zab HOt.out ((Below.refl _ V).alloc (Nat.le_refl _) _)) V.heap.size 3 (by simp [Act.eval]) (Blok.new V _ _) (by omega) (by have := HBt.out.size; simp; omega) ?_; intro g cap w3 h1 h2 h3 h4)
   have HB3 : Hid (Below w.heap.size w w3) := Zh ((HBt.out.alloc HBt.out.size _).grown h2 (Nat.le_trans HBt.out.size (by simp)) (fun i hi => (HOt.out.lt i hi).1))
   have H1 := Zh h1
   clear h1 h2 h3 h4
   go_wp2
   go_roundw
   case rel => exact ⟨_, j + 1, rfl, by go_num, by omega, by rw [HS.out]; exact H1, HB3⟩
   case measure => simp [intOf] <;> omega
  ·have dj : decide ((j : Int) < n) = false := by simp; omega
   obtain rfl : j = n := by omega
   have hE : l.take j = l := List.take_of_length_le (by omega)
   rw [hE, L.flat_int] at HO
   rcases HO.out.2 with ⟨rfl, h0⟩ | ⟨g, cap, cur, rfl, hBg, hg, hnc, hcm, hcs, hct⟩
   ·obtain rfl : l = [] := List.eq_nil_of_length_eq_zero (by omega)
    have hk0 : k = [] := by
     have h9 := L.busy_len []
     rw [HK.out] at h9
     exact List.eq_nil_of_length_eq_zero (by simpa using h9)
    subst hk0 h0
    have cs := Tryz.slices_Sort_int_none none 0 wr
    have cc := Tryz.slices_Compact_int_empty none 0 wr
    go_wp2_with fail
    refine cs.mono ?_
    rintro e w2 ⟨rfl, rfl⟩
    go_wp2_with fail
    refine cc.mono ?_
    rintro e w3 ⟨rfl, rfl⟩
    go_wp2
    go_ret
    exact ⟨_, _, rfl, Zh (RIn.nil _), HB.out⟩
   ·obtain ⟨zs, hzs⟩ : ∃ zs, l.map (·.a) = zs := ⟨_, rfl⟩
    have hzl : zs.length = j := by rw [<- hzs, List.length_map]; exact hl
    rw [hzs] at HO hct
    rw [<- hzl, Nat.mul_one] at hct
    have hH := holds_of_blockI hg hct
    have cs := Tryz.slices_Sort_int g 0 cap zs wr hH (Array.getElem?_eq_some_iff.1 hg).1 (by omega)
    rw [hzl] at cs
    obtain ⟨ys, hys⟩ : ∃ ys, zs.mergeSort (fun x y => decide (x <= y)) = ys := ⟨_, rfl⟩
    have hyl : ys.length = j := by rw [<- hys, List.length_mergeSort]; exact hzl
    have hkc : Lib.compact ys = k := by rw [<- HK.out, <- hys, <- hzs]; rfl
    rw [hys] at cs
    have HH := Zh hH
    have HG := Zh hg
    clear hH hct hys hzs
    go_wp2_with fail
    refine cs.mono ?_
    rintro e w2 ⟨rfl, q, os, rfl⟩
    have ho2 : (Go.Sort.grow (Go.Sort.putRow (Value.int .i64) (Go.Sort.ahead wr q) g 0 ys.toArray) os).ownsRow w.heap.size 3 1 (.slice (some ⟨g, 0, none⟩) zs.length cap) zs.length (ys.map (Value.int .i64)) := ownsRow_sortedI (by omega) hBg HG.out (by omega) hcm (by simpa using hcs)
    have hg2 : wr.grownBy (Go.Sort.grow (Go.Sort.putRow (Value.int .i64) (Go.Sort.ahead wr q) g 0 ys.toArray) os) (some g) := grownBy_sortedI ys.toArray
    obtain ⟨w2, hw2⟩ : ∃ W, Go.Sort.grow (Go.Sort.putRow (Value.int .i64) (Go.Sort.ahead wr q) g 0 ys.toArray) os = W := ⟨_, rfl⟩
    rw [hw2] at ho2 hg2 ⊢
    rw [hzl] at ho2
    have HO2 := Zh ho2
    have HB2 : Hid (Below w.heap.size w w2) := Zh (HB.out.grown hg2 HB.out.size (fun i hi => by cases hi; exact hBg))
    obtain ⟨g', cap', he, hbg', hgl', hnc', hcm', hyl', hH2⟩ := Lib.holds_of_ownsRow ho2 (by simp)
    cases he
    have cc := Tryz.slices_Compact_int g 0 cap ys w2 hH2 (by omega) (by omega)
    rw [hyl, hkc] at cc
    have hkl : k.length <= j := by rw [<- hkc, <- hyl]; exact Lib.compact_length_le _
    clear cs hH2 ho2 hg2 hw2
    go_wp2_with fail
    refine cc.mono ?_
    rintro e w3 ⟨rfl, q3, rfl⟩
    have ho3 := Lib.ownsRow_putRow (q := q3) (k := k.length) (ys := k ++ List.replicate (j - k.length) 0) HO2.out (by simp; omega) hkl
    have hg3 : w2.grownBy (Go.Sort.putRow (Value.int .i64) (Go.Sort.ahead w2 q3) g 0 (k ++ List.replicate (j - k.length) 0).toArray) (some g) := by
     have := grownBy_sortedI (w := w2) (g := g) (n := q3) (os := #[]) (k ++ List.replicate (j - k.length) 0).toArray
     rwa [Go.Sort.grow_empty] at this
    rw [List.take_left, <- L.flat_int] at ho3
    obtain ⟨w4, hw4⟩ : ∃ W, Go.Sort.putRow (Value.int .i64) (Go.Sort.ahead w2 q3) g 0 (k ++ List.replicate (j - k.length) 0).toArray = W := ⟨_, rfl⟩
    rw [hw4] at ho3 hg3 ⊢
    have HB4 : Hid (Below w.heap.size w w4) := Zh (HB2.out.grown hg3 HB2.out.size (fun i hi => by cases hi; exact hBg))
    obtain ⟨a5, c5, he5, hr5⟩ := zgc (α := Int) ho3 rfl
    cases he5
    have HR5 := Zh hr5
    clear cc ho3 hg3 hw4 hr5
    go_wp2
    go_ret
    exact ⟨_, _, rfl, HR5, HB4.out⟩
end Go.Proofs.YtijkbflimbffmaaGreat
namespace Go.Proofs.YtijkbflimbffmaaGreat
open Go.RowKit
theorem zg2 {w : World} {a : Option Addr} {n c : Nat} {l : List Int} (h : RIn w a n c l) (hw : ∀ x ∈ l, (Lit.int .i64 x).wf = true) : BIn w a n c l := by
 refine ⟨h.1, ⟨by rw [h.1]; exact h.2.1.1, h.2.1.2⟩, hw, ?_⟩
 rcases h.2.2.2 with h0 | ⟨b, off, rfl, hlt, hc⟩
 ·exact .inl h0
 ·refine .inr ⟨b, off, rfl, hlt, fun i hi => ?_⟩
  have := hc i _ (List.getElem?_eq_getElem hi) 0 _ rfl
  rw [show off + i * L.Rec.k Int + 0 = off + i from by show off + i * 1 + 0 = off + i; omega] at this
  rw [this]
  simp [hi]
theorem Y.busy_wf {s : Y.St} (hm : Y.May s) : ∀ x ∈ L.busy s.l, (Lit.int .i64 x).wf = true := fun x hx => by
 obtain ⟨y, hy, rfl⟩ := L.busy_mem.1 hx
 have h1 := Y.blkB_in (hm.2.2.2.2.2.2.1 y hy).2.1
 have h2 := (E.fits_iff.1 hm.1).no
 simp [Lit.wf, IntKind.min, IntKind.max, IntKind.bits, IntKind.signed]; omega
end Go.Proofs.YtijkbflimbffmaaGreat
namespace Go.Proofs.YtijkbflimbffmaaGreat
set_option maxHeartbeats 1600000
set_option maxRecDepth 100000
open Go.RowKit
def QUp (H : Nat) (w : World) (a : Option Addr) (n c : Nat) (l : List O.Pl) : Prop := QIn w a n c l /\ ∀ q, a = some q -> H <= q.block
theorem QUp.le {H H' : Nat} {w : World} {a : Option Addr} {n c : Nat} {l : List O.Pl} (h : QUp H w a n c l) (hh : H' <= H) : QUp H' w a n c l := ⟨h.1, fun q hq => Nat.le_trans hh (h.2 q hq)⟩
theorem za2 (a : Option Addr) (n c : Nat) (l : List O.Pl) (w : World) (h : QIn w a n c l) (hn : n <= 800) :
  Calls Tryz.prog 71 #[.slice a n c] w fun e w' => ∃ a2 c2, e = .returned (.slice a2 n c2) /\ Hid (QUp w.heap.size w' a2 n c2 l) /\ Below w.heap.size w w' := by
 refine (zes a n c l w (by omega) h).mono ?_
 rintro e w' ⟨v, rfl, ho, hb⟩
 obtain ⟨a2, c2, rfl, ht⟩ := zbq ho.out h.1
 exact ⟨a2, c2, rfl, Zh ⟨ht, fun q hq => (ho.out.lt q.block (by rw [hq]; rfl)).1⟩, hb⟩
theorem zgw (a : Option Addr) (n c : Nat) (l : List O.Pl) (f n' : Int) (l2 : List O.Pl) (n2 : Nat) (w : World) (h : QIn w a n c l) (hn : n <= 800) (hl : l ++ [⟨f, n', 0⟩] = l2) (h2 : l2.length = n2) :
  Calls Tryz.prog 175 #[.slice a n c, .agg #[.int .i64 0, .int .i64 0, .int .i64 f, .int .i64 n']] w fun e w' => ∃ a2 c2, e = .returned (.slice a2 n2 c2) /\ Hid (QUp w.heap.size w' a2 n2 c2 l2) /\ Below w.heap.size w w' := by
 refine (zit a n c l 0 f n' w h (by omega)).mono ?_
 rintro e w' ⟨v, q, rfl, hq, ho, hb⟩
 rw [<- h.1, O.run0, hl] at hq ho
 obtain rfl : n2 = q := by rw [<- h2, hq]
 obtain ⟨a2, c2, rfl, ht⟩ := zbq ho.out h2
 exact ⟨a2, c2, rfl, Zh ⟨ht, fun q hq => (ho.out.lt q.block (by rw [hq]; rfl)).1⟩, hb⟩
theorem done0_is (a : Option Addr) (n c : Nat) (l : List O.Pl) (f n' : Int) (l2 : List O.Pl) (n2 : Nat) (w : World) (h : QIn w a n c l) (hn : n <= 800) (hl : l ++ [⟨f, n', 0⟩] = l2) (h2 : l2.length = n2) :
  Calls Tryz.prog 175 #[.slice a n c, .agg #[.int .i64 0, .int .i64 0, .int .i64 f, .int .i64 n']] w fun e w' => ∃ a2 c2, e = .returned (.slice a2 n2 c2) /\ Hid (QIn w' a2 n2 c2 l2) /\ Below w.heap.size w w' :=
 (zgw a n c l f n' l2 n2 w h hn hl h2).mono fun _ _ ⟨a2, c2, he, ht, hb⟩ => ⟨a2, c2, he, Zh ht.out.1, hb⟩
theorem zkd (a : Option Addr) (n c : Nat) (l : List O.Pl) (k : Int) (l2 : List O.Pl) (n2 : Nat) (w : World) (h : QIn w a n c l) (hn : n <= 800) (h0 : 0 <= k) (h1 : k < n) (hl : l.set k.toNat { O.at' l k with s := 1 } = l2) (h2 : l2.length = n2) :
  Calls Tryz.prog 175 #[.slice a n c, .agg #[.int .i64 1, .int .i64 k, .int .i64 0, .int .i64 0]] w fun e w' => ∃ a2 c2, e = .returned (.slice a2 n2 c2) /\ Hid (QUp w.heap.size w' a2 n2 c2 l2) /\ Below w.heap.size w w' := by
 refine (ziu a n c l k 0 0 w h (by omega)).mono ?_
 rintro e w' ⟨v, q, rfl, hq, ho, hb⟩
 rw [<- h.1, O.run1 0 h0 (by rw [h.1]; exact h1), hl] at hq ho
 obtain rfl : n2 = q := by rw [<- h2, hq]
 obtain ⟨a2, c2, rfl, ht⟩ := zbq ho.out h2
 exact ⟨a2, c2, rfl, Zh ⟨ht, fun q hq => (ho.out.lt q.block (by rw [hq]; rfl)).1⟩, hb⟩
theorem zke (a : Option Addr) (n c : Nat) (l : List O.Pl) (k n' : Int) (l2 : List O.Pl) (n2 : Nat) (w : World) (h : QIn w a n c l) (hn : n <= 800) (h0 : 0 <= k) (h1 : k < n) (hl : l.set k.toNat { O.at' l k with n := n' } = l2) (h2 : l2.length = n2) :
  Calls Tryz.prog 175 #[.slice a n c, .agg #[.int .i64 2, .int .i64 k, .int .i64 0, .int .i64 n']] w fun e w' => ∃ a2 c2, e = .returned (.slice a2 n2 c2) /\ Hid (QUp w.heap.size w' a2 n2 c2 l2) /\ Below w.heap.size w w' := by
 refine (ziv a n c l k 0 n' w h (by omega)).mono ?_
 rintro e w' ⟨v, q, rfl, hq, ho, hb⟩
 rw [<- h.1, O.run2 h0 (by rw [h.1]; exact h1), hl] at hq ho
 obtain rfl : n2 = q := by rw [<- h2, hq]
 obtain ⟨a2, c2, rfl, ht⟩ := zbq ho.out h2
 exact ⟨a2, c2, rfl, Zh ⟨ht, fun q hq => (ho.out.lt q.block (by rw [hq]; rfl)).1⟩, hb⟩
theorem zgx (a : Option Addr) (n c : Nat) (l : List O.Pl) (k : Int) (l2 : List O.Pl) (n2 : Nat) (w : World) (h : QIn w a n c l) (hn : n <= 800) (h0 : 0 <= k) (hl : l.eraseIdx k.toNat = l2) (h2 : l2.length = n2) :
  Calls Tryz.prog 175 #[.slice a n c, .agg #[.int .i64 3, .int .i64 k, .int .i64 0, .int .i64 0]] w fun e w' => ∃ a2 c2, e = .returned (.slice a2 n2 c2) /\ Hid (QUp w.heap.size w' a2 n2 c2 l2) /\ Below w.heap.size w w' := by
 refine (ziw a n c l k 0 0 w h (by omega)).mono ?_
 rintro e w' ⟨v, q, rfl, hq, ho, hb⟩
 rw [<- h.1, O.run3 0 h0, hl] at hq ho
 obtain rfl : n2 = q := by rw [<- h2, hq]
 obtain ⟨a2, c2, rfl, ht⟩ := zbq ho.out h2
 exact ⟨a2, c2, rfl, Zh ⟨ht, fun q hq => (ho.out.lt q.block (by rw [hq]; rfl)).1⟩, hb⟩
theorem zdd (a : Option Addr) (n c : Nat) (l : List O.Pl) (k : Int) (l2 : List O.Pl) (n2 : Nat) (w : World) (h : QIn w a n c l) (hn : n <= 800) (h0 : 0 <= k) (hl : l.eraseIdx k.toNat = l2) (h2 : l2.length = n2) :
  Calls Tryz.prog 175 #[.slice a n c, .agg #[.int .i64 3, .int .i64 k, .int .i64 0, .int .i64 0]] w fun e w' => ∃ a2 c2, e = .returned (.slice a2 n2 c2) /\ Hid (QIn w' a2 n2 c2 l2) /\ Below w.heap.size w w' :=
 (zgx a n c l k l2 n2 w h hn h0 hl h2).mono fun _ _ ⟨a2, c2, he, ht, hb⟩ => ⟨a2, c2, he, Zh ht.out.1, hb⟩
theorem zbl (a : Option Addr) (n c : Nat) (l : List O.Pl) (out k sk : Int) (w : World) (h : QIn w a n c l) (hn : n <= 800) (hz : O.Sm l) (hs : O.seek l out k = sk) :
  Calls Tryz.prog 176 #[.slice a n c, .int .i64 out, .int .i64 k] w fun e w' => e = .returned (.int .i64 sk) /\ Below w.heap.size w w' := by
 obtain ⟨pm, hpm⟩ : ∃ b, O.may l out = b := ⟨_, rfl⟩
 have c1 := zbi a n c l out pm hpm w h (by omega) hz
 have hl := h.1
 cases pm with
 | false =>
  have HE : Hid (sk = 1) := Zh (by rw [<- hs]; unfold O.seek; rw [if_pos hpm])
  clear h hz hs hpm
  go_enter Tryz.func176, Tryz.ntmps176
  go_wp2_with fail
  refine c1.mono ?_
  rintro e w2 ⟨rfl, hb2⟩
  go_wp2
  go_ret
  exact ⟨by rw [HE.out]; rfl, hb2⟩
 | true =>
  have hs2 : sk = if k < 0 \/ (n : Int) <= k then 5 else 0 := by rw [<- hs]; unfold O.seek; rw [if_neg (by rw [hpm]; decide), hl]
  clear h hz hs hpm hl
  go_enter Tryz.func176, Tryz.ntmps176
  go_wp2_with fail
  refine c1.mono ?_
  rintro e w2 ⟨rfl, hb2⟩
  by_cases h1 : k < 0
  ·have d1 : decide (k < 0) = true := by simpa using h1
   have HE : Hid (sk = 5) := Zh (by rw [hs2, if_pos (.inl h1)])
   clear hs2
   go_wp2
   go_ret
   exact ⟨by rw [HE.out]; rfl, hb2⟩
  ·have d1 : decide (k < 0) = false := by simpa using h1
   by_cases h2 : (n : Int) <= k
   ·have d2 : decide ((n : Int) <= k) = true := by simpa using h2
    have HE : Hid (sk = 5) := Zh (by rw [hs2, if_pos (.inr h2)])
    clear hs2
    go_wp2
    go_ret
    exact ⟨by rw [HE.out]; rfl, hb2⟩
   ·have d2 : decide ((n : Int) <= k) = false := by simpa using h2
    have HE : Hid (sk = 0) := Zh (by rw [hs2, if_neg (by omega)])
    clear hs2
    go_wp2
    go_ret
    exact ⟨by rw [HE.out]; rfl, hb2⟩
open Go.RowKit
theorem zk7 (a : Option Addr) (n c : Nat) (l : List O.Pl) (out f n' : Int) (l2 : List O.Pl) (n2 : Nat) (er : Int) (w : World) (h : QIn w a n c l) (hn : n <= 800) (hz : O.Sm l) (hf : f <= 9223372036854775807) (hs : O.add l out f n' = (l2, er)) (h2 : l2.length = n2) :
  Calls Tryz.prog 93 #[.slice a n c, .int .i64 out, .int .i64 f, .int .i64 n'] w fun e w' => ∃ a2 c2, e = .returned (.tuple #[.slice a2 n2 c2, .int .i64 er]) /\ Hid (QUp w.heap.size w' a2 n2 c2 l2) /\ Below w.heap.size w w' := by
 have HT := Zh h
 have hl := h.1
 have HB0 := Zh (Below.refl w.heap.size w)
 obtain ⟨pm, hpm⟩ : ∃ b, O.may l out = b := ⟨_, rfl⟩
 obtain ⟨pb, hpb⟩ : ∃ b, O.below ⟨f, n', 0⟩ out = b := ⟨_, rfl⟩
 have HM := Zh hpm
 have HP := Zh hpb
 have HZ := Zh hz
 clear h hz
 by_cases hp1 : pm = false
 ·subst hp1
  have hs3 : (l, (1 : Int)) = (l2, er) := by rw [<- hs]; unfold O.add; rw [if_pos (.inl hpm)]
  obtain ⟨rfl, rfl⟩ := Prod.mk.inj hs3
  obtain rfl : n = n2 := by rw [<- h2, HT.out.1]
  clear hs hs3 h2
  clear hpm hpb hl
  go_enter Tryz.func93, Tryz.ntmps93
  have hb := O.box_below w ⟨f, n', 0⟩
  have hk := O.box_is w ⟨f, n', 0⟩
  dsimp only [O.box] at hb hk
  have HBT := Zh hb
  have HKT := Zh hk
  clear hb hk
  go_wp2_with fail
  obtain ⟨w1, hw1⟩ : ∃ W, w.alloc (.cells #[.int .i64 f, .int .i64 n', .int .i64 0] 111) = W := ⟨_, rfl⟩
  have hb := HBT.out
  have hk := HKT.out
  rw [hw1] at hb hk ⊢
  clear hw1 HBT HKT
  have HKp1 := Zh hk
  clear hk
  have HB1 := Zt HB0 hb
  clear hb
  have pf0 := HKp1.out.b0
  have pf1 := HKp1.out.b1
  have pf2 := HKp1.out.b2
  skip
  refine (zbi a n c l out false HM.out w1 (HT.out.below HB1.out) (by omega) HZ.out).mono ?_
  clear pf0 pf1 pf2
  rintro e w2 ⟨rfl, hb⟩
  have HKp2 := Zh (HKp1.out.on hb)
  have HB2 := Zt HB1 hb
  clear hb
  have pf0 := HKp2.out.b0
  have pf1 := HKp2.out.b1
  have pf2 := HKp2.out.b2
  go_wp2_with fail
  refine (za2 a n c l w2 (HT.out.below HB2.out) hn).mono ?_
  clear pf0 pf1 pf2
  rintro e w3 ⟨a3, c3, rfl, ht3, hb⟩
  have HKp3 := Zh (HKp2.out.on hb)
  have HB3 := Zt HB2 hb
  clear hb
  have pf0 := HKp3.out.b0
  have pf1 := HKp3.out.b1
  have pf2 := HKp3.out.b2
  go_wp2
  go_ret2
  exact ⟨a3, c3, rfl, Zh (ht3.out.le (Below.size HB2.out)), HB3.out⟩
 ·obtain rfl : pm = true := by simpa using hp1
  have hmay := O.may_iff.1 hpm
  have hout : 0 <= out /\ out <= 4 := ⟨hmay.1, hmay.2.1⟩
  clear hp1 hmay
  by_cases hp2 : pb = false
  ·subst hp2
   have hs3 : (l, (1 : Int)) = (l2, er) := by rw [<- hs]; unfold O.add; rw [if_pos (.inr hpb)]
   obtain ⟨rfl, rfl⟩ := Prod.mk.inj hs3
   obtain rfl : n = n2 := by rw [<- h2, HT.out.1]
   clear hs hs3 h2
   clear hpm hpb hl
   go_enter Tryz.func93, Tryz.ntmps93
   have hb := O.box_below w ⟨f, n', 0⟩
   have hk := O.box_is w ⟨f, n', 0⟩
   dsimp only [O.box] at hb hk
   have HBT := Zh hb
   have HKT := Zh hk
   clear hb hk
   go_wp2_with fail
   obtain ⟨w1, hw1⟩ : ∃ W, w.alloc (.cells #[.int .i64 f, .int .i64 n', .int .i64 0] 111) = W := ⟨_, rfl⟩
   have hb := HBT.out
   have hk := HKT.out
   rw [hw1] at hb hk ⊢
   clear hw1 HBT HKT
   have HKp1 := Zh hk
   clear hk
   have HB1 := Zt HB0 hb
   clear hb
   have pf0 := HKp1.out.b0
   have pf1 := HKp1.out.b1
   have pf2 := HKp1.out.b2
   skip
   refine (zbi a n c l out true HM.out w1 (HT.out.below HB1.out) (by omega) HZ.out).mono ?_
   clear pf0 pf1 pf2
   rintro e w2 ⟨rfl, hb⟩
   have HKp2 := Zh (HKp1.out.on hb)
   have HB2 := Zt HB1 hb
   clear hb
   have pf0 := HKp2.out.b0
   have pf1 := HKp2.out.b1
   have pf2 := HKp2.out.b2
   go_wp2_with fail
   refine (za1 (⟨f, n', 0⟩ : O.Pl) out false w2 HP.out hout hf).mono ?_
   clear pf0 pf1 pf2
   rintro e w3 ⟨rfl, hb⟩
   have HKp3 := Zh (HKp2.out.on hb)
   have HB3 := Zt HB2 hb
   clear hb
   have pf0 := HKp3.out.b0
   have pf1 := HKp3.out.b1
   have pf2 := HKp3.out.b2
   go_wp2_with fail
   refine (za2 a n c l w3 (HT.out.below HB3.out) hn).mono ?_
   clear pf0 pf1 pf2
   rintro e w4 ⟨a3, c3, rfl, ht3, hb⟩
   have HKp4 := Zh (HKp3.out.on hb)
   have HB4 := Zt HB3 hb
   clear hb
   have pf0 := HKp4.out.b0
   have pf1 := HKp4.out.b1
   have pf2 := HKp4.out.b2
   go_wp2
   go_ret2
   exact ⟨a3, c3, rfl, Zh (ht3.out.le (Below.size HB3.out)), HB4.out⟩
  ·obtain rfl : pb = true := by simpa using hp2
   clear hp2
   obtain ⟨u, hu⟩ : ∃ u, l.any (O.hit ⟨f, n', 0⟩) = u := ⟨_, rfl⟩
   have HI := Zh hu
   have hif : ¬ (O.may l out = false \/ O.below ⟨f, n', 0⟩ out = false) := by rw [hpm, hpb]; simp
   by_cases hp3 : u = true
   ·subst hp3
    have hs3 : (l, (11 : Int)) = (l2, er) := by rw [<- hs]; unfold O.add; rw [if_neg hif, if_pos hu]
    obtain ⟨rfl, rfl⟩ := Prod.mk.inj hs3
    obtain rfl : n = n2 := by rw [<- h2, HT.out.1]
    clear hs hs3 h2
    clear hpm hpb hl hu hif
    go_enter Tryz.func93, Tryz.ntmps93
    have hb := O.box_below w ⟨f, n', 0⟩
    have hk := O.box_is w ⟨f, n', 0⟩
    dsimp only [O.box] at hb hk
    have HBT := Zh hb
    have HKT := Zh hk
    clear hb hk
    go_wp2_with fail
    obtain ⟨w1, hw1⟩ : ∃ W, w.alloc (.cells #[.int .i64 f, .int .i64 n', .int .i64 0] 111) = W := ⟨_, rfl⟩
    have hb := HBT.out
    have hk := HKT.out
    rw [hw1] at hb hk ⊢
    clear hw1 HBT HKT
    have HKp1 := Zh hk
    clear hk
    have HB1 := Zt HB0 hb
    clear hb
    have pf0 := HKp1.out.b0
    have pf1 := HKp1.out.b1
    have pf2 := HKp1.out.b2
    skip
    refine (zbi a n c l out true HM.out w1 (HT.out.below HB1.out) (by omega) HZ.out).mono ?_
    clear pf0 pf1 pf2
    rintro e w2 ⟨rfl, hb⟩
    have HKp2 := Zh (HKp1.out.on hb)
    have HB2 := Zt HB1 hb
    clear hb
    have pf0 := HKp2.out.b0
    have pf1 := HKp2.out.b1
    have pf2 := HKp2.out.b2
    go_wp2_with fail
    refine (za1 (⟨f, n', 0⟩ : O.Pl) out true w2 HP.out hout hf).mono ?_
    clear pf0 pf1 pf2
    rintro e w3 ⟨rfl, hb⟩
    have HKp3 := Zh (HKp2.out.on hb)
    have HB3 := Zt HB2 hb
    clear hb
    have pf0 := HKp3.out.b0
    have pf1 := HKp3.out.b1
    have pf2 := HKp3.out.b2
    go_wp2_with fail
    refine (za7 (⟨f, n', 0⟩ : O.Pl) w3).mono ?_
    clear pf0 pf1 pf2
    rintro e w4 ⟨bx, rfl, HX, hb⟩
    have HKp4 := Zh (HKp3.out.on hb)
    have HB4 := Zt HB3 hb
    clear hb
    have pf0 := HKp4.out.b0
    have pf1 := HKp4.out.b1
    have pf2 := HKp4.out.b2
    unfold O.clo
    go_wp2_with fail
    refine (zbu a n c l ⟨f, n', 0⟩ bx true HI.out w4 (HT.out.below HB4.out) HX.out (by omega)).mono ?_
    clear pf0 pf1 pf2
    rintro e w5 ⟨rfl, hb⟩
    have HKp5 := Zh (HKp4.out.on hb)
    have HB5 := Zt HB4 hb
    clear hb
    have pf0 := HKp5.out.b0
    have pf1 := HKp5.out.b1
    have pf2 := HKp5.out.b2
    go_wp2_with fail
    refine (za2 a n c l w5 (HT.out.below HB5.out) hn).mono ?_
    clear pf0 pf1 pf2
    rintro e w6 ⟨a3, c3, rfl, ht3, hb⟩
    have HKp6 := Zh (HKp5.out.on hb)
    have HB6 := Zt HB5 hb
    clear hb
    have pf0 := HKp6.out.b0
    have pf1 := HKp6.out.b1
    have pf2 := HKp6.out.b2
    go_wp2
    go_ret2
    exact ⟨a3, c3, rfl, Zh (ht3.out.le (Below.size HB5.out)), HB6.out⟩
   ·obtain rfl : u = false := by simpa using hp3
    clear hp3
    by_cases hp4 : n = 3
    ·have e3 : ((n : Int) == 3) = true := by rw [hp4]; rfl
     have hs3 : (l, (9 : Int)) = (l2, er) := by rw [<- hs]; unfold O.add; rw [if_neg hif, if_neg (by rw [show (l.any fun q => O.hit ⟨f, n', 0⟩ q) = false from hu]; decide), if_pos (by rw [hl]; exact hp4)]
     obtain ⟨rfl, rfl⟩ := Prod.mk.inj hs3
     obtain rfl : n = n2 := by rw [<- h2, HT.out.1]
     clear hs hs3 h2
     clear hpm hpb hl hu hif hp4
     go_enter Tryz.func93, Tryz.ntmps93
     have hb := O.box_below w ⟨f, n', 0⟩
     have hk := O.box_is w ⟨f, n', 0⟩
     dsimp only [O.box] at hb hk
     have HBT := Zh hb
     have HKT := Zh hk
     clear hb hk
     go_wp2_with fail
     obtain ⟨w1, hw1⟩ : ∃ W, w.alloc (.cells #[.int .i64 f, .int .i64 n', .int .i64 0] 111) = W := ⟨_, rfl⟩
     have hb := HBT.out
     have hk := HKT.out
     rw [hw1] at hb hk ⊢
     clear hw1 HBT HKT
     have HKp1 := Zh hk
     clear hk
     have HB1 := Zt HB0 hb
     clear hb
     have pf0 := HKp1.out.b0
     have pf1 := HKp1.out.b1
     have pf2 := HKp1.out.b2
     skip
     refine (zbi a n c l out true HM.out w1 (HT.out.below HB1.out) (by omega) HZ.out).mono ?_
     clear pf0 pf1 pf2
     rintro e w2 ⟨rfl, hb⟩
     have HKp2 := Zh (HKp1.out.on hb)
     have HB2 := Zt HB1 hb
     clear hb
     have pf0 := HKp2.out.b0
     have pf1 := HKp2.out.b1
     have pf2 := HKp2.out.b2
     go_wp2_with fail
     refine (za1 (⟨f, n', 0⟩ : O.Pl) out true w2 HP.out hout hf).mono ?_
     clear pf0 pf1 pf2
     rintro e w3 ⟨rfl, hb⟩
     have HKp3 := Zh (HKp2.out.on hb)
     have HB3 := Zt HB2 hb
     clear hb
     have pf0 := HKp3.out.b0
     have pf1 := HKp3.out.b1
     have pf2 := HKp3.out.b2
     go_wp2_with fail
     refine (za7 (⟨f, n', 0⟩ : O.Pl) w3).mono ?_
     clear pf0 pf1 pf2
     rintro e w4 ⟨bx, rfl, HX, hb⟩
     have HKp4 := Zh (HKp3.out.on hb)
     have HB4 := Zt HB3 hb
     clear hb
     have pf0 := HKp4.out.b0
     have pf1 := HKp4.out.b1
     have pf2 := HKp4.out.b2
     unfold O.clo
     go_wp2_with fail
     refine (zbu a n c l ⟨f, n', 0⟩ bx false HI.out w4 (HT.out.below HB4.out) HX.out (by omega)).mono ?_
     clear pf0 pf1 pf2
     rintro e w5 ⟨rfl, hb⟩
     have HKp5 := Zh (HKp4.out.on hb)
     have HB5 := Zt HB4 hb
     clear hb
     have pf0 := HKp5.out.b0
     have pf1 := HKp5.out.b1
     have pf2 := HKp5.out.b2
     go_wp2_with fail
     refine (za2 a n c l w5 (HT.out.below HB5.out) hn).mono ?_
     clear pf0 pf1 pf2
     rintro e w6 ⟨a3, c3, rfl, ht3, hb⟩
     have HKp6 := Zh (HKp5.out.on hb)
     have HB6 := Zt HB5 hb
     clear hb
     have pf0 := HKp6.out.b0
     have pf1 := HKp6.out.b1
     have pf2 := HKp6.out.b2
     go_wp2
     go_ret2
     exact ⟨a3, c3, rfl, Zh (ht3.out.le (Below.size HB5.out)), HB6.out⟩
    ·have e3 : ((n : Int) == 3) = false := by simp; omega
     have hs3 : l ++ [⟨f, n', 0⟩] = l2 /\ (0 : Int) = er := by
      have : (l ++ [⟨f, n', 0⟩], (0 : Int)) = (l2, er) := by rw [<- hs]; unfold O.add; rw [if_neg hif, if_neg (by rw [show (l.any fun q => O.hit ⟨f, n', 0⟩ q) = false from hu]; decide), if_neg (by rw [hl]; exact hp4)]
      exact Prod.mk.inj this
     obtain ⟨hl2, rfl⟩ := hs3
     have HL2 := Zh hl2
     have H2 := Zh h2
     clear hl2 hs h2 hpm hpb hl hu hif hp4
     go_enter Tryz.func93, Tryz.ntmps93
     have hb := O.box_below w ⟨f, n', 0⟩
     have hk := O.box_is w ⟨f, n', 0⟩
     dsimp only [O.box] at hb hk
     have HBT := Zh hb
     have HKT := Zh hk
     clear hb hk
     go_wp2_with fail
     obtain ⟨w1, hw1⟩ : ∃ W, w.alloc (.cells #[.int .i64 f, .int .i64 n', .int .i64 0] 111) = W := ⟨_, rfl⟩
     have hb := HBT.out
     have hk := HKT.out
     rw [hw1] at hb hk ⊢
     clear hw1 HBT HKT
     have HKp1 := Zh hk
     clear hk
     have HB1 := Zt HB0 hb
     clear hb
     have pf0 := HKp1.out.b0
     have pf1 := HKp1.out.b1
     have pf2 := HKp1.out.b2
     skip
     refine (zbi a n c l out true HM.out w1 (HT.out.below HB1.out) (by omega) HZ.out).mono ?_
     clear pf0 pf1 pf2
     rintro e w2 ⟨rfl, hb⟩
     have HKp2 := Zh (HKp1.out.on hb)
     have HB2 := Zt HB1 hb
     clear hb
     have pf0 := HKp2.out.b0
     have pf1 := HKp2.out.b1
     have pf2 := HKp2.out.b2
     go_wp2_with fail
     refine (za1 (⟨f, n', 0⟩ : O.Pl) out true w2 HP.out hout hf).mono ?_
     clear pf0 pf1 pf2
     rintro e w3 ⟨rfl, hb⟩
     have HKp3 := Zh (HKp2.out.on hb)
     have HB3 := Zt HB2 hb
     clear hb
     have pf0 := HKp3.out.b0
     have pf1 := HKp3.out.b1
     have pf2 := HKp3.out.b2
     go_wp2_with fail
     refine (za7 (⟨f, n', 0⟩ : O.Pl) w3).mono ?_
     clear pf0 pf1 pf2
     rintro e w4 ⟨bx, rfl, HX, hb⟩
     have HKp4 := Zh (HKp3.out.on hb)
     have HB4 := Zt HB3 hb
     clear hb
     have pf0 := HKp4.out.b0
     have pf1 := HKp4.out.b1
     have pf2 := HKp4.out.b2
     unfold O.clo
     go_wp2_with fail
     refine (zbu a n c l ⟨f, n', 0⟩ bx false HI.out w4 (HT.out.below HB4.out) HX.out (by omega)).mono ?_
     clear pf0 pf1 pf2
     rintro e w5 ⟨rfl, hb⟩
     have HKp5 := Zh (HKp4.out.on hb)
     have HB5 := Zt HB4 hb
     clear hb
     have pf0 := HKp5.out.b0
     have pf1 := HKp5.out.b1
     have pf2 := HKp5.out.b2
     go_wp2_with fail
     refine (zgw a n c l f n' l2 n2 w5 (HT.out.below HB5.out) hn HL2.out H2.out).mono ?_
     clear pf0 pf1 pf2
     rintro e w6 ⟨a3, c3, rfl, ht3, hb⟩
     have HKp6 := Zh (HKp5.out.on hb)
     have HB6 := Zt HB5 hb
     clear hb
     have pf0 := HKp6.out.b0
     have pf1 := HKp6.out.b1
     have pf2 := HKp6.out.b2
     go_wp2
     go_ret2
     exact ⟨a3, c3, rfl, Zh (ht3.out.le (Below.size HB5.out)), HB6.out⟩
open Go.RowKit
theorem zgy (a : Option Addr) (n c : Nat) (l : List O.Pl) (out k : Int) (l2 : List O.Pl) (n2 : Nat) (er : Int) (w : World) (h : QIn w a n c l) (hn : n <= 800) (hz : O.Sm l) (hs : O.drain l out k = (l2, er)) (h2 : l2.length = n2) :
  Calls Tryz.prog 94 #[.slice a n c, .int .i64 out, .int .i64 k] w fun e w' => ∃ a2 c2, e = .returned (.tuple #[.slice a2 n2 c2, .int .i64 er]) /\ Hid (QUp w.heap.size w' a2 n2 c2 l2) /\ Below w.heap.size w w' := by
 have HT := Zh h
 have hl := h.1
 have HB0 := Zh (Below.refl w.heap.size w)
 have HZ := Zh hz
 obtain ⟨sk, hsk⟩ : ∃ s, O.seek l out k = s := ⟨_, rfl⟩
 have HSK := Zh hsk
 clear h hz
 by_cases hp1 : sk = 0
 ·subst hp1
  have hsk' := O.seek_ok.1 hsk
  obtain ⟨m, rfl⟩ : ∃ m : Nat, k = m := ⟨k.toNat, by omega⟩
  have hm : m < n := by omega
  have hx := List.getElem?_eq_getElem (show m < l.length by omega)
  obtain ⟨x, hxl⟩ : ∃ x, l[m]'(by omega) = x := ⟨_, rfl⟩
  rw [hxl] at hx
  have hat := O.at_some hx
  have HX := Zh hx
  have m0 : (0 : Int) <= m := by omega
  have m1 : (m : Int) < n := by omega
  have hs1 := O.drain_yes hsk
  rw [hs, hat] at hs1
  clear hsk' hxl hx hs
  by_cases hp2 : x.s = 1
  ·have e1 : (x.s == 1) = true := by rw [hp2]; rfl
   rw [if_pos hp2] at hs1
   obtain ⟨rfl, rfl⟩ := Prod.mk.inj hs1.symm
   obtain rfl : n = n2 := by rw [<- h2, hl]
   clear hs1 h2 hl hat hp2 hsk
   go_enter Tryz.func94, Tryz.ntmps94
   go_wp2_with fail
   refine (zbl a n c l out m 0 w (HT.out.below HB0.out) hn HZ.out HSK.out).mono ?_
   rintro e w1 ⟨rfl, hb⟩
   have HB1 := Zt HB0 hb
   clear hb
   obtain ⟨b, off, y, hay, hbl, hxy, p0, p1, p2⟩ := (HT.out.below HB1.out).at hm
   obtain rfl : x = y := by have := HX.out; rw [hxy] at this; exact (Option.some.inj this).symm
   cases hay
   clear hxy hbl
   go_wp2_with fail
   refine (za2 (some ⟨b, off, none⟩) n c l w1 (HT.out.below HB1.out) hn).mono ?_
   clear p0 p1 p2
   rintro e w2 ⟨a3, c3, rfl, ht3, hb⟩
   have HB2 := Zt HB1 hb
   clear hb
   go_wp2
   go_ret2
   exact ⟨a3, c3, rfl, Zh (ht3.out.le (Below.size HB1.out)), HB2.out⟩
  ·have e1 : (x.s == 1) = false := by simpa using hp2
   rw [if_neg hp2] at hs1
   obtain ⟨hl2, rfl⟩ := Prod.mk.inj hs1.symm
   have HL2 : Hid (l.set ((m : Int).toNat) { O.at' l (m : Int) with s := 1 } = l2) := Zh (by rw [hat]; exact hl2)
   have H2 := Zh h2
   clear hs1 h2 hl hat hp2 hsk hl2
   go_enter Tryz.func94, Tryz.ntmps94
   go_wp2_with fail
   refine (zbl a n c l out m 0 w (HT.out.below HB0.out) hn HZ.out HSK.out).mono ?_
   rintro e w1 ⟨rfl, hb⟩
   have HB1 := Zt HB0 hb
   clear hb
   obtain ⟨b, off, y, hay, hbl, hxy, p0, p1, p2⟩ := (HT.out.below HB1.out).at hm
   obtain rfl : x = y := by have := HX.out; rw [hxy] at this; exact (Option.some.inj this).symm
   cases hay
   clear hxy hbl
   go_wp2_with fail
   refine (zkd (some ⟨b, off, none⟩) n c l m l2 n2 w1 (HT.out.below HB1.out) hn m0 m1 HL2.out H2.out).mono ?_
   clear p0 p1 p2
   rintro e w2 ⟨a3, c3, rfl, ht3, hb⟩
   have HB2 := Zt HB1 hb
   clear hb
   go_wp2
   go_ret2
   exact ⟨a3, c3, rfl, Zh (ht3.out.le (Below.size HB1.out)), HB2.out⟩
 ·have e1 : (sk != 0) = true := by simpa using hp1
  have hs1 := O.drain_no (l := l) (out := out) (k := k) (by rw [hsk]; exact hp1)
  rw [hs, hsk] at hs1
  obtain ⟨rfl, rfl⟩ := Prod.mk.inj hs1.symm
  obtain rfl : n = n2 := by rw [<- h2, hl]
  clear hs hs1 h2 hl hsk hp1
  go_enter Tryz.func94, Tryz.ntmps94
  go_wp2_with fail
  refine (zbl a n c l out k sk w (HT.out.below HB0.out) hn HZ.out HSK.out).mono ?_
  rintro e w1 ⟨rfl, hb⟩
  have HB1 := Zt HB0 hb
  clear hb
  go_wp2_with fail
  refine (za2 a n c l w1 (HT.out.below HB1.out) hn).mono ?_
  rintro e w2 ⟨a3, c3, rfl, ht3, hb⟩
  have HB2 := Zt HB1 hb
  clear hb
  go_wp2
  go_ret2
  exact ⟨a3, c3, rfl, Zh (ht3.out.le (Below.size HB1.out)), HB2.out⟩
open Go.RowKit
theorem zix (a : Option Addr) (n c : Nat) (l : List O.Pl) (out k n' : Int) (ab : Option Addr) (nb cb : Nat) (bs : List Int) (l2 : List O.Pl) (n2 : Nat) (er : Int) (w : World) (h : QIn w a n c l) (hn : n <= 800) (hz : O.Sm l) (hu : BIn w ab nb cb bs) (hnb : nb <= 1000000) (hs : O.size l out k n' bs = (l2, er)) (h2 : l2.length = n2) :
  Calls Tryz.prog 95 #[.slice a n c, .int .i64 out, .int .i64 k, .int .i64 n', .slice ab nb cb] w fun e w' => ∃ a2 c2, e = .returned (.tuple #[.slice a2 n2 c2, .int .i64 er]) /\ Hid (QUp w.heap.size w' a2 n2 c2 l2) /\ Below w.heap.size w w' := by
 have HT := Zh h
 have hl := h.1
 have HB0 := Zh (Below.refl w.heap.size w)
 have HU := Zh hu
 have HZ := Zh hz
 obtain ⟨sk, hsk⟩ : ∃ s, O.seek l out k = s := ⟨_, rfl⟩
 have HSK := Zh hsk
 clear h hz hu
 by_cases hp1 : sk = 0
 ·subst hp1
  have hsk' := O.seek_ok.1 hsk
  have hmay := O.may_iff.1 hsk'.1
  have hout : 0 <= out /\ out <= 4 := ⟨hmay.1, hmay.2.1⟩
  obtain ⟨m, rfl⟩ : ∃ m : Nat, k = m := ⟨k.toNat, by omega⟩
  have hm : m < n := by omega
  have hx := List.getElem?_eq_getElem (show m < l.length by omega)
  obtain ⟨x, hxl⟩ : ∃ x, l[m]'(by omega) = x := ⟨_, rfl⟩
  rw [hxl] at hx
  have hat := O.at_some hx
  have HX := Zh hx
  have m0 : (0 : Int) <= m := by omega
  have m1 : (m : Int) < n := by omega
  have hs1 := O.size_yes (n := n') (busy := bs) hsk
  rw [hs, hat] at hs1
  have hxf : x.f <= 9223372036854775807 := HZ.out x (List.mem_of_getElem? hx)
  have H3 : Hid (l.eraseIdx ((m : Int).toNat) = l.eraseIdx m) := Zh rfl
  obtain ⟨l3, hl3⟩ : ∃ l3, l.eraseIdx ((m : Int).toNat) = l3 := ⟨_, rfl⟩
  obtain ⟨n3, hn3⟩ : ∃ n3, l3.length = n3 := ⟨_, rfl⟩
  have hn3' : n3 <= 800 := by have := List.length_eraseIdx_le l ((m : Int).toNat); rw [hl3, hn3] at this; omega
  have HL3 := Zh hl3
  have HN3 := Zh hn3
  rw [hl3] at hs1
  obtain ⟨u1, hu1⟩ : ∃ u, O.below { x with n := n' } out = u := ⟨_, rfl⟩
  obtain ⟨u2, hu2⟩ : ∃ u, (l3.any fun q => O.hit { x with n := n' } q) = u := ⟨_, rfl⟩
  obtain ⟨u3, hu3⟩ : ∃ u, O.loses x { x with n := n' } bs = u := ⟨_, rfl⟩
  rw [hu1, hu2, hu3] at hs1
  have HBE : Hid (O.below ⟨x.f, n', 0⟩ out = u1) := Zh hu1
  have HHI : Hid (l3.any (O.hit ⟨x.f, n', 0⟩) = u2) := Zh hu2
  have HLO : Hid (O.loses x ⟨x.f, n', 0⟩ bs = u3) := Zh hu3
  have HAT := Zh hat
  clear hsk' hmay hxl hx hs hat hu1 hu2 hu3 hl3 hn3
  by_cases hp2 : u1 = false
  ·subst hp2
   rw [if_pos rfl] at hs1
   obtain ⟨rfl, rfl⟩ := Prod.mk.inj hs1.symm
   obtain rfl : n = n2 := by rw [<- h2, hl]
   clear hs1 h2 hl hsk
   go_enter Tryz.func95, Tryz.ntmps95
   go_wp2_with fail
   refine (zbl a n c l out m 0 w (HT.out.below HB0.out) hn HZ.out HSK.out).mono ?_
   rintro e w1 ⟨rfl, hb⟩
   have HB1 := Zt HB0 hb
   clear hb
   obtain ⟨b, off, y, hay, hbl, hxy, p0, p1, p2⟩ := (HT.out.below HB1.out).at hm
   obtain rfl : x = y := by have := HX.out; rw [hxy] at this; exact (Option.some.inj this).symm
   cases hay
   clear hxy hbl
   have hb := O.box_below w1 ⟨x.f, n', 0⟩
   have hk := O.box_is w1 ⟨x.f, n', 0⟩
   dsimp only [O.box] at hb hk
   have HBT := Zh hb
   have HKT := Zh hk
   clear hb hk
   go_wp2_with fail
   obtain ⟨w2, hw2⟩ : ∃ W, w1.alloc (.cells #[.int .i64 x.f, .int .i64 n', .int .i64 0] 111) = W := ⟨_, rfl⟩
   have hb := HBT.out
   have hk := HKT.out
   rw [hw2] at hb hk ⊢
   clear hw2 HBT HKT
   clear p0 p1 p2
   have HKp2 := Zh hk
   clear hk
   have HB2 := Zt HB1 hb
   clear hb
   have pf0 := HKp2.out.b0
   have pf1 := HKp2.out.b1
   have pf2 := HKp2.out.b2
   skip
   refine (zdd (some ⟨b, off, none⟩) n c l m l3 n3 w2 (HT.out.below HB2.out) hn m0 HL3.out HN3.out).mono ?_
   clear pf0 pf1 pf2
   rintro e w3 ⟨a3, c3, rfl, hto, hb⟩
   have HKp3 := Zh (HKp2.out.on hb)
   have HB3 := Zt HB2 hb
   clear hb
   have pf0 := HKp3.out.b0
   have pf1 := HKp3.out.b1
   have pf2 := HKp3.out.b2
   have HLo3 := hto
   clear hto
   go_wp2_with fail
   refine (za1 (⟨x.f, n', 0⟩ : O.Pl) out false w3 HBE.out hout hxf).mono ?_
   clear pf0 pf1 pf2
   rintro e w4 ⟨rfl, hb⟩
   have HKp4 := Zh (HKp3.out.on hb)
   have HLo4 := Zh (HLo3.out.below hb)
   have HB4 := Zt HB3 hb
   clear hb
   have pf0 := HKp4.out.b0
   have pf1 := HKp4.out.b1
   have pf2 := HKp4.out.b2
   go_wp2_with fail
   refine (za2 (some ⟨b, off, none⟩) n c l w4 (HT.out.below HB4.out) hn).mono ?_
   clear pf0 pf1 pf2
   rintro e w5 ⟨a3, c3, rfl, ht3, hb⟩
   have HKp5 := Zh (HKp4.out.on hb)
   have HLo5 := Zh (HLo4.out.below hb)
   have HB5 := Zt HB4 hb
   clear hb
   have pf0 := HKp5.out.b0
   have pf1 := HKp5.out.b1
   have pf2 := HKp5.out.b2
   go_wp2
   go_ret2
   exact ⟨a3, c3, rfl, Zh (ht3.out.le (Below.size HB4.out)), HB5.out⟩
  ·obtain rfl : u1 = true := by simpa using hp2
   rw [if_neg (by decide)] at hs1
   clear hp2
   by_cases hp3 : u2 = true
   ·subst hp3
    rw [if_pos rfl] at hs1
    obtain ⟨rfl, rfl⟩ := Prod.mk.inj hs1.symm
    obtain rfl : n = n2 := by rw [<- h2, hl]
    clear hs1 h2 hl hsk
    go_enter Tryz.func95, Tryz.ntmps95
    go_wp2_with fail
    refine (zbl a n c l out m 0 w (HT.out.below HB0.out) hn HZ.out HSK.out).mono ?_
    rintro e w1 ⟨rfl, hb⟩
    have HB1 := Zt HB0 hb
    clear hb
    obtain ⟨b, off, y, hay, hbl, hxy, p0, p1, p2⟩ := (HT.out.below HB1.out).at hm
    obtain rfl : x = y := by have := HX.out; rw [hxy] at this; exact (Option.some.inj this).symm
    cases hay
    clear hxy hbl
    have hb := O.box_below w1 ⟨x.f, n', 0⟩
    have hk := O.box_is w1 ⟨x.f, n', 0⟩
    dsimp only [O.box] at hb hk
    have HBT := Zh hb
    have HKT := Zh hk
    clear hb hk
    go_wp2_with fail
    obtain ⟨w2, hw2⟩ : ∃ W, w1.alloc (.cells #[.int .i64 x.f, .int .i64 n', .int .i64 0] 111) = W := ⟨_, rfl⟩
    have hb := HBT.out
    have hk := HKT.out
    rw [hw2] at hb hk ⊢
    clear hw2 HBT HKT
    clear p0 p1 p2
    have HKp2 := Zh hk
    clear hk
    have HB2 := Zt HB1 hb
    clear hb
    have pf0 := HKp2.out.b0
    have pf1 := HKp2.out.b1
    have pf2 := HKp2.out.b2
    skip
    refine (zdd (some ⟨b, off, none⟩) n c l m l3 n3 w2 (HT.out.below HB2.out) hn m0 HL3.out HN3.out).mono ?_
    clear pf0 pf1 pf2
    rintro e w3 ⟨a3, c3, rfl, hto, hb⟩
    have HKp3 := Zh (HKp2.out.on hb)
    have HB3 := Zt HB2 hb
    clear hb
    have pf0 := HKp3.out.b0
    have pf1 := HKp3.out.b1
    have pf2 := HKp3.out.b2
    have HLo3 := hto
    clear hto
    go_wp2_with fail
    refine (za1 (⟨x.f, n', 0⟩ : O.Pl) out true w3 HBE.out hout hxf).mono ?_
    clear pf0 pf1 pf2
    rintro e w4 ⟨rfl, hb⟩
    have HKp4 := Zh (HKp3.out.on hb)
    have HLo4 := Zh (HLo3.out.below hb)
    have HB4 := Zt HB3 hb
    clear hb
    have pf0 := HKp4.out.b0
    have pf1 := HKp4.out.b1
    have pf2 := HKp4.out.b2
    go_wp2_with fail
    refine (za7 (⟨x.f, n', 0⟩ : O.Pl) w4).mono ?_
    clear pf0 pf1 pf2
    rintro e w5 ⟨bx, rfl, HXB, hb⟩
    have HKp5 := Zh (HKp4.out.on hb)
    have HLo5 := Zh (HLo4.out.below hb)
    have HB5 := Zt HB4 hb
    clear hb
    have pf0 := HKp5.out.b0
    have pf1 := HKp5.out.b1
    have pf2 := HKp5.out.b2
    unfold O.clo
    go_wp2_with fail
    refine (zbu a3 n3 c3 l3 ⟨x.f, n', 0⟩ bx true HHI.out w5 HLo5.out HXB.out (by omega)).mono ?_
    clear pf0 pf1 pf2
    rintro e w6 ⟨rfl, hb⟩
    have HKp6 := Zh (HKp5.out.on hb)
    have HLo6 := Zh (HLo5.out.below hb)
    have HB6 := Zt HB5 hb
    clear hb
    have pf0 := HKp6.out.b0
    have pf1 := HKp6.out.b1
    have pf2 := HKp6.out.b2
    go_wp2_with fail
    refine (za2 (some ⟨b, off, none⟩) n c l w6 (HT.out.below HB6.out) hn).mono ?_
    clear pf0 pf1 pf2
    rintro e w7 ⟨a3, c3, rfl, ht3, hb⟩
    have HKp7 := Zh (HKp6.out.on hb)
    have HLo7 := Zh (HLo6.out.below hb)
    have HB7 := Zt HB6 hb
    clear hb
    have pf0 := HKp7.out.b0
    have pf1 := HKp7.out.b1
    have pf2 := HKp7.out.b2
    go_wp2
    go_ret2
    exact ⟨a3, c3, rfl, Zh (ht3.out.le (Below.size HB6.out)), HB7.out⟩
   ·obtain rfl : u2 = false := by simpa using hp3
    rw [if_neg (by decide)] at hs1
    clear hp3
    by_cases hp4 : u3 = true
    ·subst hp4
     rw [if_pos rfl] at hs1
     obtain ⟨rfl, rfl⟩ := Prod.mk.inj hs1.symm
     obtain rfl : n = n2 := by rw [<- h2, hl]
     clear hs1 h2 hl hsk
     go_enter Tryz.func95, Tryz.ntmps95
     go_wp2_with fail
     refine (zbl a n c l out m 0 w (HT.out.below HB0.out) hn HZ.out HSK.out).mono ?_
     rintro e w1 ⟨rfl, hb⟩
     have HB1 := Zt HB0 hb
     clear hb
     obtain ⟨b, off, y, hay, hbl, hxy, p0, p1, p2⟩ := (HT.out.below HB1.out).at hm
     obtain rfl : x = y := by have := HX.out; rw [hxy] at this; exact (Option.some.inj this).symm
     cases hay
     clear hxy hbl
     have hb := O.box_below w1 ⟨x.f, n', 0⟩
     have hk := O.box_is w1 ⟨x.f, n', 0⟩
     dsimp only [O.box] at hb hk
     have HBT := Zh hb
     have HKT := Zh hk
     clear hb hk
     go_wp2_with fail
     obtain ⟨w2, hw2⟩ : ∃ W, w1.alloc (.cells #[.int .i64 x.f, .int .i64 n', .int .i64 0] 111) = W := ⟨_, rfl⟩
     have hb := HBT.out
     have hk := HKT.out
     rw [hw2] at hb hk ⊢
     clear hw2 HBT HKT
     clear p0 p1 p2
     have HKp2 := Zh hk
     clear hk
     have HB2 := Zt HB1 hb
     clear hb
     have pf0 := HKp2.out.b0
     have pf1 := HKp2.out.b1
     have pf2 := HKp2.out.b2
     skip
     refine (zdd (some ⟨b, off, none⟩) n c l m l3 n3 w2 (HT.out.below HB2.out) hn m0 HL3.out HN3.out).mono ?_
     clear pf0 pf1 pf2
     rintro e w3 ⟨a3, c3, rfl, hto, hb⟩
     have HKp3 := Zh (HKp2.out.on hb)
     have HB3 := Zt HB2 hb
     clear hb
     have pf0 := HKp3.out.b0
     have pf1 := HKp3.out.b1
     have pf2 := HKp3.out.b2
     have HLo3 := hto
     clear hto
     go_wp2_with fail
     refine (za1 (⟨x.f, n', 0⟩ : O.Pl) out true w3 HBE.out hout hxf).mono ?_
     clear pf0 pf1 pf2
     rintro e w4 ⟨rfl, hb⟩
     have HKp4 := Zh (HKp3.out.on hb)
     have HLo4 := Zh (HLo3.out.below hb)
     have HB4 := Zt HB3 hb
     clear hb
     have pf0 := HKp4.out.b0
     have pf1 := HKp4.out.b1
     have pf2 := HKp4.out.b2
     go_wp2_with fail
     refine (za7 (⟨x.f, n', 0⟩ : O.Pl) w4).mono ?_
     clear pf0 pf1 pf2
     rintro e w5 ⟨bx, rfl, HXB, hb⟩
     have HKp5 := Zh (HKp4.out.on hb)
     have HLo5 := Zh (HLo4.out.below hb)
     have HB5 := Zt HB4 hb
     clear hb
     have pf0 := HKp5.out.b0
     have pf1 := HKp5.out.b1
     have pf2 := HKp5.out.b2
     unfold O.clo
     go_wp2_with fail
     refine (zbu a3 n3 c3 l3 ⟨x.f, n', 0⟩ bx false HHI.out w5 HLo5.out HXB.out (by omega)).mono ?_
     clear pf0 pf1 pf2
     rintro e w6 ⟨rfl, hb⟩
     have HKp6 := Zh (HKp5.out.on hb)
     have HLo6 := Zh (HLo5.out.below hb)
     have HB6 := Zt HB5 hb
     clear hb
     have pf0 := HKp6.out.b0
     have pf1 := HKp6.out.b1
     have pf2 := HKp6.out.b2
     obtain ⟨b2, off2, y, hay, hbl, hxy, p0, p1, p2⟩ := (HT.out.below HB6.out).at hm
     obtain rfl : x = y := by have := HX.out; rw [hxy] at this; exact (Option.some.inj this).symm
     cases hay
     clear hxy hbl
     clear pf0 pf1 pf2
     have cp0 := fun d os => cell_regrown p0 d os
     have cp1 := fun d os => cell_regrown p1 d os
     have cp2 := fun d os => cell_regrown p2 d os
     have q0 := HKp6.out.b0
     have cq0 := fun d os => cell_regrown q0 d os
     have q1 := HKp6.out.b1
     have cq1 := fun d os => cell_regrown q1 d os
     have q2 := HKp6.out.b2
     have cq2 := fun d os => cell_regrown q2 d os
     have c1 := fun d os => zcs x ⟨x.f, n', 0⟩ ab nb cb bs true HLO.out (Go.Sort.grow (redrawn w6 d) os) ((HU.out.below HB6.out).below (below_regrown w6 d os)) hnb
     unfold O.val at c1
     go_wp2_with fail
     refine wp_region_quiet_below (by kernel_rfl) (by kernel_rfl) ?_
     repeat (go_big_quiet_step (with_reducible exact Calls.regrown_of (c1 _ _)))
     refine wpQuiet_nil ?_
     intro _ hw'
     obtain ⟨⟨dq, osq⟩, hw''⟩ := hw'
     subst hw''
     clear p0 p1 p2 cp0 cp1 cp2 q0 q1 q2 cq0 cq1 cq2 c1
     obtain ⟨w7, hw7⟩ : ∃ W, Go.Sort.grow (redrawn w6 dq) osq = W := ⟨_, rfl⟩
     have hb : Below w6.heap.size w6 w7 := by rw [<- hw7]; exact below_regrown _ _ _
     rw [hw7]
     clear hw7
     have HB7 := Zt HB6 hb
     clear hb
     go_wp2_with fail
     refine (za2 (some ⟨b, off, none⟩) n c l w7 (HT.out.below HB7.out) hn).mono ?_
     rintro e w8 ⟨a3, c3, rfl, ht3, hb⟩
     have HB8 := Zt HB7 hb
     clear hb
     go_wp2
     go_ret2
     exact ⟨a3, c3, rfl, Zh (ht3.out.le (Below.size HB7.out)), HB8.out⟩
    ·obtain rfl : u3 = false := by simpa using hp4
     rw [if_neg (by decide)] at hs1
     obtain ⟨hl2, rfl⟩ := Prod.mk.inj hs1.symm
     have HL2 : Hid (l.set ((m : Int).toNat) { O.at' l (m : Int) with n := n' } = l2) := Zh (by rw [HAT.out]; exact hl2)
     have H2 := Zh h2
     clear hs1 h2 hl hl2 hp4 hsk
     go_enter Tryz.func95, Tryz.ntmps95
     go_wp2_with fail
     refine (zbl a n c l out m 0 w (HT.out.below HB0.out) hn HZ.out HSK.out).mono ?_
     rintro e w1 ⟨rfl, hb⟩
     have HB1 := Zt HB0 hb
     clear hb
     obtain ⟨b, off, y, hay, hbl, hxy, p0, p1, p2⟩ := (HT.out.below HB1.out).at hm
     obtain rfl : x = y := by have := HX.out; rw [hxy] at this; exact (Option.some.inj this).symm
     cases hay
     clear hxy hbl
     have hb := O.box_below w1 ⟨x.f, n', 0⟩
     have hk := O.box_is w1 ⟨x.f, n', 0⟩
     dsimp only [O.box] at hb hk
     have HBT := Zh hb
     have HKT := Zh hk
     clear hb hk
     go_wp2_with fail
     obtain ⟨w2, hw2⟩ : ∃ W, w1.alloc (.cells #[.int .i64 x.f, .int .i64 n', .int .i64 0] 111) = W := ⟨_, rfl⟩
     have hb := HBT.out
     have hk := HKT.out
     rw [hw2] at hb hk ⊢
     clear hw2 HBT HKT
     clear p0 p1 p2
     have HKp2 := Zh hk
     clear hk
     have HB2 := Zt HB1 hb
     clear hb
     have pf0 := HKp2.out.b0
     have pf1 := HKp2.out.b1
     have pf2 := HKp2.out.b2
     skip
     refine (zdd (some ⟨b, off, none⟩) n c l m l3 n3 w2 (HT.out.below HB2.out) hn m0 HL3.out HN3.out).mono ?_
     clear pf0 pf1 pf2
     rintro e w3 ⟨a3, c3, rfl, hto, hb⟩
     have HKp3 := Zh (HKp2.out.on hb)
     have HB3 := Zt HB2 hb
     clear hb
     have pf0 := HKp3.out.b0
     have pf1 := HKp3.out.b1
     have pf2 := HKp3.out.b2
     have HLo3 := hto
     clear hto
     go_wp2_with fail
     refine (za1 (⟨x.f, n', 0⟩ : O.Pl) out true w3 HBE.out hout hxf).mono ?_
     clear pf0 pf1 pf2
     rintro e w4 ⟨rfl, hb⟩
     have HKp4 := Zh (HKp3.out.on hb)
     have HLo4 := Zh (HLo3.out.below hb)
     have HB4 := Zt HB3 hb
     clear hb
     have pf0 := HKp4.out.b0
     have pf1 := HKp4.out.b1
     have pf2 := HKp4.out.b2
     go_wp2_with fail
     refine (za7 (⟨x.f, n', 0⟩ : O.Pl) w4).mono ?_
     clear pf0 pf1 pf2
     rintro e w5 ⟨bx, rfl, HXB, hb⟩
     have HKp5 := Zh (HKp4.out.on hb)
     have HLo5 := Zh (HLo4.out.below hb)
     have HB5 := Zt HB4 hb
     clear hb
     have pf0 := HKp5.out.b0
     have pf1 := HKp5.out.b1
     have pf2 := HKp5.out.b2
     unfold O.clo
     go_wp2_with fail
     refine (zbu a3 n3 c3 l3 ⟨x.f, n', 0⟩ bx false HHI.out w5 HLo5.out HXB.out (by omega)).mono ?_
     clear pf0 pf1 pf2
     rintro e w6 ⟨rfl, hb⟩
     have HKp6 := Zh (HKp5.out.on hb)
     have HLo6 := Zh (HLo5.out.below hb)
     have HB6 := Zt HB5 hb
     clear hb
     have pf0 := HKp6.out.b0
     have pf1 := HKp6.out.b1
     have pf2 := HKp6.out.b2
     obtain ⟨b2, off2, y, hay, hbl, hxy, p0, p1, p2⟩ := (HT.out.below HB6.out).at hm
     obtain rfl : x = y := by have := HX.out; rw [hxy] at this; exact (Option.some.inj this).symm
     cases hay
     clear hxy hbl
     clear pf0 pf1 pf2
     have cp0 := fun d os => cell_regrown p0 d os
     have cp1 := fun d os => cell_regrown p1 d os
     have cp2 := fun d os => cell_regrown p2 d os
     have q0 := HKp6.out.b0
     have cq0 := fun d os => cell_regrown q0 d os
     have q1 := HKp6.out.b1
     have cq1 := fun d os => cell_regrown q1 d os
     have q2 := HKp6.out.b2
     have cq2 := fun d os => cell_regrown q2 d os
     have c1 := fun d os => zcs x ⟨x.f, n', 0⟩ ab nb cb bs false HLO.out (Go.Sort.grow (redrawn w6 d) os) ((HU.out.below HB6.out).below (below_regrown w6 d os)) hnb
     unfold O.val at c1
     go_wp2_with fail
     refine wp_region_quiet_below (by kernel_rfl) (by kernel_rfl) ?_
     repeat (go_big_quiet_step (with_reducible exact Calls.regrown_of (c1 _ _)))
     refine wpQuiet_nil ?_
     intro _ hw'
     obtain ⟨⟨dq, osq⟩, hw''⟩ := hw'
     subst hw''
     clear p0 p1 p2 cp0 cp1 cp2 q0 q1 q2 cq0 cq1 cq2 c1
     obtain ⟨w7, hw7⟩ : ∃ W, Go.Sort.grow (redrawn w6 dq) osq = W := ⟨_, rfl⟩
     have hb : Below w6.heap.size w6 w7 := by rw [<- hw7]; exact below_regrown _ _ _
     rw [hw7]
     clear hw7
     have HB7 := Zt HB6 hb
     clear hb
     go_wp2_with fail
     refine (zke (some ⟨b, off, none⟩) n c l m n' l2 n2 w7 (HT.out.below HB7.out) hn m0 m1 HL2.out H2.out).mono ?_
     rintro e w8 ⟨a3, c3, rfl, ht3, hb⟩
     have HB8 := Zt HB7 hb
     clear hb
     go_wp2
     go_ret2
     exact ⟨a3, c3, rfl, Zh (ht3.out.le (Below.size HB7.out)), HB8.out⟩
 ·have e1 : (sk != 0) = true := by simpa using hp1
  have hs1 := O.size_no (l := l) (out := out) (k := k) (n := n') (busy := bs) (by rw [hsk]; exact hp1)
  rw [hs, hsk] at hs1
  obtain ⟨rfl, rfl⟩ := Prod.mk.inj hs1.symm
  obtain rfl : n = n2 := by rw [<- h2, hl]
  clear hs hs1 h2 hl hsk hp1
  go_enter Tryz.func95, Tryz.ntmps95
  go_wp2_with fail
  refine (zbl a n c l out k sk w (HT.out.below HB0.out) hn HZ.out HSK.out).mono ?_
  rintro e w1 ⟨rfl, hb⟩
  have HB1 := Zt HB0 hb
  clear hb
  go_wp2_with fail
  refine (za2 a n c l w1 (HT.out.below HB1.out) hn).mono ?_
  rintro e w2 ⟨a3, c3, rfl, ht3, hb⟩
  have HB2 := Zt HB1 hb
  clear hb
  go_wp2
  go_ret2
  exact ⟨a3, c3, rfl, Zh (ht3.out.le (Below.size HB1.out)), HB2.out⟩
open Go.RowKit
theorem ziy (a : Option Addr) (n c : Nat) (l : List O.Pl) (out k : Int) (ab : Option Addr) (nb cb : Nat) (bs : List Int) (l2 : List O.Pl) (n2 : Nat) (er : Int) (w : World) (h : QIn w a n c l) (hn : n <= 800) (hz : O.Sm l) (hu : BIn w ab nb cb bs) (hnb : nb <= 1000000) (hs : O.gone l out k bs = (l2, er)) (h2 : l2.length = n2) :
  Calls Tryz.prog 96 #[.slice a n c, .int .i64 out, .int .i64 k, .slice ab nb cb] w fun e w' => ∃ a2 c2, e = .returned (.tuple #[.slice a2 n2 c2, .int .i64 er]) /\ Hid (QUp w.heap.size w' a2 n2 c2 l2) /\ Below w.heap.size w w' := by
 have HT := Zh h
 have hl := h.1
 have HB0 := Zh (Below.refl w.heap.size w)
 have HU := Zh hu
 have HZ := Zh hz
 obtain ⟨sk, hsk⟩ : ∃ s, O.seek l out k = s := ⟨_, rfl⟩
 have HSK := Zh hsk
 clear h hz hu
 by_cases hp1 : sk = 0
 ·subst hp1
  have hsk' := O.seek_ok.1 hsk
  have hmay := O.may_iff.1 hsk'.1
  have hout : 0 <= out /\ out <= 4 := ⟨hmay.1, hmay.2.1⟩
  obtain ⟨m, rfl⟩ : ∃ m : Nat, k = m := ⟨k.toNat, by omega⟩
  have hm : m < n := by omega
  have hx := List.getElem?_eq_getElem (show m < l.length by omega)
  obtain ⟨x, hxl⟩ : ∃ x, l[m]'(by omega) = x := ⟨_, rfl⟩
  rw [hxl] at hx
  have hat := O.at_some hx
  have HX := Zh hx
  have m0 : (0 : Int) <= m := by omega
  have m1 : (m : Int) < n := by omega
  have hs1 := O.gone_yes (busy := bs) hsk
  rw [hs, hat] at hs1
  clear hsk' hmay hout hxl hx hs hat
  obtain ⟨u, hu⟩ : ∃ u, O.loses x O.zp bs = u := ⟨_, rfl⟩
  have HLO := Zh hu
  by_cases hp2 : x.s = 0
  ·have e1 : (x.s == 0) = true := by rw [hp2]; rfl
   rw [if_pos (.inl hp2)] at hs1
   obtain ⟨rfl, rfl⟩ := Prod.mk.inj hs1.symm
   obtain rfl : n = n2 := by rw [<- h2, hl]
   clear hs1 h2 hl hp2 hsk hu
   go_enter Tryz.func96, Tryz.ntmps96
   go_wp2_with fail
   refine (zbl a n c l out m 0 w (HT.out.below HB0.out) hn HZ.out HSK.out).mono ?_
   rintro e w1 ⟨rfl, hb⟩
   have HB1 := Zt HB0 hb
   clear hb
   obtain ⟨b, off, y, hay, hbl, hxy, p0, p1, p2⟩ := (HT.out.below HB1.out).at hm
   obtain rfl : x = y := by have := HX.out; rw [hxy] at this; exact (Option.some.inj this).symm
   cases hay
   clear hxy hbl
   go_wp2_with fail
   refine (za2 (some ⟨b, off, none⟩) n c l w1 (HT.out.below HB1.out) hn).mono ?_
   clear p0 p1 p2
   rintro e w2 ⟨a3, c3, rfl, ht3, hb⟩
   have HB2 := Zt HB1 hb
   clear hb
   go_wp2
   go_ret2
   exact ⟨a3, c3, rfl, Zh (ht3.out.le (Below.size HB1.out)), HB2.out⟩
  ·have e1 : (x.s == 0) = false := by simpa using hp2
   by_cases hp3 : u = true
   ·subst hp3
    rw [if_pos (.inr hu)] at hs1
    obtain ⟨rfl, rfl⟩ := Prod.mk.inj hs1.symm
    obtain rfl : n = n2 := by rw [<- h2, hl]
    clear hs1 h2 hl hp2 hsk hu
    go_enter Tryz.func96, Tryz.ntmps96
    go_wp2_with fail
    refine (zbl a n c l out m 0 w (HT.out.below HB0.out) hn HZ.out HSK.out).mono ?_
    rintro e w1 ⟨rfl, hb⟩
    have HB1 := Zt HB0 hb
    clear hb
    obtain ⟨b, off, y, hay, hbl, hxy, p0, p1, p2⟩ := (HT.out.below HB1.out).at hm
    obtain rfl : x = y := by have := HX.out; rw [hxy] at this; exact (Option.some.inj this).symm
    cases hay
    clear hxy hbl
    go_wp2_with fail
    refine (zcs x O.zp ab nb cb bs true HLO.out w1 (HU.out.below HB1.out) hnb).mono ?_
    clear p0 p1 p2
    rintro e w2 ⟨rfl, hb⟩
    have HB2 := Zt HB1 hb
    clear hb
    go_wp2_with fail
    refine (za2 (some ⟨b, off, none⟩) n c l w2 (HT.out.below HB2.out) hn).mono ?_
    rintro e w3 ⟨a3, c3, rfl, ht3, hb⟩
    have HB3 := Zt HB2 hb
    clear hb
    go_wp2
    go_ret2
    exact ⟨a3, c3, rfl, Zh (ht3.out.le (Below.size HB2.out)), HB3.out⟩
   ·obtain rfl : u = false := by simpa using hp3
    rw [if_neg (by rw [hu]; simp [hp2])] at hs1
    obtain ⟨hl2, rfl⟩ := Prod.mk.inj hs1.symm
    have HL2 := Zh hl2
    have H2 := Zh h2
    clear hs1 h2 hl hp2 hsk hl2 hu hp3
    go_enter Tryz.func96, Tryz.ntmps96
    go_wp2_with fail
    refine (zbl a n c l out m 0 w (HT.out.below HB0.out) hn HZ.out HSK.out).mono ?_
    rintro e w1 ⟨rfl, hb⟩
    have HB1 := Zt HB0 hb
    clear hb
    obtain ⟨b, off, y, hay, hbl, hxy, p0, p1, p2⟩ := (HT.out.below HB1.out).at hm
    obtain rfl : x = y := by have := HX.out; rw [hxy] at this; exact (Option.some.inj this).symm
    cases hay
    clear hxy hbl
    go_wp2_with fail
    refine (zcs x O.zp ab nb cb bs false HLO.out w1 (HU.out.below HB1.out) hnb).mono ?_
    clear p0 p1 p2
    rintro e w2 ⟨rfl, hb⟩
    have HB2 := Zt HB1 hb
    clear hb
    go_wp2_with fail
    refine (zgx (some ⟨b, off, none⟩) n c l m l2 n2 w2 (HT.out.below HB2.out) hn m0 HL2.out H2.out).mono ?_
    rintro e w3 ⟨a3, c3, rfl, ht3, hb⟩
    have HB3 := Zt HB2 hb
    clear hb
    go_wp2
    go_ret2
    exact ⟨a3, c3, rfl, Zh (ht3.out.le (Below.size HB2.out)), HB3.out⟩
 ·have e1 : (sk != 0) = true := by simpa using hp1
  have hs1 := O.gone_no (l := l) (out := out) (k := k) (busy := bs) (by rw [hsk]; exact hp1)
  rw [hs, hsk] at hs1
  obtain ⟨rfl, rfl⟩ := Prod.mk.inj hs1.symm
  obtain rfl : n = n2 := by rw [<- h2, hl]
  clear hs hs1 h2 hl hsk hp1
  go_enter Tryz.func96, Tryz.ntmps96
  go_wp2_with fail
  refine (zbl a n c l out k sk w (HT.out.below HB0.out) hn HZ.out HSK.out).mono ?_
  rintro e w1 ⟨rfl, hb⟩
  have HB1 := Zt HB0 hb
  clear hb
  go_wp2_with fail
  refine (za2 a n c l w1 (HT.out.below HB1.out) hn).mono ?_
  rintro e w2 ⟨a3, c3, rfl, ht3, hb⟩
  have HB2 := Zt HB1 hb
  clear hb
  go_wp2
  go_ret2
  exact ⟨a3, c3, rfl, Zh (ht3.out.le (Below.size HB1.out)), HB2.out⟩
end Go.Proofs.YtijkbflimbffmaaGreat
