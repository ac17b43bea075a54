import Derived.Test.YtijkbflimbffmaaGreatP8
import Derived.Test.YtijkbflimbffmaaGreatP9
namespace Go.Proofs.YtijkbflimbffmaaGreat
set_option maxHeartbeats 800000
set_option maxRecDepth 100000
open Go.RowKit
theorem zbm (a : Option Addr) (n c : Nat) (l : List L.Ls) (w : World) (hn : n <= 1000) (hd : RIn w a n c l) :
  Calls Tryz.prog 72 #[.slice a n c] w fun e w' => ∃ v, e = .returned v /\ Hid (w'.ownsRow w.heap.size 60 5 v n (L.flat l)) /\ Below w.heap.size w w' := by
 have HD := Zh hd
 cases a with
 | none =>
  obtain ⟨rfl, rfl⟩ := hd.2.2.1 rfl
  obtain rfl : l = [] := List.eq_nil_of_length_eq_zero hd.1
  clear hd
  have he : ∀ w : World, (binOp .eql 29 (.slice none 0 0) (.slice none 0 0)).run Tryz.prog w = .ok (.bool true) w := fun _ => by kernel_rfl
  go_enter Tryz.func72, Tryz.ntmps72
  go_wp2
  go_ret
  exact ⟨_, rfl, Zh (World.ownsRow_nil _ _ _ _), Below.refl _ _⟩
 | some x =>
  clear hd
  have he : ∀ w : World, (binOp .eql 29 (.slice (some x) n c) (.slice none 0 0)).run Tryz.prog w = .ok (.bool false) w := fun _ => by kernel_rfl
  go_enter Tryz.func72, Tryz.ntmps72
  go_wp2_with (at_builtin; refine zb6 (α := L.Ls) rfl _ _ 29 60 rfl _ 40 Tryz.underlying29 zay rfl (by decide) w.heap.size _ 0 [] rfl (L.own_nil (Blok.new w 60 #[]) (Nat.le_refl _)) (some x) n c l rfl (HD.out.below ((Below.refl _ w).alloc (Nat.le_refl _) _)) (by omega) (by simp) ?_; intro v' w2 hown' hgrow)
  go_ret
  rw [Nat.zero_add] at hown'
  have h2 : w2.ownsRow w.heap.size 60 (L.Rec.k L.Ls) v' n (L.flat l) := by simpa using hown'
  exact ⟨v', rfl, Zh h2, ((Below.refl _ w).alloc (Nat.le_refl _) _).grown hgrow (by simp) (fun k ek => by cases ek; exact Nat.le_refl _)⟩
theorem zim (a : Option Addr) (n c : Nat) (l k : List L.Ls) (at' blk : Int) (b : Bool) (n2 : Nat) (hk : L.del l at' blk = (k, b)) (hn2 : k.length = n2) (w : World) (h : RIn w a n c l) (hn : n <= 800) :
  Calls Tryz.prog 173 #[.slice a n c, .int .i64 at', .int .i64 blk] w fun e w' => ∃ v, e = .returned (.tuple #[v, .bool b]) /\ Hid (w'.ownsRow w.heap.size 60 5 v n2 (L.flat k)) /\ Below w.heap.size w w' := by
 have HT := Zh h
 have hl := h.1
 have c1 := zbm a n c l w (by omega) h
 clear h
 rcases L.find_cases l at' blk with ⟨hf, _⟩ | ⟨i, x, hf, hi, _⟩
 ·have e1 : ((-1 : Int) == -1) = true := rfl
  have hd : L.del l at' blk = (l, false) := by unfold L.del; rw [if_pos hf]
  rw [hk] at hd
  obtain ⟨rfl, rfl⟩ := Prod.mk.inj hd
  obtain rfl : n = n2 := by rw [<- hn2, hl]
  clear hk hn2 hd
  go_enter Tryz.func173, Tryz.ntmps173
  go_wp2_with fail
  refine c1.mono ?_
  rintro e w2 ⟨v, rfl, ho, hb2⟩
  have c2 := zni a n c k at' blk (-1) hf w2 (HT.out.below hb2) (by omega)
  obtain ⟨a2, cc, rfl, hr⟩ := zcn ho.out hl
  have HR := Zh ho.out
  have HB2 := Zh hb2
  clear c1 ho hb2 hr
  go_wp2_with fail
  refine c2.mono ?_
  rintro e w3 ⟨rfl, hb3⟩
  have HR3 := Zh (zab HR.out hb3)
  have HB3 := Zt HB2 hb3
  clear c2 hb3
  go_wp2
  go_ret2
  exact ⟨_, rfl, HR3, HB3.out⟩
 ·have e1 : ((i : Int) == -1) = false := by simp
  have hin : i < n := by rw [<- hl]; exact (List.getElem?_eq_some_iff.1 hi).1
  have hd : L.del l at' blk = (l.take i ++ l.drop (i + 1), true) := by unfold L.del; rw [hf, if_neg (by omega), Int.toNat_natCast]
  rw [hk] at hd
  obtain ⟨rfl, rfl⟩ := Prod.mk.inj hd
  have HN2 : Hid (n - 1 = n2) := Zh (by rw [<- hn2, List.length_append, List.length_take, List.length_drop] <;> omega)
  clear hk hn2 hd hi
  go_enter Tryz.func173, Tryz.ntmps173
  go_wp2_with fail
  refine c1.mono ?_
  rintro e w2 ⟨v, rfl, ho, hb2⟩
  have c2 := zni a n c l at' blk i hf w2 (HT.out.below hb2) (by omega)
  obtain ⟨g, cc, rfl⟩ : ∃ g cc, v = .slice (some ⟨g, 0, none⟩) n cc := by
   rcases ho.out.2 with ⟨rfl, h0⟩ | ⟨g, cap, _, rfl, _⟩
   ·omega
   ·exact ⟨g, cap, rfl⟩
  have HO := Zh ho.out
  have HB2 := Zh hb2
  clear c1 ho hb2 hf
  go_wp2_with fail
  refine c2.mono ?_
  rintro e w3 ⟨rfl, hb3⟩
  have HO3 := Zh (zab HO.out hb3)
  have HB3 := Zt HB2 hb3
  have c3 := zhb g n cc i (i + 1) w.heap.size l w3 HO3.out hl hin rfl (by omega)
  have hw1 : IntKind.i64.wrap ((i : Int) + 1) = (i : Int) + 1 := by rw [IntKind.wrap_i64]; omega
  have hw2 : (((i + 1 : Nat)) : Int) = (i : Int) + 1 := by omega
  rw [hw2] at c3
  clear c2 hb3
  go_wp2_with fail
  refine c3.mono ?_
  rintro e w4 ⟨rfl, ho4, hg4⟩
  have HB4 : Hid (Below w.heap.size w w4) := Zh (HB3.out.grown hg4.out HB3.out.size (fun k hk => by cases hk; exact (HO3.out.lt g rfl).1))
  have HR5 := Zh ho4.out
  clear c3 ho4 hg4
  have hn5 := HN2.out
  subst hn5
  go_wp2
  go_ret2
  exact ⟨_, rfl, HR5, HB4.out⟩
theorem L.spot_at (l : List L.Ls) (a b : Int) : L.at1 (L.behind a b) (l.map L.had) (l.length : Int) = (L.spot l a b : Nat) := by
 have h := L.at1_len (L.behind a b) (l.map L.had)
 rw [List.length_map] at h
 rw [h, List.findIdx_map]; rfl
theorem zin (a : Option Addr) (n c : Nat) (l k : List L.Ls) (x : L.Ls) (b : Bool) (n2 : Nat) (hk : L.put l x = (k, b)) (hn2 : k.length = n2) (w : World) (h : RIn w a n c l) (hn : n <= 800) :
  Calls Tryz.prog 172 #[.slice a n c, L.val x] w fun e w' => ∃ v, e = .returned (.tuple #[v, .bool b]) /\ Hid (w'.ownsRow w.heap.size 60 5 v n2 (L.flat k)) /\ Below w.heap.size w w' := by
 have HT := Zh h
 have hl := h.1
 obtain ⟨W0, hW0⟩ : ∃ W, w.alloc (.cells #[.int .i64 x.s, .int .i64 x.a, .int .i64 x.b, .int .i64 x.f, .int .i64 x.t] 60) = W := ⟨_, rfl⟩
 have B0 : Below w.heap.size w W0 := by rw [<- hW0]; exact (Below.refl _ w).alloc (Nat.le_refl _) _
 have K0 : L.Bx W0 w.heap.size 60 x := by rw [<- hW0]; exact Blok.new w _ _
 have HB0 := Zh B0
 have HK0 := Zh K0
 have x1 := Zv K0 1 (.int .i64 x.a)
 have x2 := Zv K0 2 (.int .i64 x.b)
 have hlen := L.put_len l x
 rw [hk, hn2, hl] at hlen
 unfold L.val
 clear h B0 K0
 by_cases h32 : 32 <= n
 ·have d1 : decide ((32 : Int) <= (n : Int)) = true := by simp; omega
  have d2 : decide (32 <= n) = true := by simp; omega
  have hp : L.put l x = (l, false) := by unfold L.put; rw [if_pos (.inl (by omega))]
  rw [hk] at hp
  obtain ⟨rfl, rfl⟩ := Prod.mk.inj hp
  obtain rfl : n2 = n := by rw [<- hn2, hl]
  have c1 := zbm a n2 c k W0 (by omega) (HT.out.below HB0.out)
  clear hk hn2 hp hlen
  go_enter Tryz.func172, Tryz.ntmps172
  go_wp2_with fail
  refine c1.mono ?_
  rintro e w2 ⟨v, rfl, ho, hb2⟩
  have HR := Zh (zan ho.out HB0.out.size)
  obtain ⟨a2, cc, rfl, hr⟩ := zcn ho.out hl
  have HB2 := Zt HB0 hb2
  clear c1 ho hb2 hr hW0
  go_wp2
  go_ret2
  exact ⟨_, rfl, HR, HB2.out⟩
 ·have d1 : decide ((32 : Int) <= (n : Int)) = false := by simp; omega
  have d2 : decide (32 <= n) = false := by simp; omega
  obtain ⟨r, hr⟩ : ∃ r, L.find l x.a x.b = r := ⟨_, rfl⟩
  have cf := zni a n c l x.a x.b r hr W0 (HT.out.below HB0.out) (by omega)
  by_cases hr1 : r = -1
  ·subst hr1
   have e1 : ((-1 : Int) != -1) = false := rfl
   have hp : L.put l x = (l.take (L.spot l x.a x.b) ++ x :: l.drop (L.spot l x.a x.b), true) := by unfold L.put; rw [if_neg (by omega)]
   rw [hk] at hp
   obtain ⟨rfl, rfl⟩ := Prod.mk.inj hp
   have HN2 : Hid (n + 1 = n2) := Zh (by simpa using hlen.symm)
   obtain ⟨sp, hsp⟩ : ∃ sp, L.spot l x.a x.b = sp := ⟨_, rfl⟩
   have hspl : sp <= n := by rw [<- hsp, <- hl]; exact L.spot_le _ _ _
   have hat := L.spot_at l x.a x.b
   rw [hsp, hl] at hat
   rw [hsp]
   clear hk hn2 hp hr hlen hsp
   go_enter Tryz.func172, Tryz.ntmps172
   go_wp2_with fail
   refine cf.mono ?_
   rintro e w2 ⟨rfl, hb2⟩
   have HB2 := Zt HB0 hb2
   have HK2 : Hid (L.Bx w2 w.heap.size 60 x) := Zh (Blok.below HK0.out hb2 (Blok.lt HK0.out))
   clear cf hb2 hW0 x1 x2
   have x1 := Zv HK2.out 1 (.int .i64 x.a)
   have x2 := Zv HK2.out 2 (.int .i64 x.b)
   have hwlt : w.heap.size < w2.heap.size := Blok.lt HK2.out
   obtain ⟨W3, hW3⟩ : ∃ W, w2.alloc (.cells #[.int .i64 x.a, .int .i64 x.b] 119) = W := ⟨_, rfl⟩
   have B3 : Below w2.heap.size w2 W3 := by rw [<- hW3]; exact (Below.refl _ w2).alloc (Nat.le_refl _) _
   have K3 : Blok W3 w2.heap.size 119 #[.int .i64 x.a, .int .i64 x.b] := by rw [<- hW3]; exact Blok.new w2 _ _
   have cl := zco a n c l W3 (HT.out.below (HB2.out.trans (B3.mono HB2.out.size))) (by omega)
   go_wp2_with fail
   refine cl.mono ?_
   rintro e w4 ⟨a4, c4, rfl, hr4, hb4, -⟩
   have K4 : Blok w4 w2.heap.size 119 #[.int .i64 x.a, .int .i64 x.b] := K3.below hb4 K3.lt
   have hb24 : Below w2.heap.size w2 w4 := B3.trans (hb4.mono B3.size)
   have HB4 := Zt HB2 hb24
   have HK4 : Hid (L.Bx w4 w.heap.size 60 x) := Zh (Blok.below HK2.out hb24 hwlt)
   have cp := zgd (w4.heap.size + 2) a4 n c4 (l.map L.had) 224 (enters_of Tryz.func224 (by kernel_rfl) rfl) #[.pointer (some ⟨w2.heap.size, 0, none⟩)] _ w4 hr4.out (put1 w2.heap.size x.a x.b w4 K4 w4.heap.size (w4.heap.size + 2) K4.lt (by have := K4.lt; omega)) ⟨by omega, by omega⟩ (hr4.out.off (by omega))
   clear cl hW3 B3 K3 hb4 K4 hb24 x1 x2
   go_wp2_with fail
   refine cp.mono ?_
   rintro e w5 ⟨bl, rfl, hG, hb5, hs5⟩
   have HB5 := Zt HB4 hb5
   have HK5 : Hid (L.Bx w5 w.heap.size 60 x) := Zh (Blok.below HK4.out hb5 (Blok.lt HK4.out))
   have cf2 := zcz 245 zep bl _ _ _ _ (n : Int) (sp : Int) w5 hG (by omega) (by rw [L.hd_pl]; exact hat)
   clear cp hG hb5
   go_wp2_with fail
   refine cf2.mono ?_
   rintro e w6 ⟨rfl, hb6⟩
   have HB6 := Zt HB5 hb6
   have HK6 : Hid (L.Bx w6 w.heap.size 60 x) := Zh (Blok.below HK5.out hb6 (Blok.lt HK5.out))
   clear cf2 hb6
   go_wp2_with fail
   have hN2 := HN2.out
   subst hN2
   have hw6 : w.heap.size < w6.heap.size := Blok.lt HK6.out
   refine Zd (fun w' => Below w6.heap.size w6 w') (zaa w6) fun HS0 => ?_
   refine tk 0 (.slice a n c) HS0 ?_
   refine tk 2 (.int .i64 sp) HS0 ?_
   refine Zl 3 (.agg #[.int .i64 x.s, .int .i64 x.a, .int .i64 x.b, .int .i64 x.f, .int .i64 x.t]) rfl (fun w9 hS => by
    have K9 : L.Bx w9 w.heap.size 60 x := Blok.below HK6.out hS hw6
    have y0 := Zv K9 0 (.int .i64 x.s)
    have y1 := Zv K9 1 (.int .i64 x.a)
    have y2 := Zv K9 2 (.int .i64 x.b)
    have y3 := Zv K9 3 (.int .i64 x.f)
    have y4 := Zv K9 4 (.int .i64 x.t)
    go_simp) HS0 ?_
   refine za8 (i := 1) (j := 4) (by kernel_rfl) ?_ ?_
   ·refine zbo (f := 72) (args := #[.slice a n c]) rfl (by kernel_rfl) (by kernel_rfl) (zbm a n c l _ (by omega) ((HT.out.below HB6.out).below HS0)) ?_
    rintro e w7 ⟨v, rfl, ho, hb7⟩
    refine Zu (Zr HS0 hb7) fun HS1 => ?_
    refine zaf (i := 4) (by kernel_rfl) ?_
    have b7 : Below w7.heap.size w7 (w7.alloc (.cells #[.int .i64 x.s, .int .i64 x.a, .int .i64 x.b, .int .i64 x.f, .int .i64 x.t] 60)) := (Below.refl _ w7).alloc (Nat.le_refl _) _
    have HS2 : (fun w' => Below w6.heap.size w6 w') (w7.alloc (.cells #[.int .i64 x.s, .int .i64 x.a, .int .i64 x.b, .int .i64 x.f, .int .i64 x.t] 60)) := Below.trans HS1 (b7.mono (Below.size HS1))
    refine zam (v := .slice (some ⟨w7.heap.size, 0, none⟩) 1 1) (w' := w7.alloc (.cells #[.int .i64 x.s, .int .i64 x.a, .int .i64 x.b, .int .i64 x.f, .int .i64 x.t] 60)) rfl (by kernel_rfl) (by kernel_rfl) ⟨HS2, ?_⟩
    refine Zc 5 226 #[v, .int .i64 sp, .slice (some ⟨w7.heap.size, 0, none⟩) 1 1] (zgu v n sp w7.heap.size w6.heap.size 60 l x _ (zab (zan ho.out (Below.size HS0)) b7) hl (by omega) hspl (Below.size HS2) (Blok.new w7 _ _) (fun e => by have := (ho.out.lt _ e).2; omega)) ?_
    rintro e w8 ⟨g, cg, rfl, ho8, hg8⟩
    refine Zu (Below.grown HS2 hg8.out (Below.size HS2) (fun i hi => Nat.le_trans (Below.size HS0) (ho.out.lt i hi).1)) fun HS3 => ?_
    have HR9 := Zh (zan ho8.out HB6.out.size)
    have HB9 : Hid (Below w.heap.size w w8) := Zh (HB6.out.trans (Below.mono HS3 HB6.out.size))
    refine tk 6 (.slice (some ⟨g, 0, none⟩) (n + 1) cg) HS3 ?_
    refine tk 7 (.bool true) HS3 ?_
    refine wpAnyH_done (by kernel_rfl) ?_ _
    go_wp2
    go_ret2
    exact ⟨_, rfl, HR9, HB9.out⟩
   ·have b7 : Below w6.heap.size w6.drew (w6.drew.alloc (.cells #[.int .i64 x.s, .int .i64 x.a, .int .i64 x.b, .int .i64 x.f, .int .i64 x.t] 60)) := (Below.refl _ w6.drew).alloc (Nat.le_refl _) _
    have HS1 : (fun w' => Below w6.heap.size w6 w') (w6.drew.alloc (.cells #[.int .i64 x.s, .int .i64 x.a, .int .i64 x.b, .int .i64 x.f, .int .i64 x.t] 60)) := Below.trans HS0 b7
    refine zam (v := .slice (some ⟨w6.heap.size, 0, none⟩) 1 1) (w' := w6.drew.alloc (.cells #[.int .i64 x.s, .int .i64 x.a, .int .i64 x.b, .int .i64 x.f, .int .i64 x.t] 60)) rfl (by kernel_rfl) (by kernel_rfl) ⟨HS1, ?_⟩
    have KB : L.Bx (w6.drew.alloc (.cells #[.int .i64 x.s, .int .i64 x.a, .int .i64 x.b, .int .i64 x.f, .int .i64 x.t] 60)) w6.heap.size 60 x := Blok.new w6.drew _ _
    obtain ⟨w7, hw7⟩ : ∃ W, w6.drew.alloc (.cells #[.int .i64 x.s, .int .i64 x.a, .int .i64 x.b, .int .i64 x.f, .int .i64 x.t] 60) = W := ⟨_, rfl⟩
    rw [hw7] at HS1 KB ⊢
    refine Zc 1 72 #[.slice a n c] (zbm a n c l _ (by omega) ((HT.out.below HB6.out).below HS1)) ?_
    rintro e w8 ⟨v, rfl, ho, hb8⟩
    refine Zu (Zr HS1 hb8) fun HS2 => ?_
    refine Zc 5 226 #[v, .int .i64 sp, .slice (some ⟨w6.heap.size, 0, none⟩) 1 1] (zgu v n sp w6.heap.size w6.heap.size 60 l x _ (zan ho.out (Below.size HS1)) hl (by omega) hspl (Below.size HS2) (Blok.below KB hb8 (Blok.lt KB)) (fun e => by have := (ho.out.lt _ e).1; have := Blok.lt KB; omega)) ?_
    rintro e w9 ⟨g, cg, rfl, ho8, hg8⟩
    refine Zu (Below.grown HS2 hg8.out (Below.size HS2) (fun i hi => Nat.le_trans (Below.size HS1) (ho.out.lt i hi).1)) fun HS3 => ?_
    have HR9 := Zh (zan ho8.out HB6.out.size)
    have HB9 : Hid (Below w.heap.size w w9) := Zh (HB6.out.trans (Below.mono HS3 HB6.out.size))
    refine tk 6 (.slice (some ⟨g, 0, none⟩) (n + 1) cg) HS3 ?_
    refine tk 7 (.bool true) HS3 ?_
    refine wpAnyH_done (by kernel_rfl) ?_ _
    go_wp2
    go_ret2
    exact ⟨_, rfl, HR9, HB9.out⟩
  ·have e1 : (r != -1) = true := by simpa using hr1
   have hp : L.put l x = (l, false) := by unfold L.put; rw [if_pos (.inr (by omega))]
   rw [hk] at hp
   obtain ⟨rfl, rfl⟩ := Prod.mk.inj hp
   obtain rfl : n2 = n := by rw [<- hn2, hl]
   clear hk hn2 hp hr hlen
   go_enter Tryz.func172, Tryz.ntmps172
   go_wp2_with fail
   refine cf.mono ?_
   rintro e w2 ⟨rfl, hb2⟩
   have HB2 := Zt HB0 hb2
   have c1 := zbm a n2 c k w2 (by omega) (HT.out.below HB2.out)
   clear cf hb2 hW0 x1 x2
   go_wp2_with fail
   refine c1.mono ?_
   rintro e w3 ⟨v, rfl, ho, hb3⟩
   have HR := Zh (zan ho.out HB2.out.size)
   obtain ⟨a2, cc, rfl, hr⟩ := zcn ho.out hl
   have HB3 := Zt HB2 hb3
   clear c1 ho hb3 hr
   go_wp2
   go_ret2
   exact ⟨_, rfl, HR, HB3.out⟩
open Go.RowKit
theorem zio (l : List L.T3) (x : L.T3) (o : List L.T3) (sp : Nat) (ho : L.others l x.a x.b = o) (hs : o.findIdx (L.behind x.a x.b) = sp) : L.hold l x = o.take sp ++ x :: o.drop sp := by
 unfold L.hold; rw [ho, hs]
theorem zj9 (a : Option Addr) (n c : Nat) (l k : List L.T3) (x : L.T3) (n2 : Nat) (hk : L.hold l x = k) (hn2 : k.length = n2) (w : World) (h : RIn w a n c l) (hn : n <= 800) :
  Calls Tryz.prog 174 #[.slice a n c, L.val3 x] w fun e w' => ∃ v, e = .returned v /\ Hid (w'.ownsRow w.heap.size 77 3 v n2 (L.flat k)) /\ Below w.heap.size w w' := by
 have HT := Zh h
 have hl := h.1
 obtain ⟨o, ho⟩ : ∃ o, L.others l x.a x.b = o := ⟨_, rfl⟩
 obtain ⟨m, hm⟩ : ∃ m, o.length = m := ⟨_, rfl⟩
 obtain ⟨sp, hsp⟩ : ∃ sp, o.findIdx (L.behind x.a x.b) = sp := ⟨_, rfl⟩
 have hmn : m <= n := by rw [<- hm, <- ho, <- hl]; exact List.length_filter_le _ _
 have hspm : sp <= m := by rw [<- hsp, <- hm]; exact List.findIdx_le_length
 rw [zio l x o sp ho hsp] at hk
 subst hk
 have HN2 : Hid (m + 1 = n2) := Zh (by rw [<- hn2, List.length_append, List.length_cons, List.length_take, List.length_drop]; omega)
 have hat : L.at1 (L.behind x.a x.b) o (m : Int) = (sp : Int) := by rw [<- hm, L.at1_len, hsp]
 have hof : l.filter (fun y => !L.isOf x.a x.b y) = o := ho
 obtain ⟨W0, hW0⟩ : ∃ W, (w.alloc (.cells #[.int .i64 x.a, .int .i64 x.b, .int .i64 x.x] 77)) = W := ⟨_, rfl⟩
 have B0 : Below w.heap.size w W0 := by rw [<- hW0]; exact (Below.refl _ w).alloc (Nat.le_refl _) _
 have s0 : W0.heap.size = w.heap.size + 1 := by rw [<- hW0]; simp
 have K0 : L.Bx W0 w.heap.size 77 x := by rw [<- hW0]; exact Blok.new w _ _
 obtain ⟨W1, hW1⟩ : ∃ W, W0.alloc (.cells #[.int .i64 x.a, .int .i64 x.b] 119) = W := ⟨_, rfl⟩
 have B1 : Below W0.heap.size W0 W1 := by rw [<- hW1]; exact (Below.refl _ W0).alloc (Nat.le_refl _) _
 have K1 : Blok W1 (w.heap.size + 1) 119 #[.int .i64 x.a, .int .i64 x.b] := by rw [<- hW1, <- s0]; exact Blok.new W0 _ _
 have HB1 := Zh (B0.trans (B1.mono B0.size))
 have HX1 : Hid (L.Bx W1 w.heap.size 77 x) := Zh (Blok.below K0 B1 (Blok.lt K0))
 have HK1 := Zh K1
 have x0 := Zv K0 0 (.int .i64 x.a)
 have x1 := Zv K0 1 (.int .i64 x.b)
 have c1 := zc9 a n c l W1 (HT.out.below HB1.out) (by omega)
 unfold L.val3
 clear h ho hn2 hsp B0 K0 B1 K1
 go_enter Tryz.func174, Tryz.ntmps174
 go_wp2_with fail
 try rw [hW1]
 refine c1.mono ?_
 rintro e w2 ⟨a2, c2, rfl, hr2, hb2, -⟩
 have HB2 := Zt HB1 hb2
 have HX2 : Hid (L.Bx w2 w.heap.size 77 x) := Zh (Blok.below HX1.out hb2 (Blok.lt HX1.out))
 have HK2 : Hid (Blok w2 (w.heap.size + 1) 119 #[.int .i64 x.a, .int .i64 x.b]) := Zh (HK1.out.below hb2 HK1.out.lt)
 have cp := zez (w2.heap.size + 2) a2 n c2 l 228 (enters_of Tryz.func228 (by kernel_rfl) rfl) #[.pointer (some ⟨w.heap.size + 1, 0, none⟩)] _ w2 hr2.out (zmx (w.heap.size + 1) x.a x.b w2 HK2.out w2.heap.size (w2.heap.size + 2) HK2.out.lt (by have := HK2.out.lt; omega)) ⟨by omega, by omega⟩ (hr2.out.off (by omega))
 clear c1 hb2 hW0 hW1 x0 x1
 go_wp2_with fail
 refine cp.mono ?_
 rintro e w3 ⟨bl, rfl, hG, hb3, hs3⟩
 have HB3 := Zt HB2 hb3
 have HX3 : Hid (L.Bx w3 w.heap.size 77 x) := Zh (Blok.below HX2.out hb3 (Blok.lt HX2.out))
 have HK3 : Hid (Blok w3 (w.heap.size + 1) 119 #[.int .i64 x.a, .int .i64 x.b]) := Zh (HK2.out.below hb3 HK2.out.lt)
 have cf := zeq a n c l o 158 zcg bl _ _ _ hof w3 (HT.out.below HB3.out) hG (by omega) (by omega)
 clear cp hG hb3 hs3
 go_wp2_with fail
 refine cf.mono ?_
 rintro e w4 ⟨v, rfl, ho4, hb4⟩
 rw [hm] at ho4
 have HB4 := Zt HB3 hb4
 have HO4 : Hid (w4.ownsRow w3.heap.size 77 3 v m (L.flat o)) := Zh ho4.out
 have HX4 : Hid (L.Bx w4 w.heap.size 77 x) := Zh (Blok.below HX3.out hb4 (Blok.lt HX3.out))
 have HK4 : Hid (Blok w4 (w.heap.size + 1) 119 #[.int .i64 x.a, .int .i64 x.b]) := Zh (HK3.out.below hb4 HK3.out.lt)
 have hw3 : w.heap.size < w3.heap.size := Blok.lt HX3.out
 have s34 := hb4.size
 clear cf hb4 ho4
 obtain ⟨a4, c4, hv, hr4⟩ := zdl HO4.out hm
 subst hv
 have HR4 := Zh hr4
 have c5 := zc9 a4 m c4 o w4 hr4 (by omega)
 clear hr4
 go_wp2_with fail
 refine c5.mono ?_
 rintro e w5 ⟨a5, c5', rfl, hr5, hb5, -⟩
 have HB5 := Zt HB4 hb5
 have HO5 := Zh (zab HO4.out hb5)
 have HX5 : Hid (L.Bx w5 w.heap.size 77 x) := Zh (Blok.below HX4.out hb5 (Blok.lt HX4.out))
 have HK5 : Hid (Blok w5 (w.heap.size + 1) 119 #[.int .i64 x.a, .int .i64 x.b]) := Zh (HK4.out.below hb5 HK4.out.lt)
 have cp := zez (w5.heap.size + 2) a5 m c5' o 229 (enters_of Tryz.func229 (by kernel_rfl) rfl) #[.pointer (some ⟨w.heap.size + 1, 0, none⟩)] _ w5 hr5.out (zmy (w.heap.size + 1) x.a x.b w5 HK5.out w5.heap.size (w5.heap.size + 2) HK5.out.lt (by have := HK5.out.lt; omega)) ⟨by omega, by omega⟩ (hr5.out.off (by omega))
 have s45 := hb5.size
 clear c5 hb5
 go_wp2_with fail
 refine cp.mono ?_
 rintro e w6 ⟨bl2, rfl, hG, hb6, hs6⟩
 have HB6 := Zt HB5 hb6
 have HO6 := Zh (zab HO5.out hb6)
 have HX6 : Hid (L.Bx w6 w.heap.size 77 x) := Zh (Blok.below HX5.out hb6 (Blok.lt HX5.out))
 have cf := zcz 158 zcg bl2 _ _ _ _ (m : Int) (sp : Int) w6 hG (by omega) (by rw [L.hd_pl]; exact hat)
 have s56 := hb6.size
 clear cp hG hb6
 go_wp2_with fail
 refine cf.mono ?_
 rintro e w7 ⟨rfl, hb7⟩
 have HB7 := Zt HB6 hb7
 have HO7 := Zh (zab HO6.out hb7)
 have KX7 : L.Bx w7 w.heap.size 77 x := Blok.below HX6.out hb7 (Blok.lt HX6.out)
 have y0 := Zv KX7 0 (.int .i64 x.a)
 have y1 := Zv KX7 1 (.int .i64 x.b)
 have y2 := Zv KX7 2 (.int .i64 x.x)
 have s37 : w3.heap.size <= w7.heap.size := by have := hb7.size; omega
 clear cf hb7
 obtain ⟨W8, hW8⟩ : ∃ W, w7.alloc (.cells #[.int .i64 x.a, .int .i64 x.b, .int .i64 x.x] 77) = W := ⟨_, rfl⟩
 have B8 : Below w7.heap.size w7 W8 := by rw [<- hW8]; exact (Below.refl _ w7).alloc (Nat.le_refl _) _
 have K8 : L.Bx W8 w7.heap.size 77 x := by rw [<- hW8]; exact Blok.new w7 _ _
 have HB8 := Zt HB7 B8
 have ci := zj8 (.slice a4 m c4) m sp w7.heap.size w3.heap.size 77 o x W8 (zab HO7.out B8) hm (by omega) hspm (Nat.le_trans s37 B8.size) K8 (fun e => by have := (HO7.out.lt _ e).2; omega)
 clear B8 K8
 go_wp2_with fail
 try rw [hW8]
 refine ci.mono ?_
 rintro e w9 ⟨g, cg, rfl, ho9, hg9⟩
 have HB9 : Hid (Below w.heap.size w w9) := Zh (HB8.out.grown hg9.out HB8.out.size (fun i hi => by have := (HO7.out.lt i hi).1; omega))
 have HR9 := Zh (zan ho9.out HB3.out.size)
 have hN2 := HN2.out
 subst hN2
 clear ci ho9 hg9
 go_wp2
 go_ret
 exact ⟨_, rfl, HR9, HB9.out⟩
open Go.RowKit
theorem zhc (a a' : Option Addr) (n m c c' : Nat) (l k : List L.Ls) (w : World) (h : RIn w a n c l) (h' : RIn w a' m c' k) (hn : n <= 1000000) (p : Bool) (hp : decide (l = k) = p) :
  Calls Tryz.prog 129 #[.slice a n c, .slice a' m c'] w fun e w' => e = .returned (.bool p) /\ Below w.heap.size w w' := by
 by_cases hnm : n = m
 ·subst hnm
  have HT := Zh h
  have HK := Zh h'
  have HP := Zh hp
  have dn : ((n : Int) != n) = false := by simp
  clear h h' hp
  go_enter Tryz.func129, Tryz.ntmps129
  go_wp2_with fail
  go_loopw [13] (fun i wr => ∃ k' : Nat, i = .int .i64 k' /\ k' <= n /\ Hid (l.take k' = k.take k') /\ Hid (Below w.heap.size w wr)) (fun i _ => n - (intOf i).toNat)
  case atStart => exact ⟨0, rfl, by omega, Zh (by simp), Zh (Below.refl _ _)⟩
  case round =>
   obtain ⟨i, rfl, hin, HA, HB⟩ := hrel
   by_cases hlt : i < n
   ·have d1 : decide ((i : Int) < n) = true := by simp; omega
    obtain ⟨b, off, x, rfl, hb, hx, p0, p1, p2, p3, p4⟩ := (HT.out.below HB.out).at5 hlt
    obtain ⟨b2, off2, y, rfl, hb2, hy, q0, q1, q2, q3, q4⟩ := (HK.out.below HB.out).at5 hlt
    have k0 : (0 : Int) <= i := by omega
    have k1 : (i : Int) < n := by omega
    have HX := Zh hx
    have HY := Zh hy
    clear hx hy
    by_cases hxy : x = y
    ·subst hxy
     have HE := Zh (L.same_step HX.out HY.out HA.out)
     go_wp2_with fail
     go_quiet (fail)
     go_wp2
     go_roundw
     case rel => exact ⟨i + 1, by go_num, by omega, HE, Zh (HB.out.trans (zad _ _ _))⟩
     case measure => simp [intOf] <;> omega
    ·have HE : Hid (p = false) := Zh (by rw [<- HP.out]; exact L.same_bad HX.out HY.out hxy)
     obtain ⟨x0, x1, x2, x3, x4⟩ := x
     obtain ⟨y0, y1, y2, y3, y4⟩ := y
     by_cases h0 : x0 = y0
     ·subst h0
      by_cases h1 : x1 = y1
      ·subst h1
       by_cases h2 : x2 = y2
       ·subst h2
        by_cases h3 : x3 = y3
        ·subst h3
         have h4 : ¬ x4 = y4 := fun e => hxy (by rw [e])
         have g4 : (x4 == y4) = false := by simpa using h4
         go_wp2_with fail
         go_quiet (fail)
         go_wp2
         go_ret
         exact ⟨by rw [HE.out]; rfl, HB.out.trans (zad _ _ _)⟩
        ·go_wp2_with fail
         go_quiet (fail)
         go_wp2
         go_ret
         exact ⟨by rw [HE.out]; rfl, HB.out.trans (zad _ _ _)⟩
       ·go_wp2_with fail
        go_quiet (fail)
        go_wp2
        go_ret
        exact ⟨by rw [HE.out]; rfl, HB.out.trans (zad _ _ _)⟩
      ·go_wp2_with fail
       go_quiet (fail)
       go_wp2
       go_ret
       exact ⟨by rw [HE.out]; rfl, HB.out.trans (zad _ _ _)⟩
     ·go_wp2_with fail
      go_quiet (fail)
      go_wp2
      go_ret
      exact ⟨by rw [HE.out]; rfl, HB.out.trans (zad _ _ _)⟩
   ·have d1 : decide ((i : Int) < n) = false := by simp; omega
    have HE : Hid (p = true) := Zh (by
     have h1 := HA.out
     rw [List.take_of_length_le (by rw [HT.out.1]; omega), List.take_of_length_le (by rw [HK.out.1]; omega)] at h1
     rw [<- HP.out]; exact decide_eq_true h1)
    go_wp2
    go_ret
    exact ⟨by rw [HE.out]; rfl, HB.out⟩
 ·have HE : Hid (p = false) := Zh (by
   rw [<- hp]
   refine decide_eq_false fun e => hnm ?_
   rw [<- h.1, <- h'.1, e])
  have dn : ((n : Int) != m) = true := by simp; omega
  clear h h' hp hnm
  go_enter Tryz.func129, Tryz.ntmps129
  go_wp2
  go_ret
  exact ⟨by rw [HE.out]; rfl, Below.refl _ _⟩
theorem zhd (a a' : Option Addr) (n m c c' : Nat) (l k : List L.T3) (w : World) (h : RIn w a n c l) (h' : RIn w a' m c' k) (hn : n <= 1000000) (p : Bool) (hp : decide (l = k) = p) :
  Calls Tryz.prog 130 #[.slice a n c, .slice a' m c'] w fun e w' => e = .returned (.bool p) /\ Below w.heap.size w w' := by
 by_cases hnm : n = m
 ·subst hnm
  have HT := Zh h
  have HK := Zh h'
  have HP := Zh hp
  have dn : ((n : Int) != n) = false := by simp
  clear h h' hp
  go_enter Tryz.func130, Tryz.ntmps130
  go_wp2_with fail
  go_loopw [13] (fun i wr => ∃ k' : Nat, i = .int .i64 k' /\ k' <= n /\ Hid (l.take k' = k.take k') /\ Hid (Below w.heap.size w wr)) (fun i _ => n - (intOf i).toNat)
  case atStart => exact ⟨0, rfl, by omega, Zh (by simp), Zh (Below.refl _ _)⟩
  case round =>
   obtain ⟨i, rfl, hin, HA, HB⟩ := hrel
   by_cases hlt : i < n
   ·have d1 : decide ((i : Int) < n) = true := by simp; omega
    obtain ⟨b, off, x, rfl, hb, hx, p0, p1, p2⟩ := (HT.out.below HB.out).at3 hlt
    obtain ⟨b2, off2, y, rfl, hb2, hy, q0, q1, q2⟩ := (HK.out.below HB.out).at3 hlt
    have k0 : (0 : Int) <= i := by omega
    have k1 : (i : Int) < n := by omega
    have HX := Zh hx
    have HY := Zh hy
    clear hx hy
    by_cases hxy : x = y
    ·subst hxy
     have HE := Zh (L.same_step HX.out HY.out HA.out)
     go_wp2_with fail
     go_quiet (fail)
     go_wp2
     go_roundw
     case rel => exact ⟨i + 1, by go_num, by omega, HE, Zh (HB.out.trans (zad _ _ _))⟩
     case measure => simp [intOf] <;> omega
    ·have HE : Hid (p = false) := Zh (by rw [<- HP.out]; exact L.same_bad HX.out HY.out hxy)
     obtain ⟨x0, x1, x2⟩ := x
     obtain ⟨y0, y1, y2⟩ := y
     by_cases h0 : x0 = y0
     ·subst h0
      by_cases h1 : x1 = y1
      ·subst h1
       have h2 : ¬ x2 = y2 := fun e => hxy (by rw [e])
       have g2 : (x2 == y2) = false := by simpa using h2
       go_wp2_with fail
       go_quiet (fail)
       go_wp2
       go_ret
       exact ⟨by rw [HE.out]; rfl, HB.out.trans (zad _ _ _)⟩
      ·go_wp2_with fail
       go_quiet (fail)
       go_wp2
       go_ret
       exact ⟨by rw [HE.out]; rfl, HB.out.trans (zad _ _ _)⟩
     ·go_wp2_with fail
      go_quiet (fail)
      go_wp2
      go_ret
      exact ⟨by rw [HE.out]; rfl, HB.out.trans (zad _ _ _)⟩
   ·have d1 : decide ((i : Int) < n) = false := by simp; omega
    have HE : Hid (p = true) := Zh (by
     have h1 := HA.out
     rw [List.take_of_length_le (by rw [HT.out.1]; omega), List.take_of_length_le (by rw [HK.out.1]; omega)] at h1
     rw [<- HP.out]; exact decide_eq_true h1)
    go_wp2
    go_ret
    exact ⟨by rw [HE.out]; rfl, HB.out⟩
 ·have HE : Hid (p = false) := Zh (by
   rw [<- hp]
   refine decide_eq_false fun e => hnm ?_
   rw [<- h.1, <- h'.1, e])
  have dn : ((n : Int) != m) = true := by simp; omega
  clear h h' hp hnm
  go_enter Tryz.func130, Tryz.ntmps130
  go_wp2
  go_ret
  exact ⟨by rw [HE.out]; rfl, Below.refl _ _⟩
theorem zgv (a a' : Option Addr) (n m c c' : Nat) (l k : List L.Ls) (w : World) (h : RIn w a n c l) (h' : RIn w a' m c' k) (hn : n <= 1000000) (p : Bool) (hp : decide (l = k) = p) :
  Calls Tryz.prog 62 #[.slice a n c, .slice a' m c'] w fun e w' => e = .returned (.bool p) /\ Below w.heap.size w w' := by
 have c1 := zhc a a' n m c c' l k w h h' hn p hp
 clear h h' hp
 go_enter Tryz.func62, Tryz.ntmps62
 go_wp2_with fail
 refine c1.mono ?_
 rintro e w2 ⟨rfl, hb2⟩
 go_wp2
 go_ret
 exact ⟨rfl, hb2⟩
theorem ze9 (a a' : Option Addr) (n m c c' : Nat) (l k : List L.T3) (w : World) (h : RIn w a n c l) (h' : RIn w a' m c' k) (hn : n <= 1000000) (p : Bool) (hp : decide (l = k) = p) :
  Calls Tryz.prog 63 #[.slice a n c, .slice a' m c'] w fun e w' => e = .returned (.bool p) /\ Below w.heap.size w w' := by
 have c1 := zhd a a' n m c c' l k w h h' hn p hp
 clear h h' hp
 go_enter Tryz.func63, Tryz.ntmps63
 go_wp2_with fail
 refine c1.mono ?_
 rintro e w2 ⟨rfl, hb2⟩
 go_wp2
 go_ret
 exact ⟨rfl, hb2⟩
end Go.Proofs.YtijkbflimbffmaaGreat
