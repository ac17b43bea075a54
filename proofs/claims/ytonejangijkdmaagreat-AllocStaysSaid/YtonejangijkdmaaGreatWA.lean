import Derived.ArgAppend
import Derived.Laws.OwnMore
import Derived.Shelf.Abstract
import Derived.Test.YtonejangijkdmaaGreatSC
import Derived.Shelf.GgSortFunc.Tiny
namespace Go.Proofs.YtonejangijkdmaaGreat
set_option maxHeartbeats 1000000
set_option maxRecDepth 100000
open Go.RowKit
def W.cells (t : W.Tm) : List Value := [.int .i64 t.1, .int .i64 t.2]
def W.flat (l : List W.Tm) : List Value := l.flatMap W.cells
theorem W.flat_cons (t : W.Tm) (l : List W.Tm) : W.flat (t :: l) = .int .i64 t.1 :: .int .i64 t.2 :: W.flat l := rfl
theorem W.flat_append (l k : List W.Tm) : W.flat (l ++ k) = W.flat l ++ W.flat k := by simp [W.flat]
theorem W.flat_len (l : List W.Tm) : (W.flat l).length = l.length * 2 := by
 induction l with
 | nil => rfl
 | cons t l ih => rw [W.flat_cons]; simp [ih]; omega
theorem W.flat_at : ∀ (l : List W.Tm) (i : Nat) (x : W.Tm), l[i]? = some x -> (W.flat l)[i * 2]? = some (.int .i64 x.1) /\ (W.flat l)[i * 2 + 1]? = some (.int .i64 x.2)
 | [], _, _, h => by simp at h
 | y :: l, 0, x, h => by
  obtain rfl : y = x := by simpa using h
  exact ⟨rfl, rfl⟩
 | y :: l, i + 1, x, h => by
  have := W.flat_at l i x (by simpa using h)
  have e : (i + 1) * 2 = i * 2 + 2 := by omega
  rw [e, W.flat_cons]
  exact this
theorem W.flat_one (l : List W.Tm) : ∀ u ∈ W.flat l, u.oneCell' = true := by
 intro u hu
 obtain ⟨t, _, ht⟩ := List.mem_flatMap.1 hu
 simp only [W.cells, List.mem_cons, List.not_mem_nil, or_false] at ht
 rcases ht with rfl | rfl <;> rfl
theorem W.flat_some {l : List W.Tm} {j : Nat} {u : Value} (h : (W.flat l)[j]? = some u) : ∃ i x, l[i]? = some x /\ (j = i * 2 /\ u = .int .i64 x.1 \/ j = i * 2 + 1 /\ u = .int .i64 x.2) := by
 have hj : j < l.length * 2 := by rw [<- W.flat_len]; exact (List.getElem?_eq_some_iff.1 h).1
 have hi : j / 2 < l.length := by omega
 have hx := List.getElem?_eq_getElem hi
 have h2 := W.flat_at l (j / 2) _ hx
 rcases Nat.mod_two_eq_zero_or_one j with h0 | h0
 ·refine ⟨j / 2, _, hx, .inl ⟨by omega, ?_⟩⟩
  have e : j / 2 * 2 = j := by omega
  rw [e, h] at h2
  exact Option.some.inj h2.1
 ·refine ⟨j / 2, _, hx, .inr ⟨by omega, ?_⟩⟩
  have e : j / 2 * 2 + 1 = j := by omega
  rw [e, h] at h2
  exact Option.some.inj h2.2
def TIn (w : World) (a : Option Addr) (n c : Nat) (l : List W.Tm) : Prop :=
 l.length = n /\ (n <= c /\ c <= maxLen) /\ (a = none -> n = 0 /\ c = 0) /\ (l = [] \/ ∃ b off, a = some ⟨b, off, none⟩ /\ b < w.heap.size /\ ∀ i x, l[i]? = some x -> w.cell? ⟨b, off + i * 2, none⟩ = some (.int .i64 x.1) /\ w.cell? ⟨b, off + i * 2 + 1, none⟩ = some (.int .i64 x.2))
theorem TIn.grown {w w' : World} {a : Option Addr} {n c : Nat} {l : List W.Tm} {row : Option Nat} (h : TIn w a n c l) (hg : w.grownBy w' row) (hr : ∀ x, a = some x -> some x.block ≠ row) : TIn w' a n c l := by
 refine ⟨h.1, h.2.1, h.2.2.1, ?_⟩
 rcases h.2.2.2 with h0 | ⟨b, off, rfl, hlt, hc⟩
 ·exact .inl h0
 ·refine .inr ⟨b, off, rfl, Nat.lt_of_lt_of_le hlt hg.size, fun i x hi => ?_⟩
  have hb : ∀ o, w'.cell? ⟨b, o, none⟩ = w.cell? ⟨b, o, none⟩ := fun o => by unfold World.cell?; rw [hg.block b hlt (hr _ rfl)]
  rw [hb, hb]; exact hc i x hi
theorem TIn.on {w w' : World} {a : Option Addr} {n c : Nat} {l : List W.Tm} (h : TIn w a n c l) (hg : w.grownBy w' none) : TIn w' a n c l := h.grown hg (by simp)
theorem TIn.below {w w' : World} {a : Option Addr} {n c : Nat} {l : List W.Tm} (h : TIn w a n c l) (hb : Below w.heap.size w w') : TIn w' a n c l :=
 h.on ⟨hb.os, hb.tape, hb.output, hb.size, fun i hi _ => hb.block i hi⟩
theorem TIn.nil (w : World) : TIn w none 0 0 [] := ⟨rfl, ⟨Nat.le_refl _, by simp [maxLen]⟩, fun _ => ⟨rfl, rfl⟩, .inl rfl⟩
theorem TIn.at {w : World} {a : Option Addr} {n c i : Nat} {l : List W.Tm} (h : TIn w a n c l) (hi : i < n) :
  ∃ b off x, a = some ⟨b, off, none⟩ /\ b < w.heap.size /\ l[i]? = some x /\ w.cell? ⟨b, off + i * 2, none⟩ = some (.int .i64 x.1) /\ w.cell? ⟨b, off + i * 2 + 1, none⟩ = some (.int .i64 x.2) := by
 rcases h.2.2.2 with rfl | ⟨b, off, rfl, hb, hc⟩
 ·have := h.1; simp at this; omega
 ·have hx := List.getElem?_eq_getElem (show i < l.length by rw [h.1]; exact hi)
  exact ⟨b, off, _, rfl, hb, hx, (hc i _ hx).1, (hc i _ hx).2⟩
theorem TIn.take {w : World} {a : Option Addr} {n c : Nat} {l : List W.Tm} (h : TIn w a n c l) (j : Nat) (hj : j <= n) : TIn w a j c (l.take j) := by
 refine ⟨by have := h.1; simp; omega, ⟨by have := h.2.1; omega, h.2.1.2⟩, fun ha => ?_, ?_⟩
 ·have := h.2.2.1 ha; omega
 ·rcases h.2.2.2 with rfl | ⟨b, off, rfl, hb, hc⟩
  ·exact .inl (by simp)
  ·refine .inr ⟨b, off, rfl, hb, fun i x hi => hc i x ?_⟩
   rw [List.getElem?_take] at hi
   split at hi
   ·exact hi
   ·cases hi
theorem TIn.blok {w : World} {g c : Nat} {t : TypeId} {l : List W.Tm} {rest : List Value} (h : Blok w g t (W.flat l ++ rest).toArray) (hc : l.length <= c) (hm : c <= maxLen) : TIn w (some ⟨g, 0, none⟩) l.length c l := by
 refine ⟨rfl, ⟨hc, hm⟩, fun h => (by cases h), .inr ⟨g, 0, rfl, h.lt, fun i x hi => ?_⟩⟩
 have hi2 := (List.getElem?_eq_some_iff.1 hi).1
 obtain ⟨f1, f2⟩ := W.flat_at l i x hi
 rw [h.cell, h.cell]
 simp only [List.getElem?_toArray]
 rw [List.getElem?_append_left (by rw [W.flat_len]; omega), List.getElem?_append_left (by rw [W.flat_len]; omega), Nat.zero_add]
 exact ⟨f1, f2⟩
theorem zal {w : World} {B n : Nat} {v : Value} {l : List W.Tm} (h : w.ownsRow B 159 2 v n (W.flat l)) (hn : l.length = n) : ∃ a c, v = .slice a n c /\ TIn w a n c l := by
 rcases h.2 with ⟨rfl, h0⟩ | ⟨g, cap, cur, rfl, _, hg, hle, hm, _⟩
 ·obtain rfl : l = [] := List.eq_nil_of_length_eq_zero (by omega)
  exact ⟨none, 0, by rw [h0], by rw [h0]; exact TIn.nil w⟩
 ·refine ⟨_, cap, rfl, hn, ⟨by omega, hm⟩, fun h => (by cases h), .inr ⟨g, 0, rfl, (Array.getElem?_eq_some_iff.1 hg).1, fun i x hi => ?_⟩⟩
  obtain ⟨f1, f2⟩ := W.flat_at l i x hi
  have c1 := h.cells (g := g) rfl _ _ f1
  have c2 := h.cells (g := g) rfl _ _ f2
  rw [WideShapes.add_plain] at c1 c2
  exact ⟨c1, by rw [Nat.add_assoc]; exact c2⟩
theorem zhh : (Tryz.prog.info? 159).map (fun i => (i.zero, i.size, i.bytes)) = some (some (.agg #[.int .i64 0, .int .i64 0]), 2, 16) := by kernel_rfl
theorem below_none {w w' : World} (hb : Below w.heap.size w w') : w.grownBy w' none := ⟨hb.os, hb.tape, hb.output, hb.size, fun i hi _ => hb.block i hi⟩
theorem zeu {w w' : World} (hg : w.grownBy w' none) : Below w.heap.size w w' := ⟨hg.os, hg.tape, hg.output, hg.size, fun i hi => hg.block i hi (by simp)⟩
open Go.RowKit
theorem W.lt_beq (x y : W.Tm) : W.lt x y = (decide (x.2 < y.2) || ((x.2 == y.2) && decide (x.1 < y.1))) := by
 unfold W.lt; congr 2
theorem zfe (a : Option Addr) (n c i j : Nat) (l : List W.Tm) (w : World) (h : TIn w a n c l) (hi : i < n) (hj : j < n) (x y : W.Tm) (hx : l[i]? = some x) (hy : l[j]? = some y) (p : Bool) (hp : W.lt x y = p) :
  Calls Tryz.prog 196 #[.slice a n c, .int .i64 i, .int .i64 j] w fun e w' => e = .returned (.bool p) /\ Below w.heap.size w w' := by
 obtain ⟨b, off, x', rfl, hb, hx', p1, p2⟩ := h.at hi
 obtain ⟨b2, off2, y', he, hb2, hy', q1, q2⟩ := h.at hj
 cases he
 obtain rfl : x' = x := by rw [hx] at hx'; exact (Option.some.inj hx').symm
 obtain rfl : y' = y := by rw [hy] at hy'; exact (Option.some.inj hy').symm
 have HP := Zh hp
 clear h hx hy hx' hy' hp
 have h0 : (0 : Int) <= i := by omega
 have h1 : (i : Int) < n := by omega
 have h2 : (0 : Int) <= j := by omega
 have h3 : (j : Int) < n := by omega
 go_enter Tryz.func196, Tryz.ntmps196
 go_wp2_with fail
 go_region
 all_goals (
  obtain ⟨b1, hb1⟩ : ∃ q, decide (x'.2 < y'.2) = q := ⟨_, rfl⟩
  obtain ⟨b2, hb2⟩ : ∃ q, (x'.2 == y'.2) = q := ⟨_, rfl⟩
  obtain ⟨b3, hb3⟩ : ∃ q, decide (x'.1 < y'.1) = q := ⟨_, rfl⟩
  have HB : Hid ((b1 || (b2 && b3)) = p) := Zh (by rw [<- hb1, <- hb2, <- hb3, <- HP.out]; exact (W.lt_beq _ _).symm)
  cases b1 <;> cases b2 <;> cases b3 <;> (
   go_wp2
   go_ret
   exact ⟨by rw [<- HB.out]; rfl, ((((Below.refl _ w).alloc (Nat.le_refl _) _).alloc (by simp) _).drew)⟩))
def wbox (w : World) (k : Int) (a : Option Addr) (n c : Nat) : World := w.alloc (.cells #[.int .i64 k, .slice a n c] 151)
theorem zff (w : World) (k : Int) (a : Option Addr) (n c : Nat) : (wbox w k a n c).heap.size = w.heap.size + 1 := by simp [wbox]
theorem zby (w : World) (k : Int) (a : Option Addr) (n c : Nat) : Below w.heap.size w (wbox w k a n c) := (Below.refl _ w).alloc (Nat.le_refl _) _
theorem zdt (w : World) (k : Int) (a : Option Addr) (n c : Nat) : Blok (wbox w k a n c) w.heap.size 151 #[.int .i64 k, .slice a n c] := Blok.new _ _ _
theorem zfg (k at' : Int) (a : Option Addr) (n c : Nat) (w : World) (p : Bool) (hp : decide (k < at' /\ at' <= 1073741824) = p) :
  Calls Tryz.prog 171 #[.agg #[.int .i64 k, .slice a n c], .int .i64 at'] w fun e w' => e = .returned (.bool p) /\ Below w.heap.size w w' := by
 obtain ⟨b1, hb1⟩ : ∃ q, decide (k < at') = q := ⟨_, rfl⟩
 obtain ⟨b2, hb2⟩ : ∃ q, decide (at' <= 1073741824) = q := ⟨_, rfl⟩
 have HB : Hid ((b1 && b2) = p) := Zh (by rw [<- hb1, <- hb2, <- hp]; simp)
 clear hp
 go_enter Tryz.func171, Tryz.ntmps171
 cases b1 <;> cases b2 <;> (
  go_wp2
  go_ret
  exact ⟨by rw [<- HB.out]; rfl, zby w k a n c⟩)
theorem zi7 (x : W.Tm) (id : Int) (B : Nat) (w : World) (hB : B < w.heap.size) (hc : w.cell? ⟨B, 0, none⟩ = some (.int .i64 id)) :
  Calls Tryz.prog 199 #[.agg #[.int .i64 x.1, .int .i64 x.2], .pointer (some ⟨B, 0, none⟩)] w fun e w' => e = .returned (.bool (decide (x.1 = id))) /\ Below w.heap.size w w' := by
 obtain ⟨b1, hb1⟩ : ∃ q, (x.1 == id) = q := ⟨_, rfl⟩
 have HB : Hid (b1 = decide (x.1 = id)) := Zh (by rw [<- hb1, Bool.eq_iff_iff]; simp)
 have hne : B ≠ w.heap.size := by omega
 go_enter Tryz.func199, Tryz.ntmps199
 go_wp2
 go_ret
 exact ⟨by rw [<- HB.out]; rfl, (Below.refl _ w).alloc (Nat.le_refl _) _⟩
theorem W.find_hit {l : List W.Tm} {id : Int} {k : Nat} {x : W.Tm} (hx : l[k]? = some x) (h : decide (x.1 = id) = true) (ha : ∀ j y, j < k -> l[j]? = some y -> y.1 ≠ id) : W.idx l id = k := by
 obtain ⟨hk, rfl⟩ := List.getElem?_eq_some_iff.1 hx
 have : W.find l id = some k := by
  unfold W.find
  rw [List.findIdx?_eq_some_iff_getElem]
  exact ⟨hk, h, fun j hj => by simpa using ha j _ hj (List.getElem?_eq_getElem (by omega))⟩
 unfold W.idx; rw [this]
theorem W.find_none {l : List W.Tm} {id : Int} (ha : ∀ j y, j < l.length -> l[j]? = some y -> y.1 ≠ id) : W.idx l id = -1 := by
 have : W.find l id = none := by
  unfold W.find
  rw [List.findIdx?_eq_none_iff]
  intro x hx
  obtain ⟨j, hj, rfl⟩ := List.mem_iff_getElem.1 hx
  simpa using ha j _ hj (List.getElem?_eq_getElem hj)
 unfold W.idx; rw [this]
theorem zhi (a : Option Addr) (n c B : Nat) (id : Int) (l : List W.Tm) (w : World) (h : TIn w a n c l) (hn : n <= 1000000) (hB : B < w.heap.size) (hc : w.cell? ⟨B, 0, none⟩ = some (.int .i64 id)) :
  Calls Tryz.prog 198 #[.slice a n c, .func (.func 199) #[] #[.pointer (some ⟨B, 0, none⟩)]] w fun e w' => e = .returned (.int .i64 (W.idx l id)) /\ Below w.heap.size w w' := by
 have eg : ∀ args w, (callFunc 199 args).run Tryz.prog w = .ok (.enter 199 args) w := Go.Proofs.enters_of Tryz.func199 (by kernel_rfl) rfl
 have HT := Zh h
 have HC := Zh hc
 clear h hc
 go_enter Tryz.func198, Tryz.ntmps198
 go_wp2_with fail
 go_loopw [8] (fun i wr => ∃ k : Nat, i = .int .i64 k /\ k <= n /\ Hid (∀ j y, j < k -> l[j]? = some y -> y.1 ≠ id) /\ Hid (Below w.heap.size w wr)) (fun i _ => n - (intOf i).toNat)
 case atStart => exact ⟨0, rfl, by omega, Zh (fun j y hj => absurd hj (Nat.not_lt_zero _)), Zh (Below.refl _ _)⟩
 case round =>
  obtain ⟨k, rfl, hkn, HA, HB⟩ := hrel
  by_cases hlt : k < n
  ·have d1 : decide ((k : Int) < n) = true := by simp; omega
   obtain ⟨b, off, x, rfl, hb, hx, p1, p2⟩ := (HT.out.below HB.out).at hlt
   have HX := Zh hx
   have k0 : (0 : Int) <= k := by omega
   have k1 : (k : Int) < n := by omega
   have hf := zi7 x id B wr (Nat.lt_of_lt_of_le hB HB.out.size) ((HB.out.cell (p := ⟨B, 0, none⟩) hB).trans HC.out)
   obtain ⟨q, hq⟩ : ∃ q, decide (x.1 = id) = q := ⟨_, rfl⟩
   rw [hq] at hf
   have HQ := Zh hq
   clear hx hq
   go_wp2_with fail
   refine hf.mono ?_
   rintro e w3 ⟨rfl, hb3⟩
   have HB3 := Zt HB hb3
   clear hf hb3 p1 p2
   cases q with
   | true =>
    have HE := Zh (W.find_hit HX.out HQ.out HA.out)
    go_wp2
    go_ret
    exact ⟨by rw [HE.out]; rfl, HB3.out⟩
   | false =>
    have HA2 : Hid (∀ j y, j < k + 1 -> l[j]? = some y -> y.1 ≠ id) := Zh (fun j y hj hy => by
     by_cases hjk : j = k
     ·subst hjk; rw [HX.out] at hy; cases hy; exact of_decide_eq_false HQ.out
     ·exact HA.out j y (by omega) hy)
    go_wp2
    go_roundw
    case rel => exact ⟨k + 1, by go_num, by omega, HA2, HB3⟩
    case measure => simp [intOf] <;> omega
  ·have d1 : decide ((k : Int) < n) = false := by simp; omega
   have HE : Hid (W.idx l id = -1) := Zh (W.find_none (fun j y hj => HA.out j y (by have := HT.out.1; omega)))
   go_wp2
   go_ret
   exact ⟨by rw [HE.out]; rfl, HB.out⟩
theorem zev (a : Option Addr) (n c : Nat) (id : Int) (l : List W.Tm) (w : World) (h : TIn w a n c l) (hn : n <= 1000000) :
  Calls Tryz.prog 172 #[.slice a n c, .int .i64 id] w fun e w' => e = .returned (.int .i64 (W.idx l id)) /\ Below w.heap.size w w' := by
 have hb := (Below.refl w.heap.size w).alloc (Nat.le_refl _) (.cells #[.int .i64 id] 3)
 have hi := zhi a n c w.heap.size id l (w.alloc (.cells #[.int .i64 id] 3)) (h.below hb) hn (by simp) (by simp)
 have HB := Zh hb
 clear h hb
 obtain ⟨r, hr⟩ : ∃ r, W.idx l id = r := ⟨_, rfl⟩
 rw [hr] at hi ⊢
 clear hr
 go_enter Tryz.func172, Tryz.ntmps172
 go_wp2_with fail
 refine hi.mono ?_
 rintro e w3 ⟨rfl, hb3⟩
 go_wp2
 go_ret
 exact ⟨rfl, HB.out.trans (hb3.mono HB.out.size)⟩
open Go.RowKit Go.Sort
theorem W.flat_set : ∀ (l : List W.Tm) (i : Nat) (x : W.Tm), W.flat (l.set i x) = ((W.flat l).set (i * 2) (.int .i64 x.1)).set (i * 2 + 1) (.int .i64 x.2)
 | [], _, _ => rfl
 | y :: l, 0, x => rfl
 | y :: l, i + 1, x => by
  rw [List.set_cons_succ, W.flat_cons, W.flat_set l i x, show (i + 1) * 2 = i * 2 + 1 + 1 by omega, W.flat_cons]
  rfl
theorem W.get_at {d : Array W.Tm} {i : Nat} (h : i < d.size) : d.toList[i]? = some d[i]! := by
 rw [getElem!_pos d i h]; simp [h]
def SwT (g n : Nat) (rest : List Value) (d : Array W.Tm) (V : World) : Prop := d.size = n /\ Blok V g 159 (W.flat d.toList ++ rest).toArray
theorem SwT.tin {g n c : Nat} {rest : List Value} {d : Array W.Tm} {V : World} (h : SwT g n rest d V) (hc : n <= c) (hm : c <= maxLen) : TIn V (some ⟨g, 0, none⟩) n c d.toList := by
 have h1 : d.toList.length = n := by simpa using h.1
 have := TIn.blok h.2 (c := c) (by rw [h1]; exact hc) hm
 rw [h1] at this
 exact this
theorem zk8 : SWO W.lt := ⟨W.lt_irrefl, fun _ _ _ h k => W.lt_trans h k, fun x y z h k => by rw [W.lt_not] at *; omega⟩
noncomputable def typeT : TypeInfo := (Tryz.prog.info? 202).get (by kernel_rfl)
noncomputable def typeE : TypeInfo := (Tryz.prog.info? 159).get (by kernel_rfl)
theorem zmh (n : Nat) (h2 : 2 <= n) : Lib.swapperK n typeE 25 = 9 := by
 have a : typeE.hasPointers = false := by kernel_rfl
 have b : typeE.bytes = 16 := by kernel_rfl
 have c : (n == 0) = false := by simp; omega
 have d : (n == 1) = false := by simp; omega
 simp [Lib.swapperK, a, b, c, d]
theorem zko (g n c i j : Nat) (rest : List Value) (d : Array W.Tm) (V : World) (h : SwT g n rest d V) (hi : i < n) (hj : j < n) :
  ∃ V', (callFunc 244 (#[.int .i64 i, .int .i64 j] ++ #[.slice (some ⟨g, 0, none⟩) n c, typeHandle Tryz.prog 159])).run Tryz.prog V = .ok (.value (.tuple #[])) V' /\ SwT g n rest (swp d i j) V' /\ V.grownBy V' (some g) := by
 have hsz := h.1
 have hx := W.get_at (d := d) (i := i) (by omega)
 have hy := W.get_at (d := d) (i := j) (by omega)
 generalize d[i]! = x at hx
 generalize d[j]! = y at hy
 obtain ⟨f0, f1⟩ := W.flat_at _ _ _ hx
 obtain ⟨e0, e1⟩ := W.flat_at _ _ _ hy
 have hl : (W.flat d.toList).length = n * 2 := by rw [W.flat_len]; simp [hsz]
 have hcell : ∀ k v, (W.flat d.toList)[k]? = some v -> V.cell? ⟨g, k, none⟩ = some v := fun k v hk => by
  rw [h.2.cell, List.getElem?_toArray, List.getElem?_append_left (List.getElem?_eq_some_iff.1 hk).1]; exact hk
 have hcx : ∀ k v, ([.int .i64 x.1, .int .i64 x.2] : List Value)[k]? = some v -> V.cell? ⟨g, 0 + i * typeE.size + k, none⟩ = some v := fun k v hk => by
  rw [show typeE.size = 2 by kernel_rfl, Nat.zero_add]
  match k, hk with
  | 0, hk => simp at hk; rw [<- hk]; exact hcell _ _ f0
  | 1, hk => simp at hk; rw [<- hk]; exact hcell _ _ f1
  | k + 2, hk => simp at hk
 have hcy : ∀ k v, ([.int .i64 y.1, .int .i64 y.2] : List Value)[k]? = some v -> V.cell? ⟨g, 0 + j * typeE.size + k, none⟩ = some v := fun k v hk => by
  rw [show typeE.size = 2 by kernel_rfl, Nat.zero_add]
  match k, hk with
  | 0, hk => simp at hk; rw [<- hk]; exact hcell _ _ e0
  | 1, hk => simp at hk; rw [<- hk]; exact hcell _ _ e1
  | k + 2, hk => simp at hk
 have hrun := Lib.run_swap_cells (P := Tryz.prog) false 159 typeE (by kernel_rfl) (fun _ => by kernel_rfl) g 0 n c i j hi hj [.int .i64 x.1, .int .i64 x.2] [.int .i64 y.1, .int .i64 y.2] (by kernel_rfl) (by kernel_rfl)
  (by intro v hv; simp at hv; rcases hv with rfl | rfl <;> rfl) (by intro v hv; simp at hv; rcases hv with rfl | rfl <;> rfl) V hcx hcy (fun k _ => h.2.frozen _) (fun k _ => h.2.frozen _)
 have hE := run_callFunc_extern Tryz.func244 (by kernel_rfl) (by kernel_rfl) (by kernel_rfl) (e := Extern.ReflectliteSwapper.swap false) (by kernel_rfl) (#[.int .i64 i, .int .i64 j] ++ #[.slice (some ⟨g, 0, none⟩) n c, typeHandle Tryz.prog 159]) V
 refine ⟨_, by rw [hE]; show ((Extern.ReflectliteSwapper.swap false #[.int .i64 i, .int .i64 j, .slice (some ⟨g, 0, none⟩) n c, typeHandle Tryz.prog 159]).run Tryz.prog V).andThen _ = _; rw [hrun]; rfl, ⟨by rw [size_swp]; exact hsz, ?_⟩, ?_⟩
 ·rw [show typeE.size = 2 by kernel_rfl]
  show Blok ((((V.setCell ⟨g, 0 + i * 2, none⟩ (.int .i64 y.1)).setCell ⟨g, 0 + i * 2 + 1, none⟩ (.int .i64 y.2)).setCell ⟨g, 0 + j * 2, none⟩ (.int .i64 x.1)).setCell ⟨g, 0 + j * 2 + 1, none⟩ (.int .i64 x.2)) g _ _
  have hb := (((h.2.set (0 + i * 2) (.int .i64 y.1)).set (0 + i * 2 + 1) (.int .i64 y.2)).set (0 + j * 2) (.int .i64 x.1)).set (0 + j * 2 + 1) (.int .i64 x.2)
  have hsw : (swp d i j).toList = (d.toList.set i y).set j x := by
   unfold swp
   have h1 : d[i]! = x := by have := W.get_at (d := d) (i := i) (by omega); rw [hx] at this; exact (Option.some.inj this).symm
   have h2 : d[j]! = y := by have := W.get_at (d := d) (i := j) (by omega); rw [hy] at this; exact (Option.some.inj this).symm
   rw [h1, h2]; simp
  rw [hsw, W.flat_set, W.flat_set]
  simp only [Nat.zero_add, List.setIfInBounds_toArray] at hb
  rw [List.set_append_left _ _ (by omega), List.set_append_left _ _ (by simp; omega), List.set_append_left _ _ (by simp; omega), List.set_append_left _ _ (by simp; omega)] at hb
  simpa using hb
 ·show V.grownBy ((((V.setCell ⟨g, _, none⟩ _).setCell ⟨g, _, none⟩ _).setCell ⟨g, _, none⟩ _).setCell ⟨g, _, none⟩ _) _
  exact (((zae V g _ _).trans (zae _ g _ _)).trans (zae _ g _ _)).trans (zae _ g _ _)
theorem zkp (g n c : Nat) (rest : List Value) (hn : n <= 1000000) (hc : n <= c) (hm : c <= maxLen) :
  SortBy W.lt 196 #[.slice (some ⟨g, 0, none⟩) n c] #[] 244 #[.slice (some ⟨g, 0, none⟩) n c, typeHandle Tryz.prog 159] g n (SwT g n rest) where
 size h := h.1
 most := hn
 inb h := h.2.lt
 keep h hg hr := ⟨h.1, h.2.grown hg hr⟩
 enters := Go.Proofs.enters_of Tryz.func196 (by kernel_rfl) rfl
 less {d V} i j h hi hj := (zfe (some ⟨g, 0, none⟩) n c i j d.toList V (h.tin hc hm) hi hj _ _ (W.get_at (by rw [h.1]; exact hi)) (W.get_at (by rw [h.1]; exact hj)) _ rfl).mono fun _ _ ⟨he, hb⟩ => ⟨he, below_none hb⟩
 swap i j h hi hj := zko g n c i j rest _ _ h hi hj
open Go.RowKit Go.Sort Go.Extern Go.Extern.Rtype
theorem zmi {t u e : TypeId} {i : TypeInfo} (hu : ∀ w, (under t).run Tryz.prog w = .ok (u, i) w) (hd : i.desc = .slice e) (w : World) : (kind t).run Tryz.prog w = .ok 23 w := by
 simp [kind, hu, hd, Result.andThen]
theorem zmj {t u e : TypeId} {i : TypeInfo} (hu : ∀ w, (under t).run Tryz.prog w = .ok (u, i) w) (hd : i.desc = .slice e) (w : World) : (elem? t).run Tryz.prog w = .ok (some e) w := by
 simp [elem?, hu, hd, Result.andThen]
theorem zew {t u e : TypeId} {i : TypeInfo} (hu : ∀ w, (under t).run Tryz.prog w = .ok (u, i) w) (hd : i.desc = .slice e) (p : Option Addr) (n c : Nat) (w : World) :
  (callFunc 215 #[.iface t (.slice p n c)]).run Tryz.prog w = .ok (.value (.agg #[typeHandle Tryz.prog t, .pointer (some ⟨w.heap.size, 0, none⟩), .int .u64 151])) (w.alloc (.cells #[.slice p n c] t)) := by
 rw [run_callFunc_extern Tryz.func215 (by kernel_rfl) (by kernel_rfl) (by kernel_rfl) (e := fun args => Extern.ReflectliteValue.unpack (args.getD 0 (.tuple #[]))) (by kernel_rfl)]
 show ((Extern.ReflectliteValue.unpack (.iface t (.slice p n c))).run Tryz.prog w).andThen _ = _
 simp [ReflectliteValue.unpack, ReflectliteValue.mk, newVar, newRow, handle, zmi hu hd, Result.andThen, Value.cells, ReflectliteValue.flagIndir]
theorem zk9 {t u e : TypeId} {i : TypeInfo} (hu : ∀ w, (under t).run Tryz.prog w = .ok (u, i) w) (hd : i.desc = .slice e) (hU : Tryz.prog.underlying t = some (.slice e)) (hpk : Tryz.prog.packed t = false) (a : Addr) (p : Option Addr) (n c : Nat) (w : World) (ha : w.cell? a = some (.slice p n c)) :
  (callFunc 216 #[.agg #[typeHandle Tryz.prog t, .pointer (some a), .int .u64 151]]).run Tryz.prog w = .ok (.value (.int .i64 n)) w := by
 rw [run_callFunc_extern Tryz.func216 (by kernel_rfl) (by kernel_rfl) (by kernel_rfl) (e := Extern.ReflectliteValue.method (Extern.ReflectliteValue.valueError "reflectlite.Value.Len" 0) Extern.ReflectliteValue.len) (by kernel_rfl)]
 rw [Lib.rl_method]
 simp only [Sem.run_bind, Lib.run_parts t a hpk w, Result.andThen]
 simp [ReflectliteValue.len, hu, hd, loadVar, isAgg, underlying, hU, ha, Builtin.len_, goInt, Result.andThen]
theorem zhj {t u e : TypeId} {i ie : TypeInfo} (hu : ∀ w, (under t).run Tryz.prog w = .ok (u, i) w) (hd : i.desc = .slice e) (hie : Tryz.prog.info? e = some ie) (ke : Nat) (hke : ∀ w, (kind e).run Tryz.prog w = .ok ke w)
  (p : Option Addr) (n c : Nat) (f : Nat) (hf : Tryz.prog.funcs.findIdx? (·.name == "internal/reflectlite" ++ ".Swapper$" ++ toString (Lib.swapperK n ie ke)) = some f) (w : World) :
  (callFunc 217 #[.iface t (.slice p n c)]).run Tryz.prog w
   = .ok (.value (.func (.func f) #[] (if Lib.swapperK n ie ke <= 2 then #[] else #[.slice p n c, typeHandle Tryz.prog e]))) w := by
 rw [run_callFunc_extern Tryz.func217 (by kernel_rfl) (by kernel_rfl) (by kernel_rfl) (e := Extern.ReflectliteSwapper.swapper "internal/reflectlite" (Extern.ReflectliteValue.valueError "Swapper")) (by kernel_rfl)]
 have h3 : (Extern.ReflectliteSwapper.swapper "internal/reflectlite" (Extern.ReflectliteValue.valueError "Swapper") #[.iface t (.slice p n c)]).run Tryz.prog w = .ok (.func (.func f) #[] (if Lib.swapperK n ie ke <= 2 then #[] else #[.slice p n c, typeHandle Tryz.prog e])) w := by
  rw [Lib.rl_swapper]
  simp only [Sem.run_bind, zmj hu hd, Result.andThen, Lib.rl_info e ie hie, hke, handle, Sem.run_pure]
  change Sem.run Tryz.prog (ReflectliteSwapper.literal "internal/reflectlite" (Lib.swapperK n ie ke) (if Lib.swapperK n ie ke <= 2 then #[] else #[.slice p n c, typeHandle Tryz.prog e])) w = _
  simp at hf
  simp [ReflectliteSwapper.literal, hf, Result.andThen]
 rw [h3]
 rfl
theorem zkq (n : Nat) (w : World) (hn : n <= 1000000) : Calls Tryz.prog 205 #[.int .u64 n] w fun e w' => e = .returned (.int .i64 (Lib.bitLen n)) /\ w' = w :=
 Go.Proofs.Any.bits_Len (LaysGg.n13.bits (P := Tryz.prog) { Tryz.srt6 with }) (n : Int) w (by omega) (by omega)
theorem zb7 (w : World) : (under 202).run Tryz.prog w = .ok (149, (Tryz.prog.info? 149).get (by kernel_rfl)) w := by kernel_rfl
theorem zdu (w : World) : (under 149).run Tryz.prog w = .ok (149, (Tryz.prog.info? 149).get (by kernel_rfl)) w := by kernel_rfl
theorem zbz : ((Tryz.prog.info? 149).get (by kernel_rfl)).desc = .slice 159 := by kernel_rfl
theorem zc4 (p : Option Addr) (n c f : Nat) (sb : Array Value) (lf : Fn) (la lb : Array Value) (w : World) (hn : n <= 1000)
  (hf : Tryz.prog.funcs.findIdx? (·.name == "internal/reflectlite" ++ ".Swapper$" ++ toString (Lib.swapperK n typeE 25)) = some f) (hsb : (if Lib.swapperK n typeE 25 <= 2 then #[] else #[.slice p n c, typeHandle Tryz.prog 159]) = sb) (R : World -> Prop)
  (hp : ∀ W, Hid (w.grownBy W none) -> Calls Tryz.prog 218 #[.agg #[.func lf la lb, .func (.func f) #[] sb], .int .i64 0, .int .i64 n, .int .i64 (Lib.bitLen n)] W fun e w' => e = .returned (.tuple #[]) /\ R w') :
  Calls Tryz.prog 200 #[.iface 202 (.slice p n c), .func lf la lb] w fun e w' => e = .returned (.tuple #[]) /\ R w' := by
 have e1 := zew zb7 zbz p n c w
 have e2 := fun W => zhj zb7 zbz (ie := typeE) (by kernel_rfl) 25 (fun _ => by kernel_rfl) p n c f hf W
 rw [hsb] at e2
 have e3 := fun W hW => zk9 zb7 zbz Tryz.underlying202 (by kernel_rfl) ⟨w.heap.size, 0, none⟩ p n c W hW
 have wr : IntKind.u64.wrap (n : Int) = n := by simp [IntKind.wrap, IntKind.bits, IntKind.signed]; omega
 simp only [typeHandle] at e1 e3
 have hp' := Zh hp
 clear hp hsb hf
 go_enter Tryz.func200, Tryz.ntmps200
 go_wp2_with fail
 rw [show Sem.run Tryz.prog (callFunc 216 #[.agg #[.pointer (some ⟨0, 202, none⟩), .pointer (some ⟨w.heap.size, 0, none⟩), .int .u64 151]]) _ = _ from e3 _ (by simp), Oper.upon_value]
 obtain ⟨W2, hW2⟩ : ∃ W2, (w.alloc (.cells #[.slice p n c] 202)).alloc (.cells #[.pointer (some ⟨0, 202, none⟩), .pointer (some ⟨w.heap.size, 0, none⟩), .int .u64 151] 222) = W2 := ⟨_, rfl⟩
 have G2 : Hid (w.grownBy W2 none) := Zh (by rw [<- hW2]; exact (World.grownBy_alloc _ _ _).trans (World.grownBy_alloc _ _ _))
 rw [hW2]
 clear hW2 e1 e2 e3
 go_wp2_with fail
 refine (zkq n W2 (by omega)).mono ?_
 rintro e w' ⟨rfl, rfl⟩
 go_wp2_with fail
 refine (hp'.out _ G2).mono ?_
 rintro e w' ⟨rfl, hR⟩
 go_wp2
 go_end0
 exact ⟨rfl, hR⟩
open Go.RowKit Go.Sort
def W.Weak (l : List W.Tm) : Prop := ∀ i j (hi : i < l.length) (hj : j < l.length), i < j -> W.lt l[j] l[i] = false
theorem zkr (lf : Fn) (la lb : Array Value) (f n : Nat) (sb : Array Value) (lim : Int) (h : n <= 1) (w : World) :
  Calls Tryz.prog 218 #[.agg #[.func lf la lb, .func (.func f) #[] sb], .int .i64 0, .int .i64 n, .int .i64 lim] w fun e w' => e = .returned (.tuple #[]) /\ Hid (w.grownBy w' none) :=
 (Go.Proofs.Any.pdqsort_func_tiny (P := Tryz.prog) { Tryz.srt6 with } lf la lb f sb n h lim w).mono fun _ _ ⟨he, hw⟩ => ⟨he, Zh (by rw [hw]; exact (World.grownBy_alloc _ _ _).trans (World.grownBy_alloc _ _ _))⟩
theorem zi8 (v : Value) (n B : Nat) (l : List W.Tm) (w : World) (h : w.ownsRow B 159 2 v n (W.flat l)) (hl : l.length = n) (hn : n <= 1000) :
  Calls Tryz.prog 200 #[.iface 202 v, .func (.func 196) #[v] #[]] w fun e w' => e = .returned (.tuple #[]) /\ ∃ k, Hid (k.Perm l /\ W.Weak k) /\ Hid (w'.ownsRow B 159 2 v n (W.flat k)) /\ Hid (w.grownBy w' v.ownBlock) := by
 by_cases h1 : n <= 1
 ·have hform : ∃ p c, v = .slice p n c := by
   rcases h.2 with ⟨rfl, h0⟩ | ⟨g, cap, cur, rfl, _⟩
   ·exact ⟨none, 0, by rw [h0]⟩
   ·exact ⟨_, _, rfl⟩
  obtain ⟨p, c, rfl⟩ := hform
  have hK : ∃ f, Tryz.prog.funcs.findIdx? (·.name == "internal/reflectlite" ++ ".Swapper$" ++ toString (Lib.swapperK n typeE 25)) = some f := by
   rcases Nat.eq_zero_or_pos n with rfl | hp
   ·exact ⟨236, by kernel_rfl⟩
   ·obtain rfl : n = 1 := by omega
    exact ⟨237, by kernel_rfl⟩
  obtain ⟨f, hf⟩ := hK
  refine (zc4 p n c f _ _ _ _ w hn hf rfl (fun w' => w.grownBy w' none) (fun W hW => (zkr _ _ _ _ _ _ _ h1 W).mono fun e w' ⟨he, hg⟩ => ⟨he, hW.out.trans hg.out⟩)).mono ?_
  rintro e w' ⟨rfl, hg⟩
  exact ⟨rfl, l, Zh ⟨List.Perm.refl _, fun i j hi hj hij => by omega⟩, Zh (zab h (zeu hg)), Zh (zac hg)⟩
 ·obtain ⟨g, c, cur, rfl, hB, hgg, hle, hm, hs, ht⟩ : ∃ g cap cur, v = .slice (some ⟨g, 0, none⟩) n cap /\ B <= g /\ w.heap[g]? = some (.cells cur 159 (0, 0)) /\ n <= cap /\ cap <= maxLen /\ cur.size = cap * 2 /\ cur.toList.take (n * 2) = W.flat l := by
   rcases h.2 with ⟨_, h0⟩ | ⟨g, cap, cur, he, hB, hg, h1, h2, h3, h4⟩
   ·omega
   ·exact ⟨g, cap, cur, he, hB, hg, h1, h2, h3, h4⟩
  obtain ⟨rest, hrest⟩ : ∃ rest, cur.toList.drop (n * 2) = rest := ⟨_, rfl⟩
  have hcur : cur = (W.flat l ++ rest).toArray := by
   rw [<- ht, <- hrest, List.take_append_drop]
  have hsw : SwT g n rest l.toArray w := ⟨by simpa using hl, by show w.heap[g]? = _; rw [hgg, hcur]⟩
  have S := zkp g n c rest (by omega) hle hm
  have hpd := pdq_sorts W.lt zk8 l.toArray 0 n (Lib.bitLen n) true true (Nat.zero_le _) (by simp [hl]) (.inl rfl)
  obtain ⟨d', hd'⟩ : ∃ d', pdq W.lt l.toArray 0 n (Lib.bitLen n) true true = d' := ⟨_, rfl⟩
  have hlim : Lib.bitLen n <= 1000 := by have := Lib.bitLen_le n 62 (by omega) (by omega); omega
  refine (zc4 (some ⟨g, 0, none⟩) n c 244 _ _ _ _ w hn (by rw [zmh n (by omega)]; kernel_rfl) (by rw [zmh n (by omega), if_neg (by decide)])
   (fun w' => Hid (SwT g n rest d' w') /\ Hid (w.grownBy w' (some g))) (fun W hW => ?_)).mono ?_
  ·refine (zi6 S zk8 (n + 1) 0 n (Lib.bitLen n) l.toArray W (by omega) (Nat.zero_le _) (Nat.le_refl _) hlim (S.keep hsw hW.out (by simp))).mono ?_
   rintro e w' ⟨rfl, h1, h2⟩
   rw [hd'] at h1
   exact ⟨rfl, h1, Zh ((zac hW.out).trans h2.out)⟩
  ·rintro e w' ⟨rfl, h1, h2⟩
   rw [hd'] at hpd
   have hsz := h1.out.1
   have hperm : d'.toList.Perm l := by
    have h3 := hpd.1.2.2
    have e1 : l.toArray.extract 0 n = l.toArray := by rw [<- hl]; simp
    have e2 : d'.extract 0 n = d' := by rw [<- hsz]; simp
    rw [e1, e2] at h3
    exact h3
   have hk : d'.toList.length = n := by simpa using hsz
   refine ⟨rfl, d'.toList, Zh ⟨hperm, fun i j hi hj hij => ?_⟩, Zh ⟨by rw [W.flat_len, hk], .inr ⟨g, c, _, rfl, hB, h1.out.2, hle, hm, ?_, ?_⟩⟩, h2⟩
   ·have h4 := hpd.2 i j (Nat.zero_le _) hij (by rw [hk] at hj; exact hj)
    rw [hk] at hi hj
    rw [getElem!_pos d' i (by omega), getElem!_pos d' j (by omega)] at h4
    simpa using h4
   ·have hr : rest.length = cur.size - n * 2 := by rw [<- hrest]; simp
    simp only [List.size_toArray, List.length_append, W.flat_len, hk, hr]; omega
   ·rw [List.take_append_of_le_length (by rw [W.flat_len, hk]; exact Nat.le_refl _), List.take_of_length_le (by rw [W.flat_len, hk]; exact Nat.le_refl _)]
end Go.Proofs.YtonejangijkdmaaGreat
