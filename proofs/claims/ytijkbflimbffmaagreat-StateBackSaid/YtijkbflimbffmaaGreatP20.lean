import Derived.RangeFuncBox
import Derived.RangeFuncNested
import Derived.RangeFuncBound
import Derived.RangeFuncCalls
import Derived.RangeFuncLeaves
import Derived.Shelf.Abstract
import Derived.Shelf.RegionOpen
import Derived.OwnWalkIn
import Derived.TacticsInMore
import Derived.LoopNIn
import Derived.LoopIn
import Derived.Test.YtijkbflimbffmaaGreatP5
import Derived.Test.YtijkbflimbffmaaGreatP19
import Derived.Test.YtijkbflimbffmaaGreatP0
namespace Go.Proofs.YtijkbflimbffmaaGreat
set_option maxHeartbeats 1000000
set_option maxRecDepth 100000
open Go.RowKit Go.Shelf
attribute [local go_sem] Oper.semAt_some
theorem Part.len {b l : List Int} {p : Nat} (h : Part b l p) : l.length <= p := by
 obtain ⟨h1, h2, h3⟩ := h
 have e : ∀ (l : List Int), (∀ n ∈ l, M.isn n) -> l.length <= (l.flatMap M.put).length := by
  intro l
  induction l with
  | nil => simp
  | cons n l ih =>
   intro h
   have := ih (fun x hx => h x (by simp [hx]))
   have := zok (h n (by simp))
   rw [List.flatMap_cons, List.length_append, List.length_cons]; omega
 have := e l h2
 rw [<- h3] at this
 simp at this; omega
theorem Part.over {b l : List Int} {p : Nat} (h : Part b l p) (hl : 400 < l.length) : M.read b = none :=
 read_none fun k hk => by
  obtain ⟨_, h2, h3⟩ := h
  obtain ⟨k1, k2, k3⟩ := znc.1 hk
  have e : l.flatMap M.put ++ b.drop p = k.flatMap M.put := by rw [<- h3, List.take_append_drop, k3]
  obtain ⟨t, rfl, _⟩ := znn l k _ h2 k2 e
  simp at k1; omega
def zp7 (xs : List (Int × Int)) : Int := xs.foldl (fun _ x => x.2) 0
theorem zo5 (xs : List (Int × Int)) (x : Int × Int) : zp7 (xs ++ [x]) = x.2 := by simp [zp7]
abbrev enc2 (x : Int × Int) : Array Value := #[.int .i64 x.1, .int .i64 x.2]
def Seen (L : List Int) (xs : List (Int × Int)) : Prop := ∃ p : Nat, Part L (xs.map Prod.fst) p /\ zp7 xs = p /\ M.head (L.drop p) = none
def ztm (L : List Int) (xs : List (Int × Int)) : Prop := ∃ p : Nat, Part L (xs.map Prod.fst) p
def Kp (H Bn : Nat) (W W' : World) : Prop := Below H W W' /\ W'.heap[Bn]? = W.heap[Bn]?
theorem Kp.t {H Bn : Nat} {A B C : World} (h : Kp H Bn A B) (k : Kp H Bn B C) : Kp H Bn A C := ⟨h.1.trans k.1, k.2.trans h.2⟩
theorem Kp.r (H Bn : Nat) (W : World) : Kp H Bn W W := ⟨Below.refl _ _, rfl⟩
def meas (len : Nat) (v : Value) : Nat := if intOf v < 0 then 0 else len + 1 - (intOf v).toNat
theorem zpd (len : Nat) (q : Int) : meas len (.int .i64 q) = if q < 0 then 0 else len + 1 - q.toNat := rfl
def Next (L : List Int) (p : Nat) (x y : Value) : Prop :=
 (∃ (n : Int) (e : Nat), M.head (L.drop p) = some (n, e) /\ x = .int .i64 n /\ y = .int .i64 ((p : Int) + e)) \/ (M.head (L.drop p) = none /\ x = .int .i64 0 /\ y = .int .i64 (-1))
theorem zrr (L : List Int) (p : Nat) : ∃ n q : Int, M.get L p = (n, q) /\ Next L p (.int .i64 n) (.int .i64 q) := by
 cases hh : M.head (L.drop p) with
 | none => exact ⟨0, -1, get_none hh, .inr ⟨hh, rfl, rfl⟩⟩
 | some r => exact ⟨r.1, (p : Int) + r.2, get_some hh, .inl ⟨r.1, r.2, hh, rfl, rfl⟩⟩
theorem zrs {L : List Int} {len p e : Nat} {l : List Int} {m : Int} {x y : Value} (hlen : L.length = len) (hby : ∀ c ∈ L, 0 <= c /\ c <= 255) (hP : Part L l p) (hh : M.head (L.drop p) = some (m, e)) (hN : Next L (p + e) x y) :
  meas len y < meas len (.int .i64 ((p : Int) + e)) := by
 obtain ⟨hp', he0, hpl, _⟩ := hP.step hby hh
 have hpe := hp'.1
 have e1 : meas len (.int .i64 ((p : Int) + e)) = len + 1 - (p + e) := by
  rw [zpd, if_neg (by omega)]
  omega
 rw [e1]
 rcases hN with ⟨m', e', hh', _, rfl⟩ | ⟨_, _, rfl⟩
 ·obtain ⟨hp2, he2, _, _⟩ := hp'.step hby hh'
  have := hp2.1
  rw [zpd, if_neg (by omega)]
  omega
 ·rw [zpd, if_pos (by omega)]
  omega
theorem zsc (n l Bn H : Nat) (hn : 3 <= n) (a : Option Addr) (len cap : Nat) (L : List Int) (hlen : L.length = len) (J Jx : List (Int × Int) -> World -> Prop)
  (hY : ∀ pre x W, J pre W -> pre.length < L.length + 1 -> YieldAt Fence.wide (n - 1) Tryz.prog l (enc2 x) W fun e W' =>
   (e = .returned (.bool true) /\ J (pre ++ [x]) W' /\ Kp H Bn W W') \/ (e = .returned (.bool false) /\ Jx (pre ++ [x]) W'))
  (W W0 : World) (hBn : Boxed W Bn 36 (.slice a len cap)) (hH : W0.heap.size <= H) (hW0 : Below H W0 W) (hL : zfv .u8 W0 a cap L) (h0 : J [] W) :
  CallsIn Fence.wide n Tryz.prog 237 #[.func (.yield l) #[] #[], .pointer (some ⟨Bn, 0, none⟩)] W fun e W' => (∃ v, e = .returned v) /\
   ((∃ ys, Seen L ys /\ J ys W') \/ (∃ pre, ztm L pre /\ Jx pre W')) := by
 have hf21 : Fence.wide.fn 237 := trivial
 have hf10 : Fence.wide.fn 122 := trivial
 have hro : Fence.wide.round = none := rfl
 have hby := Zh (zo9 hL.2.1)
 have HL := Zh hL
 have HE := Zh hlen
 have HW0 := Zh hW0
 clear hL hlen hW0
 have hcell := hBn.cell
 have hRW : Hid (zfv .u8 W a cap L) := Zh (HL.out.belowN hH HW0.out)
 obtain ⟨x0, q0, hg0, hn0⟩ := zrr L 0
 have HG0 : Hid (M.get L 0 = (x0, q0)) := Zh hg0
 clear hg0
 have h1 : 1 <= n := by omega
 have h2 : 1 <= n - 1 := by omega
 refine callsIn_of_wp Tryz.func237 rfl hf21 ?_ hro
 simp only [Tryz.ntmps237, List.size_toArray, List.length_cons, List.length_nil, Nat.reduceAdd, Nat.reduceSub, Array.replicate_succ, Array.replicate_zero, List.push_toArray, List.append_toArray, List.nil_append, List.cons_append]
 gi_wp2_with (gi_at_call 122; refine (callsIn_wide.2 (zn5 HG0.out (zol a len cap _ L _ HE.out hRW.out))).mono ?_; rintro e w' ⟨rfl, rfl⟩)
 gi_loopw [3, 4] (fun x y wr => ∃ (pre : List (Int × Int)) (p : Nat), Hid (Part L (pre.map Prod.fst) p) /\ Hid (zp7 pre = p) /\ J pre wr /\ Kp H Bn W wr /\ Next L p x y) (fun _ y _ => meas len y)
 case atStart =>
  exact ⟨[], 0, Zh (Part.start _), Zh rfl, h0, Kp.r _ _ _, hn0⟩
 case round =>
  obtain ⟨pre, p, HP, HE2, hJ, hK, hN⟩ := hrel
  have hcw : wr.cell? ⟨Bn, 0, none⟩ = some (.slice a len cap) := (World.cell?_of_block (w := W) (a := ⟨Bn, 0, none⟩) hK.2).trans hcell
  rcases hN with ⟨m, e, hh, rfl, rfl⟩ | ⟨hh, rfl, rfl⟩
  ·obtain ⟨hp', he0, hpl, hm⟩ := HP.out.step hby.out hh
   have HS := Zh hp'
   have HH := Zh hh
   obtain ⟨fn, tmps, assign, body, hy, hR⟩ := hY pre (m, (p : Int) + e) wr hJ (by have := HP.out.len; simp at this; omega)
   dsimp only [enc2] at hy
   have hge : ¬ ((p : Int) + e < 0) := by omega
   have hge2 : decide (0 <= (p : Int) + e) = true := by simp; omega
   obtain ⟨x1, q1, hg1, hn1⟩ := zrr L (p + e)
   have HG1 : Hid (M.get L ((p : Int) + e) = (x1, q1)) := Zh (by simpa using hg1)
   clear hp' hh hpl hg1
   gi_wp2
   refine hR.mono ?_
   rintro e3 W3 (⟨rfl, hJ3, hk3⟩ | ⟨rfl, hx3⟩)
   ·have hc3 : W3.cell? ⟨Bn, 0, none⟩ = some (.slice a len cap) := (World.cell?_of_block (w := wr) (a := ⟨Bn, 0, none⟩) hk3.2).trans hcw
    have hR3 : Hid (zfv .u8 W3 a cap L) := Zh (HL.out.belowN hH ((HW0.out.trans hK.1).trans hk3.1))
    gi_wp2_with (gi_at_call 122; refine (callsIn_wide.2 (zn5 HG1.out (zol a len cap _ L _ HE.out hR3.out))).mono ?_; rintro e w' ⟨rfl, rfl⟩)
    go_roundw
    case rel => exact ⟨pre ++ [(m, (p : Int) + e)], p + e, Zh (by simpa using HS.out), Zh (by rw [zo5]; simp), hJ3, hK.t hk3, hn1⟩
    case measure => exact zrs HE.out hby.out HP.out HH.out hn1
   ·gi_wp2
    go_end0
    exact ⟨⟨_, rfl⟩, .inr ⟨pre ++ [(m, (p : Int) + e)], ⟨p + e, by simpa using HS.out⟩, hx3⟩⟩
  ·have HH := Zh hh
   clear hh
   gi_wp2
   refine ⟨fun _ h => (by cases h), ?_⟩
   gi_wp2
   go_end0
   exact ⟨⟨_, rfl⟩, .inl ⟨pre, ⟨p, HP.out, HE2.out, HH.out⟩, hJ⟩⟩
end Go.Proofs.YtijkbflimbffmaaGreat
namespace Go.Proofs.YtijkbflimbffmaaGreat
set_option maxHeartbeats 2000000
set_option maxRecDepth 100000
open Go.RowKit Go.Shelf
attribute [local go_sem] Oper.semAt_some
theorem zqt (n : Nat) (a : Option Addr) (len cap : Nat) (w : World) :
  CallsIn Fence.wide n Tryz.prog 192 #[.slice a len cap] w fun e w' => e = .returned (.func (.func 237) #[] #[.pointer (some ⟨w.heap.size, 0, none⟩)]) /\ w' = w.alloc (.cells #[.slice a len cap] 36) := by
 have hf20 : Fence.wide.fn 192 := trivial
 refine callsIn_of_wp Tryz.func192 rfl hf20 ?_ rfl
 simp only [Tryz.ntmps192, List.size_toArray, List.length_cons, List.length_nil, Nat.reduceAdd, Nat.reduceSub, Array.replicate_succ, Array.replicate_zero, List.push_toArray, List.append_toArray, List.nil_append, List.cons_append]
 gi_wp2
 go_ret
 exact ⟨rfl, rfl⟩
theorem zqu (n H Bn : Nat) (hn : 3 <= n) (a : Option Addr) (len cap : Nat) (L : List Int) (hlen : L.length = len) (W0 w : World) (hBn : Boxed w Bn 36 (.slice a len cap)) (hH : W0.heap.size <= H) (hHw : H <= w.heap.size) (hW0 : Below H W0 w) (hL : zfv .u8 W0 a cap L) :
  SeqStopsK Fence.wide n Tryz.prog 237 #[.pointer (some ⟨Bn, 0, none⟩)] enc2 (Kp H Bn) (Seen L) (ztm L) (L.length + 1) w := fun l J Jx W hW _ _ hY h0 =>
 zsc n l Bn H hn a len cap L hlen J Jx hY W W0 ((hW.block Bn hBn.lt).trans hBn) hH (hW0.trans (hW.mono hHw)) hL h0
def Inv (w0 : World) (H : Nat) (sl : Value) (pre : List (Int × Int)) (W : World) : Prop :=
 ((∃ v, Boxed W (H + 2) 75 v /\ W.ownsRow (H + 5) 3 1 v pre.length ((pre.map Prod.fst).map (Value.int .i64)) /\ True) /\ Boxed W (H + 3) 3 (.int .i64 (zp7 pre)) /\ Boxed W (H + 4) 36 sl /\ Boxed W H 75 (.slice none 0 0) /\ Boxed W (H + 1) 4 (.bool false)) /\ pre.length <= 400 /\ Below H w0 W
theorem zs4 (w0 : World) (H B : Nat) (sl : Value) (hH : H <= w0.heap.size) (hB : H <= B) : OwnFrom B (Inv w0 H sl) :=
 OwnFrom.and (OwnFrom.and (Own.from (holdsRow_own (H + 5) (H + 2) 75 3 1 (fun pre : List (Int × Int) => pre.length) (fun pre => (pre.map Prod.fst).map (Value.int .i64)) (fun _ _ => True)) _)
  (OwnFrom.and (Own.from (boxed_own (H + 3) 3 (fun pre : List (Int × Int) => Value.int .i64 (zp7 pre))) _) (OwnFrom.and (Own.from (boxed_own (H + 4) 36 (fun _ => sl)) _)
   (OwnFrom.and (Own.from (boxed_own H 75 (fun _ => .slice none 0 0)) _) (Own.from (boxed_own (H + 1) 4 (fun _ => .bool false)) _)))))
  (OwnFrom.and (ownFrom_pure B (fun pre : List (Int × Int) => pre.length <= 400)) (ownFrom_below hH hB))
theorem znh {W w1 : World} {H k B : Nat} {v : Value} {xs : List Value} {tmp : Obj} {t : TypeId} {u : Value} (hrow : W.ownsRow (H + 5) 3 1 v k xs) (hgrow : (W.alloc tmp).grownBy w1 v.ownBlock) (hb : Boxed W B t u) (hB : B < H + 5) : Boxed w1 B t u :=
 (hb.alloc tmp).kept hgrow (fun e => by have := (hrow.lt _ e.symm).1; omega)
theorem zsd {w0 W w1 : World} {H : Nat} {sl v v' : Value} {pre : List (Int × Int)} {x : Int × Int} {tmp : Obj} (hv : Boxed W (H + 2) 75 v) (hrow : W.ownsRow (H + 5) 3 1 v pre.length ((pre.map Prod.fst).map (Value.int .i64)))
  (b3 : Boxed W (H + 3) 3 (.int .i64 (zp7 pre))) (b4 : Boxed W (H + 4) 36 sl) (b0 : Boxed W H 75 (.slice none 0 0)) (b1 : Boxed W (H + 1) 4 (.bool false)) (hl : pre.length < 400) (hB : Below H w0 W)
  (hown' : w1.ownsRow (H + 5) 3 1 v' (pre.length + 1) ((pre.map Prod.fst).map (Value.int .i64) ++ [.int .i64 x.1])) (hgrow : (W.alloc tmp).grownBy w1 v.ownBlock) :
  KeepsOthers W ((w1.setCell ⟨H + 2, 0, none⟩ v').setCell ⟨H + 3, 0, none⟩ (.int .i64 x.2)) /\ Kp H (H + 4) W ((w1.setCell ⟨H + 2, 0, none⟩ v').setCell ⟨H + 3, 0, none⟩ (.int .i64 x.2)) /\
   Inv w0 H sl (pre ++ [x]) ((w1.setCell ⟨H + 2, 0, none⟩ v').setCell ⟨H + 3, 0, none⟩ (.int .i64 x.2)) := by
 have x0 := znh hrow hgrow b0 (by omega)
 have x1 := znh hrow hgrow b1 (by omega)
 have x2 := znh hrow hgrow hv (by omega)
 have x3 := znh hrow hgrow b3 (by omega)
 have x4 := znh hrow hgrow b4 (by omega)
 have hws := b4.lt
 have hbel : Below H W ((w1.setCell ⟨H + 2, 0, none⟩ v').setCell ⟨H + 3, 0, none⟩ (.int .i64 x.2)) :=
  (((Below.refl H W).alloc (by omega) tmp).grown hgrow (by simp; omega) (fun k e => by have := (hrow.lt _ e).1; omega)).setCell (p := ⟨H + 2, 0, none⟩) (by simp) v' |>.setCell (p := ⟨H + 3, 0, none⟩) (by simp) _
 have z4 := (x4.other (B' := H + 2) (by omega) v').other (B' := H + 3) (by omega) (.int .i64 x.2)
 refine ⟨?_, ⟨hbel, ?_⟩, ⟨⟨v', (x2.set v').other (by omega) _, ?_, trivial⟩, ?_, z4, (x0.other (by omega) _).other (by omega) _, (x1.other (by omega) _).other (by omega) _⟩, by simp; omega, hB.trans hbel⟩
 ·refine (((KeepsOthers.alloc W tmp).trans (KeepsOthers.of_grownBy hgrow fun j o ej hj => ?_)).trans (KeepsOthers.setCell _ _ _)).trans (KeepsOthers.setCell _ _ _)
  rcases (hrow.alloc tmp).2 with ⟨rfl, _⟩ | ⟨g, cap, cur, rfl, _, hgb, _⟩
  ·simp [Value.ownBlock] at ej
  ·obtain rfl : g = j := by simpa [Value.ownBlock] using ej
   rw [hgb] at hj; cases hj; rfl
 ·exact (show _ = _ from z4).trans (show _ = _ from b4).symm
 ·have r1 := (hown'.kept (grownBy_setCell' w1 (H + 2) v') (.inr (by intro e; have := (hown'.lt _ e).1; omega))).kept (grownBy_setCell' _ (H + 3) (.int .i64 x.2)) (.inr (by intro e; have := (hown'.lt _ e).1; omega))
  simpa using r1
 ·rw [zo5]
  exact (x3.other (B' := H + 2) (by omega) v').set _
theorem zs5 (n : Nat) (hn : 5 <= n) (a : Option Addr) (len cap : Nat) (L : List Int) (w : World) (hlen : L.length = len) (h : zfv .u8 w a cap L) :
  CallsIn Fence.wide n Tryz.prog 123 #[.slice a len cap] w (zo1 L w.heap.size w) := by
 have h1 : 1 <= n := by omega
 have hro : Fence.wide.round = none := rfl
 have hf14 : Fence.wide.fn 123 := trivial
 have hf20 : Fence.wide.fn 192 := trivial
 have hf21 : Fence.wide.fn 237 := trivial
 obtain ⟨i0, hi, hz0, hz1, hz2⟩ := info_parts zl3
 have HL := Zh h
 have HE := Zh hlen
 clear h hlen
 refine callsIn_of_wp_marks Tryz.func123 rfl hf14 ?_ hro
 simp only [Tryz.ntmps123, List.size_toArray, List.length_cons, List.length_nil, Nat.reduceAdd, Nat.reduceSub, Array.replicate_succ, Array.replicate_zero, List.push_toArray, List.append_toArray, List.nil_append, List.cons_append]
 gi_wp2_with (gi_at_call 192; refine (zqt (n - 1) a len cap _).mono ?_; rintro e w' ⟨rfl, rfl⟩)
 obtain ⟨w5, hw5⟩ : ∃ w5, (((((w.alloc (.cells #[.slice none 0 0] 75)).alloc (.cells #[.bool false] 4)).alloc (.cells #[.slice none 0 0] 75)).alloc (.cells #[.int .i64 0] 3)).alloc (.cells #[.slice a len cap] 36)) = w5 := ⟨_, rfl⟩
 have hb : Below w.heap.size w w5 := by rw [<- hw5]; exact (((((Below.refl _ w).alloc (Nat.le_refl _) _).alloc (by simp) _).alloc (by simp; omega) _).alloc (by simp; omega) _).alloc (by simp; omega) _
 have hsz : w5.heap.size = w.heap.size + 5 := by rw [<- hw5]; simp
 have b0 : Boxed w5 w.heap.size 75 (.slice none 0 0) := by rw [<- hw5]; exact ((((Boxed.new w 75 _).alloc _).alloc _).alloc _).alloc _
 have b1 : Boxed w5 (w.heap.size + 1) 4 (.bool false) := by
  rw [<- hw5]; have := (((Boxed.new (w.alloc (.cells #[.slice none 0 0] 75)) 4 (.bool false)).alloc (.cells #[.slice none 0 0] 75)).alloc (.cells #[.int .i64 0] 3)).alloc (.cells #[.slice a len cap] 36)
  rwa [World.size_alloc] at this
 have b2 : Boxed w5 (w.heap.size + 2) 75 (.slice none 0 0) := by
  rw [<- hw5]; have := ((Boxed.new ((w.alloc (.cells #[.slice none 0 0] 75)).alloc (.cells #[.bool false] 4)) 75 (.slice none 0 0)).alloc (.cells #[.int .i64 0] 3)).alloc (.cells #[.slice a len cap] 36)
  simpa [World.size_alloc] using this
 have b3 : Boxed w5 (w.heap.size + 3) 3 (.int .i64 0) := by
  rw [<- hw5]; have := (Boxed.new (((w.alloc (.cells #[.slice none 0 0] 75)).alloc (.cells #[.bool false] 4)).alloc (.cells #[.slice none 0 0] 75)) 3 (.int .i64 0)).alloc (.cells #[.slice a len cap] 36)
  simpa [World.size_alloc] using this
 have b4 : Boxed w5 (w.heap.size + 4) 36 (.slice a len cap) := by
  rw [<- hw5]; have := Boxed.new ((((w.alloc (.cells #[.slice none 0 0] 75)).alloc (.cells #[.bool false] 4)).alloc (.cells #[.slice none 0 0] 75)).alloc (.cells #[.int .i64 0] 3)) 36 (.slice a len cap)
  simpa [World.size_alloc] using this
 rw [hw5]
 clear hw5
 refine wpIn_rangeFunc_ownG hro h1 (gf := 237) (lb := #[.pointer (some ⟨w.heap.size + 4, 0, none⟩)]) rfl hf21 (enters_of Tryz.func237 (by kernel_rfl) rfl)
  (zqu (n - 1) w.heap.size (w.heap.size + 4) (by omega) a len cap L HE.out w w5 b4 (Nat.le_refl _) hb.size hb HL.out) Kp.t (fun W l o o' hl hW hc _ => ⟨(Below.refl _ W).grown (grownBy_putObj' W l o') (by have := (Array.getElem?_eq_some_iff.1 hW).1; omega) (fun k e => by cases e; omega), (grownBy_putObj' W l o').block _ (by have := (Array.getElem?_eq_some_iff.1 hW).1; omega) (fun e => by cases e; omega)⟩) (Below.refl _ _) (fun _ => rfl)
  (Inv w w.heap.size (.slice a len cap))
  (fun c pre W => c = .ret /\ 400 < pre.length /\ Boxed W w.heap.size 75 (.slice none 0 0) /\ Boxed W (w.heap.size + 1) 4 (.bool false) /\ Below w.heap.size w W)
  (zs4 _ _ _ _ (Nat.le_refl _) (by omega))
  (fun c => OwnFrom.and (ownFrom_pure _ _) (OwnFrom.and (ownFrom_pure _ _) (OwnFrom.and (Own.from (boxed_own _ _ (fun _ => .slice none 0 0)) _) (OwnFrom.and (Own.from (boxed_own _ _ (fun _ => .bool false)) _) (ownFrom_below (Nat.le_refl _) (by omega))))))
  ⟨⟨⟨_, b2, World.ownsRow_nil _ _ _ _, trivial⟩, b3, b4, b0, b1⟩, by simp, hb⟩
  (fun x => { tmps := #[.slice a len cap, undef, .pointer (some ⟨w.heap.size, 0, none⟩), .pointer (some ⟨w.heap.size + 1, 0, none⟩), .pointer (some ⟨w.heap.size + 1 + 1, 0, none⟩), .pointer (some ⟨w.heap.size + 1 + 1 + 1, 0, none⟩), .int .i64 x.1, .int .i64 x.2, .slice a len cap, .func (.func 237) #[] #[.pointer (some ⟨w.heap.size + 1 + 1 + 1 + 1, 0, none⟩)], .int .i64 x.1, .int .i64 x.2, undef, undef, undef, undef, undef, undef, undef, undef, undef, undef, undef, undef, undef], defers := [] }) ?assign ?body ?done ?stop
 case assign =>
  intro l x W K hK
  gi_wp2
  exact hK
 case body =>
  rintro l pre x W ⟨⟨⟨v, hv, hrow, -⟩, b3, b4, b0, b1⟩, h400, hB⟩ hlt
  have c2 : W.cell? ⟨w.heap.size + 1 + 1, 0, none⟩ = some v := hv.cell
  have c0 := b0.cell
  have c1 := b1.cell
  have f0 := b0.frozen
  have f1 := b1.frozen
  have hws := b4.lt
  obtain ⟨a1, cap1, rfl⟩ := zm9 hrow
  have HV := Zh hv
  have HBo := Zh (And.intro b0 b1)
  have HB4 := Zh (And.intro b3 b4)
  clear hv b0 b1 b3 b4
  by_cases h4 : pre.length = 400
  ·have ht : ((pre.length : Int) == 400) = true := by simp; omega
   have H4 := Zh h4
   clear h4
   gi_wp2
   refine ⟨((KeepsOthers.setCell _ _ _).trans (KeepsOthers.setCell _ _ _)).from _, rfl, by simp [H4.out], (HBo.out.1.set _).other (by omega) _, (HBo.out.2.other (by omega) _).set _, (hB.setCell (p := ⟨w.heap.size, 0, none⟩) (Nat.le_refl _) _).setCell (p := ⟨w.heap.size + 1, 0, none⟩) (by simp) _⟩
  ·have ht : ((pre.length : Int) == 400) = false := by simp; omega
   have h4' : pre.length < 400 := by omega
   clear h4
   gi_wp2_with (gi_at_builtin; refine wpListIn_append_own _ rfl _ _ 75 rfl (w.heap.size + 5) 3 i0 (.int .i64 0) 1 8 Tryz.underlying75 hi hz0 hz1 hz2 rfl (by decide) _ _ _ rfl (hrow.alloc _) ⟨W.heap.size, 0, none⟩ 1 1 [.int .i64 x.1] rfl rfl (cell_one_new _ _ _) (by simp [Value.oneCell']) (by unfold maxLen; omega) (by omega) (by simp; omega) ?_; intro v' w1 hown' hgrow _; obtain ⟨g', cap', rfl⟩ := ownsRow_succ hown'; have x2 := znh hrow hgrow HV.out (by omega); have x3 := znh hrow hgrow HB4.out.1 (by omega); have d2 : w1.cell? ⟨w.heap.size + 1 + 1, 0, none⟩ = some _ := x2.cell; have d3 : w1.cell? ⟨w.heap.size + 1 + 1 + 1, 0, none⟩ = some _ := x3.cell; have f2 : w1.frozen? ⟨w.heap.size + 1 + 1, 0, none⟩ = false := x2.frozen; have f3 : w1.frozen? ⟨w.heap.size + 1 + 1 + 1, 0, none⟩ = false := x3.frozen; clear x2 x3)
   have hE := zsd (x := x) HV.out hrow HB4.out.1 HB4.out.2 HBo.out.1 HBo.out.2 h4' hB hown' hgrow
   exact ⟨hE.1.from _, hE.2.1, hE.2.2⟩
 case done =>
  rintro D ys W hD ⟨p, hP, hE, hnone⟩ ⟨⟨⟨v, hv, hrow, -⟩, b3, b4, b0, b1⟩, h400, hB⟩ hK
  have c3 : W.cell? ⟨w.heap.size + 1 + 1 + 1, 0, none⟩ = some (.int .i64 (p : Int)) := by rw [<- hE]; exact b3.cell
  have c2 : W.cell? ⟨w.heap.size + 1 + 1, 0, none⟩ = some v := hv.cell
  have c0 := b0.cell
  have c1 := b1.cell
  have f0 := b0.frozen
  have f1 := b1.frozen
  have HV := Zh hv
  have HRo := Zh hrow
  have HBo := Zh (And.intro b0 b1)
  have HP := Zh hP
  have HNo := Zh hnone
  have hpl := hP.1
  rw [HE.out] at hpl
  clear hv hrow b0 b1 b3 b4 hP hnone hE
  by_cases hlt : p < len
  ·have HN := Zh (HP.out.fail (by rw [HE.out]; exact hlt) HNo.out)
   gi_wp2
   have b0' := (HBo.out.1.set (.slice none 0 0)).other (B' := w.heap.size + 1) (by omega) (.bool false)
   have b1' := (HBo.out.2.other (B' := w.heap.size) (by omega) (.slice none 0 0)).set (.bool false)
   have hK' := ((KeepsOthers.setCell W ⟨w.heap.size, 0, none⟩ (.slice none 0 0)).trans (KeepsOthers.setCell _ ⟨w.heap.size + 1, 0, none⟩ (.bool false))).same D _ hK rfl
   refine ⟨by simp, .inl ⟨_, _, rfl, run_takeDeferred hK', ?_⟩⟩
   have d0 := (cell_kept b0'.cell (grownBy_putObj' _ D (.deferred none)) (fun r e => by cases e; exact ⟨_, hK', rfl⟩))
   have d1 := (cell_kept b1'.cell (grownBy_putObj' _ D (.deferred none)) (fun r e => by cases e; exact ⟨_, hK', rfl⟩))
   refine ⟨.tuple #[.slice none 0 0, .bool false], ?_, ?_⟩
   ·simp [results, Tryz.f123, go_sem, d0, d1]
   ·exact .no HN.out (((hB.setCell (p := ⟨w.heap.size, 0, none⟩) (Nat.le_refl _) _).setCell (p := ⟨w.heap.size + 1, 0, none⟩) (by simp) _).trans (belowK_b (w := w) (Nat.le_refl _) _ D _ _ (by omega) hK' rfl rfl))
  ·have HN := Zh (HP.out.done (by rw [HE.out]; omega) (by simpa using h400))
   have hd : decide (p < len) = false := by simp; omega
   obtain ⟨a1, cap1, rfl⟩ := zm9 HRo.out
   gi_wp2
   have b0' := (HBo.out.1.set (.slice a1 ys.length cap1)).other (B' := w.heap.size + 1) (by omega) (.bool true)
   have b1' := (HBo.out.2.other (B' := w.heap.size) (by omega) (.slice a1 ys.length cap1)).set (.bool true)
   have hK' := ((KeepsOthers.setCell W ⟨w.heap.size, 0, none⟩ (.slice a1 ys.length cap1)).trans (KeepsOthers.setCell _ ⟨w.heap.size + 1, 0, none⟩ (.bool true))).same D _ hK rfl
   refine ⟨by simp, .inl ⟨_, _, rfl, run_takeDeferred hK', ?_⟩⟩
   have d0 := (cell_kept b0'.cell (grownBy_putObj' _ D (.deferred none)) (fun r e => by cases e; exact ⟨_, hK', rfl⟩))
   have d1 := (cell_kept b1'.cell (grownBy_putObj' _ D (.deferred none)) (fun r e => by cases e; exact ⟨_, hK', rfl⟩))
   refine ⟨.tuple #[.slice a1 ys.length cap1, .bool true], ?_, ?_⟩
   ·simp [results, Tryz.f123, go_sem, d0, d1]
   ·refine .yes HN.out ?_ (((hB.setCell (p := ⟨w.heap.size, 0, none⟩) (Nat.le_refl _) _).setCell (p := ⟨w.heap.size + 1, 0, none⟩) (by simp) _).trans (belowK_b (w := w) (Nat.le_refl _) _ D _ _ (by omega) hK' rfl rfl))
    have r1 := (HRo.out.kept (grownBy_setCell' W w.heap.size (.slice a1 ys.length cap1)) (.inr (by intro e; have := (HRo.out.lt _ e).1; omega))).kept (grownBy_setCell' _ (w.heap.size + 1) (.bool true)) (.inr (by intro e; have := (HRo.out.lt _ e).1; omega))
    have r2 := ownsRow_putObj r1 (.deferred none) hK' rfl
    exact zan (by simpa using r2) (by omega)
 case stop =>
  rintro D c pre W hD ⟨p, hP⟩ ⟨rfl, h400, b0, b1, hB⟩ hK
  have HN := Zh (hP.over (by simpa using h400))
  gi_wp2
  refine ⟨by simp, .inl ⟨_, _, rfl, run_takeDeferred hK, ?_⟩⟩
  have c0 := (cell_kept b0.cell (grownBy_putObj' _ D (.deferred none)) (fun r e => by cases e; exact ⟨_, hK, rfl⟩))
  have c1 := (cell_kept b1.cell (grownBy_putObj' _ D (.deferred none)) (fun r e => by cases e; exact ⟨_, hK, rfl⟩))
  refine ⟨.tuple #[.slice none 0 0, .bool false], ?_, ?_⟩
  ·simp [results, Tryz.f123, go_sem, c0, c1]
  ·exact .no HN.out (hB.trans (belowK_b (w := w) (Nat.le_refl _) W D _ _ (by omega) hK rfl rfl))
theorem zql (a : Option Addr) (len cap : Nat) (L : List Int) (w : World) (hl : L.length = len) (h : zfv .u8 w a cap L) :
  Calls Tryz.prog 123 #[.slice a len cap] w (zo1 L w.heap.size w) := (callsIn_wide (n := 5)).1 (zs5 5 (by omega) a len cap L w hl h)
theorem zom (a : Option Addr) (len cap : Nat) (L : List Int) (w : World) (hl : L.length = len) (h : zfv .u8 w a cap L) : Calls Tryz.prog 123 #[.slice a len cap] w fun e w' =>
  ∃ a' cap' n', e = .returned (.tuple #[.slice a' n' cap', .bool (M.read L).isSome]) /\ Hid (((M.read L).getD []).length = n') /\ Hid (zfv .i64 w' a' cap' ((M.read L).getD [])) /\ Below w.heap.size w w' :=
 (zql a len cap L w hl h).mono fun e w' ⟨v, ok, he, hok, ho, hb⟩ => by
  obtain ⟨a', cap', rfl, _, hr⟩ := zex ho (zsu L)
  exact ⟨a', cap', _, by rw [he, hok], rfl, hr, hb⟩
end Go.Proofs.YtijkbflimbffmaaGreat
namespace Go.Proofs.YtijkbflimbffmaaGreat
open Go.RowKit
def sl (a : Option Addr) (l m : Nat) : Option Addr := if m = l then a else a.map (·.add l)
theorem zs6 {a : Option Addr} {l m : Nat} (h : sl a l m = none) : a = none := by
 unfold sl at h
 split at h
 ·exact h
 ·simpa using h
theorem zo6 {k : IntKind} {w : World} {a : Option Addr} {cap l h m : Nat} {L : List Int} (hr : zfv k w a cap L) (h1 : l <= h) (h2 : h <= L.length) (h3 : h <= m) (h4 : m <= maxLen) : zfv k w (sl a l m) (m - l) ((L.take h).drop l) := by
 refine ⟨⟨by simp; omega, by omega⟩, fun n hn => hr.2.1 n (List.mem_of_mem_take (List.mem_of_mem_drop hn)), ?_⟩
 by_cases hlh : l = h
 ·exact .inl (List.drop_eq_nil_of_le (by simp; omega))
 ·obtain ⟨b, off, rfl, hb, _⟩ := zl4 hr (i := 0) (by omega)
  refine .inr ⟨b, off + l, ?_, hb, fun i hi => ?_⟩
  ·unfold sl
   rw [if_neg (by omega)]
   simp [WideShapes.add_plain]
  ·simp at hi
   obtain ⟨b', off', he, _, hc⟩ := zl4 hr (i := l + i) (by omega)
   cases he
   rw [show off + l + i = off + (l + i) by omega, hc]
   simp [show l + i < h by omega, show l + i < L.length by omega]
def slk (k : Nat) (a : Option Addr) (l m : Nat) : Option Addr := if m = l then a else a.map (·.add (l * k))
theorem zse {k : Nat} {a : Option Addr} {l m : Nat} (h : slk k a l m = none) : a = none := by
 unfold slk at h
 split at h
 ·exact h
 ·simpa using h
theorem ztn (a : Option Addr) (l m : Nat) : slk 1 a l m = sl a l m := by simp [slk, sl]
section
variable (a : Option Addr) {len cap k : Nat} {t : TypeId} (ht : Tryz.prog.underlying t = some (.slice (Tryz.prog.elem t))) (hk : ∀ w, (sizeOf (Tryz.prog.elem t)).run Tryz.prog w = .ok k w) (w : World)
include ht hk
theorem zs7 {h : Nat} (h2 : h <= cap) : (Instr.sliceAt t (.slice a len cap) none (some (.int .i64 (h : Int))) none).run Tryz.prog w = .ok (.slice (slk k a 0 cap) h cap) w := by
 rw [run_sliceAt_slice (w := w) (h := ht), run_slice_h (w := w) (ht := ht) (h0 := by omega) (h2 := by omega), hk]
 simp [Result.andThen, sliced, slk]
theorem zs8 {q : Nat} (h2 : q <= len) : (Instr.sliceAt t (.slice a len cap) (some (.int .i64 (q : Int))) none none).run Tryz.prog w = .ok (.slice (slk k a q cap) (len - q) (cap - q)) w := by
 rw [run_sliceAt_slice (w := w) (h := ht), run_slice_l (w := w) (ht := ht) (h0 := by omega) (h1 := by omega), hk]
 simp [Result.andThen, sliced, slk]
end
end Go.Proofs.YtijkbflimbffmaaGreat
namespace Go.Proofs.YtijkbflimbffmaaGreat
set_option maxRecDepth 100000
open Go.RowKit
namespace J
theorem rd_pl {wa w3 : World} {b H nn cn : Nat} {s : Y.St} {A : Y.A9} {an : Option Addr} {N : List Int} (h : Rd wa b H s A an nn cn N) (x : O.Pl) {a3 : Option Addr} {c3 : Nat} (hown : w3.ownsRow H 111 3 (.slice a3 (A.np + 1) c3) (A.np + 1) (O.flat s.ps ++ O.cells x)) (hg : wa.grownBy w3 (Value.slice A.ap A.np A.cp).ownBlock) (hH : H <= wa.heap.size) :
  Rd (w3.setCell ⟨b, 13, none⟩ (.slice a3 (A.np + 1) c3)) b H { s with ps := s.ps ++ [x] } { A with ap := a3, np := A.np + 1, cp := c3 } an nn cn N /\ Far b H wa (w3.setCell ⟨b, 13, none⟩ (.slice a3 (A.np + 1) c3)) /\ w3.cell? ⟨b, 13, none⟩ = some (.slice A.ap A.np A.cp) /\ w3.frozen? ⟨b, 13, none⟩ = false := by
 have gst := grown_set w3 b 13 (.slice a3 (A.np + 1) c3)
 have hb := h.b
 have hne : some b ≠ (Value.slice A.ap A.np A.cp).ownBlock := fun e => by have := (h.o.rp.lt b e.symm).1; omega
 have k3 := h.k.grown hg hne
 have hf : O.flat s.ps ++ O.cells x = O.flat (s.ps ++ [x]) := by simp [O.flat]
 rw [hf] at hown
 refine ⟨⟨?_, ⟨hown.kept gst (.inr fun e => by have := (hown.lt b e).1; omega), (h.o.rl.kept hg (apart h.o.rl h.o.rp (by decide))).kept gst (.inr fun e => by have := (h.o.rl.lt b e).1; omega), (h.o.rh.kept hg (apart h.o.rh h.o.rp (by decide))).kept gst (.inr fun e => by have := (h.o.rh.lt b e).1; omega), by show (s.ps ++ [x]).length = _; rw [List.length_append, h.o.np]; rfl, h.o.nl, h.o.nh⟩, (h.n.kept hg (apart h.n h.o.rp (by decide))).kept gst (.inr fun e => by have := (h.n.lt b e).1; omega), hb⟩, (Far.of_grown hg hH (fun r e => ⟨.inl (h.o.rp.lt r e).1, fun o ho => row_cells h.o.rp e ho⟩)).trans (Far.of_grown gst (Nat.le_trans hH hg.size) (fun r e => by cases e; exact ⟨.inr rfl, fun o ho => by rw [show w3.heap[b]? = _ from k3] at ho; cases ho; rfl⟩)), k3.cell 13, k3.frozen 13⟩
 have := k3.set 13 (.slice a3 (A.np + 1) c3)
 simpa [Y.cs] using this
def nth (N : List Int) (i : Nat) : Int := N.getD i 0
def s00 : Y.St := ⟨⟨0, 0, 0, 0, 0, 0, 0, 0⟩, ⟨0, 0, 0, false⟩, 0, [], [], []⟩
def plsOf : List Int -> List O.Pl
 | f :: n :: s :: r => ⟨f, n, s⟩ :: plsOf r
 | _ => []
theorem plsOf_plN : ∀ l : List O.Pl, plsOf (plN l) = l
 | [] => rfl
 | x :: l => by
  have := plsOf_plN l
  show plsOf (x.f :: x.n :: x.s :: plN l) = x :: l
  rw [plsOf, this]
theorem plsOf_len : ∀ (k : Nat) (r : List Int), r.length = 3 * k -> (plsOf r).length = k
 | 0, [], _ => rfl
 | k + 1, f :: n :: s :: r, h => by
  have := plsOf_len k r (by simp only [List.length_cons] at h; omega)
  rw [plsOf, List.length_cons, this]
 | 0, _ :: _, h => by simp at h
 | k + 1, [], h => by simp at h
 | k + 1, [_], h => by simp at h; omega
 | k + 1, [_, _], h => by simp at h; omega
theorem plsOf_at : ∀ (k : Nat) (r : List Int), 3 * k + 3 <= r.length -> (plsOf r)[k]? = some ⟨r.getD (3 * k) 0, r.getD (3 * k + 1) 0, r.getD (3 * k + 2) 0⟩
 | 0, f :: n :: s :: r, _ => rfl
 | k + 1, f :: n :: s :: r, h => by
  have := plsOf_at k r (by simp only [List.length_cons] at h; omega)
  rw [plsOf, List.getElem?_cons_succ, this, show 3 * (k + 1) = 3 * k + 3 by omega]
  rfl
 | _, [], h => by simp at h
 | _, [_], h => by simp at h
 | _, [_, _], h => by simp at h
def stN (N : List Int) : Y.St := ⟨⟨J.nth N 0, J.nth N 1, J.nth N 2, J.nth N 3, J.nth N 4, J.nth N 5, J.nth N 6, J.nth N 7⟩, ⟨J.nth N 8, J.nth N 9, J.nth N 10, J.nth N 11 == 1⟩, J.nth N 12, plsOf (N.drop 15), [], []⟩
theorem stN_nums (s : Y.St) : stN (nums s) = { s with l := [], h := [] } := by
 obtain ⟨⟨d0, d1, d2, d3, d4, d5, d6, d7⟩, ⟨p0, p1, p2, p3⟩, now, ps, l, h⟩ := s
 unfold stN nums nums15 nth
 simp only [List.cons_append, List.nil_append, List.getD_cons_zero, List.getD_cons_succ, List.drop_succ_cons, List.drop_zero, plsOf_plN]
 cases p3 <;> rfl
theorem row_get {w : World} {H g nn cn i : Nat} {N : List Int} (h : w.ownsRow H 3 1 (.slice (some ⟨g, 0, none⟩) nn cn) nn (N.map (Value.int .i64))) (hi : i < nn) : w.cell? ⟨g, i, none⟩ = some (.int .i64 (nth N i)) := by
 have hl : N.length = nn := by have := h.1; simpa using this
 rw [h.cellAt i (by omega)]
 simp [nth, show i < N.length by omega]
theorem rd_new {w W : World} {b H nn cn : Nat} {s s' : Y.St} {A : Y.A9} {an : Option Addr} {N : List Int} (h : Rd w b H s A an nn cn N) (hg : w.grownBy W (some b)) (hH : H <= w.heap.size) (hk : Blok W b 83 (Y.cs s' A ++ [Value.slice an nn cn]).toArray) (hl : s'.ps = s.ps /\ s'.l = s.l /\ s'.h = s.h) : Rd W b H s' A an nn cn N /\ Far b H w W := by
 have hb := h.b
 have far := Far.of_grown hg hH (fun r e => by cases e; exact ⟨.inr rfl, fun o ho => by rw [show w.heap[b]? = _ from h.k] at ho; cases ho; rfl⟩)
 have o := h.o.far hg hb
 obtain ⟨h1, h2, h3⟩ := hl
 exact ⟨⟨hk, ⟨by rw [h1]; exact o.rp, by rw [h2]; exact o.rl, by rw [h3]; exact o.rh, by rw [h1]; exact o.np, by rw [h2]; exact o.nl, by rw [h3]; exact o.nh⟩, h.n.kept hg (.inr fun e => by have := (h.n.lt b e).1; omega), hb⟩, far⟩
theorem rd_num {w : World} {b H nn cn n2 c2 : Nat} {s : Y.St} {A : Y.A9} {an a2 : Option Addr} {N N2 : List Int} (h : Rd w b H s A an nn cn N) (hH : H <= w.heap.size) (hn : w.ownsRow H 3 1 (.slice a2 n2 c2) n2 (N2.map (Value.int .i64))) : Rd (w.setCell ⟨b, 16, none⟩ (.slice a2 n2 c2)) b H s A a2 n2 c2 N2 /\ Far b H w (w.setCell ⟨b, 16, none⟩ (.slice a2 n2 c2)) := by
 have hb := h.b
 have hg := grown_set w b 16 (.slice a2 n2 c2)
 have far := Far.of_grown hg hH (fun r e => by cases e; exact ⟨.inr rfl, fun o ho => by rw [show w.heap[b]? = _ from h.k] at ho; cases ho; rfl⟩)
 refine ⟨⟨?_, h.o.far hg hb, hn.kept hg (.inr fun e => by have := (hn.lt b e).1; omega), hb⟩, far⟩
 have := h.k.set 16 (.slice a2 n2 c2)
 simpa [Y.cs] using this
theorem exec_store {P : Program} {o : Oper} {ρ : Operand -> Value} {w w' : World} {t : TypeId} {x y : Operand} {p : Addr} {v : Value} (ho : o.op = .store t x y) (hx : ρ x = .pointer (some p)) (hy : ρ y = v) (h : (Instr.storeAt t (.pointer (some p)) v).run P w = .ok () w') : (execOp ρ o).run P w = .ok .skip w' := by
 unfold execOp
 rw [ho]
 simp only [hx, hy, Sem.run_bind, h, Result.andThen]
 rfl
theorem st8 {w : World} {b : Nat} {cs : Array Value} (h : Blok w b 83 cs) (hs : cs.size = 17) (u0 u1 u2 u3 u4 u5 u6 u7 : Int) : (Instr.storeAt 25 (.pointer (some ⟨b, 0, none⟩)) (.agg #[.int .i64 u0, .int .i64 u1, .int .i64 u2, .int .i64 u3, .int .i64 u4, .int .i64 u5, .int .i64 u6, .int .i64 u7])).run Tryz.prog w = .ok () ((((((((w.setCell ⟨b, 0, none⟩ (.int .i64 u0)).setCell ⟨b, 1, none⟩ (.int .i64 u1)).setCell ⟨b, 2, none⟩ (.int .i64 u2)).setCell ⟨b, 3, none⟩ (.int .i64 u3)).setCell ⟨b, 4, none⟩ (.int .i64 u4)).setCell ⟨b, 5, none⟩ (.int .i64 u5)).setCell ⟨b, 6, none⟩ (.int .i64 u6)).setCell ⟨b, 7, none⟩ (.int .i64 u7)) := by
 have f0 : w.frozen? ⟨b, 0, none⟩ = false := h.frozen 0
 have c0 : w.cell? ⟨b, 0, none⟩ = some (cs[0]'(by omega)) := by rw [h.cell 0]; simp [hs]
 have f1 : w.frozen? ⟨b, 1, none⟩ = false := h.frozen 1
 have c1 : w.cell? ⟨b, 1, none⟩ = some (cs[1]'(by omega)) := by rw [h.cell 1]; simp [hs]
 have f2 : w.frozen? ⟨b, 2, none⟩ = false := h.frozen 2
 have c2 : w.cell? ⟨b, 2, none⟩ = some (cs[2]'(by omega)) := by rw [h.cell 2]; simp [hs]
 have f3 : w.frozen? ⟨b, 3, none⟩ = false := h.frozen 3
 have c3 : w.cell? ⟨b, 3, none⟩ = some (cs[3]'(by omega)) := by rw [h.cell 3]; simp [hs]
 have f4 : w.frozen? ⟨b, 4, none⟩ = false := h.frozen 4
 have c4 : w.cell? ⟨b, 4, none⟩ = some (cs[4]'(by omega)) := by rw [h.cell 4]; simp [hs]
 have f5 : w.frozen? ⟨b, 5, none⟩ = false := h.frozen 5
 have c5 : w.cell? ⟨b, 5, none⟩ = some (cs[5]'(by omega)) := by rw [h.cell 5]; simp [hs]
 have f6 : w.frozen? ⟨b, 6, none⟩ = false := h.frozen 6
 have c6 : w.cell? ⟨b, 6, none⟩ = some (cs[6]'(by omega)) := by rw [h.cell 6]; simp [hs]
 have f7 : w.frozen? ⟨b, 7, none⟩ = false := h.frozen 7
 have c7 : w.cell? ⟨b, 7, none⟩ = some (cs[7]'(by omega)) := by rw [h.cell 7]; simp [hs]
 go_simp
theorem st4 {w : World} {b : Nat} {cs : Array Value} (h : Blok w b 83 cs) (hs : cs.size = 17) (u0 u1 u2 : Int) (u3 : Bool) : (Instr.storeAt 27 (.pointer (some ⟨b, 8, none⟩)) (.agg #[.int .i64 u0, .int .i64 u1, .int .i64 u2, .bool u3])).run Tryz.prog w = .ok () ((((w.setCell ⟨b, 8, none⟩ (.int .i64 u0)).setCell ⟨b, 9, none⟩ (.int .i64 u1)).setCell ⟨b, 10, none⟩ (.int .i64 u2)).setCell ⟨b, 11, none⟩ (.bool u3)) := by
 have f8 : w.frozen? ⟨b, 8, none⟩ = false := h.frozen 8
 have c8 : w.cell? ⟨b, 8, none⟩ = some (cs[8]'(by omega)) := by rw [h.cell 8]; simp [hs]
 have f9 : w.frozen? ⟨b, 9, none⟩ = false := h.frozen 9
 have c9 : w.cell? ⟨b, 9, none⟩ = some (cs[9]'(by omega)) := by rw [h.cell 9]; simp [hs]
 have f10 : w.frozen? ⟨b, 10, none⟩ = false := h.frozen 10
 have c10 : w.cell? ⟨b, 10, none⟩ = some (cs[10]'(by omega)) := by rw [h.cell 10]; simp [hs]
 have f11 : w.frozen? ⟨b, 11, none⟩ = false := h.frozen 11
 have c11 : w.cell? ⟨b, 11, none⟩ = some (cs[11]'(by omega)) := by rw [h.cell 11]; simp [hs]
 go_simp
theorem row_cap {w : World} {B g n c k : Nat} {t : TypeId} {xs : List Value} (h : w.ownsRow B t k (.slice (some ⟨g, 0, none⟩) n c) n xs) : n <= c := by
 rcases h.2 with ⟨h0, _⟩ | ⟨q, cap, cur, h1, _, _, h2, _⟩
 ·cases h0
 ·cases h1; exact h2
theorem drop_get (N : List Int) (i : Nat) : (N.drop 15).getD i 0 = N.getD (15 + i) 0 := by simp [List.getD_eq_getElem?_getD, List.getElem?_drop]
theorem plsOf_next {N : List Int} {k o : Nat} (ho : 15 + 3 * k = o) (h : o + 3 <= N.length) : (plsOf (N.drop 15))[k]? = some ⟨nth N o, nth N (o + 1), nth N (o + 2)⟩ := by
 subst ho
 rw [plsOf_at k _ (by rw [List.length_drop]; omega), drop_get, drop_get, drop_get]
 rfl
def stP (N : List Int) (ps : List O.Pl) : Y.St := ⟨⟨J.nth N 0, J.nth N 1, J.nth N 2, J.nth N 3, J.nth N 4, J.nth N 5, J.nth N 6, J.nth N 7⟩, ⟨J.nth N 8, J.nth N 9, J.nth N 10, J.nth N 11 == 1⟩, J.nth N 12, ps, [], []⟩
def lenV : Value -> Nat
 | .slice _ n _ => n
 | _ => 0
def Rest (g o q c : Nat) (a : Option Addr) : Prop := q <= c /\ (0 < q -> a = some ⟨g, o, none⟩)
theorem Rest.next {g o q c : Nat} {a : Option Addr} (h : Rest g o q c a) (k : Nat) (hk : k <= q) (hq : 0 < q) : Rest g (o + k) (q - k) (c - k) (slk 1 a k c) := by
 obtain ⟨h1, h2⟩ := h
 have h3 := h2 hq
 subst h3
 refine ⟨by omega, fun h4 => ?_⟩
 unfold slk
 rw [if_neg (by omega)]
 simp [WideShapes.add_plain]
end J
end Go.Proofs.YtijkbflimbffmaaGreat
namespace Go.Proofs.YtijkbflimbffmaaGreat
set_option maxHeartbeats 800000
set_option maxRecDepth 100000
open Go.RowKit
theorem zof (n : Int) (w : World) (h0 : 0 <= n) (h1 : n <= 1099511627776) :
  Calls Tryz.prog 115 #[.int .i64 n] w fun e w' => e = .returned (.bool true) /\ w = w' := by
 go_enter Tryz.func115, Tryz.ntmps115
 go_wp2
 go_ret
 exact ⟨rfl, rfl⟩
theorem zon (n : Int) (w : World) (h : ¬ (0 <= n /\ n <= 1099511627776)) :
  Calls Tryz.prog 115 #[.int .i64 n] w fun e w' => e = .returned (.bool false) /\ w = w' := by
 by_cases h0 : 0 <= n
 ·have h1 : decide (n <= 1099511627776) = false := by simp; omega
  clear h
  go_enter Tryz.func115, Tryz.ntmps115
  go_wp2
  go_ret
  exact ⟨rfl, rfl⟩
 ·have h1 : n < 0 := by omega
  clear h h0
  go_enter Tryz.func115, Tryz.ntmps115
  go_wp2
  go_ret
  exact ⟨rfl, rfl⟩
theorem zqv (n : Int) (w : World) (h : ¬ (0 <= n /\ n <= 1099511627776)) :
  Calls Tryz.prog 40 #[.int .i64 n] w (zsr w.heap.size n w) := by
 have hp := M.put_no h
 have H := Zh h; clear h
 go_enter Tryz.func40, Tryz.ntmps40
 go_wp2_with (go_at_call 115; refine (zon _ _ H.out).mono ?_; rintro e w' ⟨rfl, rfl⟩)
 go_ret
 exact ⟨_, rfl, by rw [hp]; exact World.ownsRow_nil _ _ _ _, Below.refl _ _⟩
theorem zp8 (n : Int) (w : World) (h0 : 0 <= n) (h1 : n <= 1099511627776) :
  Calls Tryz.prog 40 #[.int .i64 n] w (zsr w.heap.size n w) := by
 obtain ⟨i0, hi, hz0, hz1, hz2⟩ := info_parts zrf
 have hp6 := M.puts_len6 (n := n.toNat) (by omega)
 have HP : Hid (M.put n = M.puts n.toNat) := Zh (M.put_yes h0 h1)
 go_enter Tryz.func40, Tryz.ntmps40
 go_wp2_with (go_at_call 115; refine (zof _ _ h0 h1).mono ?_; rintro e w' ⟨rfl, rfl⟩)
 go_loopw [0, 3] (fun x v wr => ∃ (m : Nat) (acc : List Int), x = .int .i64 m /\ m <= 1099511627776 /\ Hid (acc ++ M.puts m = M.puts n.toNat) /\ wr.ownsRow w.heap.size 5 1 v acc.length (acc.map (Value.int .u8)) /\ Below w.heap.size w wr) (fun x _ _ => (intOf x).toNat)
 case atStart => exact ⟨n.toNat, [], by rw [Int.toNat_of_nonneg h0], by omega, Zh rfl, World.ownsRow_nil _ _ _ _, Below.refl _ _⟩
 case round =>
  obtain ⟨m, acc, rfl, hm, HA, hown, hB⟩ := hrel
  have hla : acc.length <= 6 := by have := congrArg List.length HA.out; simp at this; omega
  have hBs := hB.size
  by_cases hge : 128 <= m
  ·have hmod : (m : Int) % 128 < 128 := by omega
   go_wp2_with (at_builtin; refine wpList_append_own _ rfl _ _ 36 rfl w.heap.size 5 i0 (.int .u8 0) 1 1 Tryz.underlying36 hi hz0 hz1 hz2 rfl (by decide) _ _ _ rfl (hown.alloc _) ⟨wr.heap.size, 0, none⟩ 1 1 [.int .u8 ((m : Int) % 128 + 128)] rfl rfl (cell_one_new _ _ _) (by simp [Value.oneCell']) (by unfold maxLen; omega) (by omega) (by simp; omega) ?_; intro v' w1 hown' hgrow _)
   go_roundw
   case rel => exact ⟨m / 128, acc ++ [(m : Int) % 128 + 128], by go_num, by omega, Zh (by rw [<- HA.out, M.puts_ge hge]; simp), by simpa using hown', zng hown (by omega) hB hgrow⟩
   case measure => simp [intOf]; omega
  ·have hlt : (m : Int) < 128 := by omega
   go_wp2_with (at_builtin; refine wpList_append_own _ rfl _ _ 36 rfl w.heap.size 5 i0 (.int .u8 0) 1 1 Tryz.underlying36 hi hz0 hz1 hz2 rfl (by decide) _ _ _ rfl (hown.alloc _) ⟨wr.heap.size, 0, none⟩ 1 1 [.int .u8 (m : Int)] rfl rfl (cell_one_new _ _ _) (by simp [Value.oneCell']) (by unfold maxLen; omega) (by omega) (by simp; omega) ?_; intro v' w1 hown' hgrow _)
   go_ret
   refine ⟨_, rfl, ?_, zng hown (by omega) hB hgrow⟩
   rw [HP.out, <- HA.out, M.puts_lt (by omega)]
   simpa using hown'
theorem zpe (n : Int) (w : World) : Calls Tryz.prog 40 #[.int .i64 n] w (zsr w.heap.size n w) := by
 by_cases h : 0 <= n /\ n <= 1099511627776
 ·exact zp8 n w h.1 h.2
 ·exact zqv n w h
end Go.Proofs.YtijkbflimbffmaaGreat
namespace Go.Proofs.YtijkbflimbffmaaGreat
set_option maxHeartbeats 1000000
set_option maxRecDepth 100000
open Go.RowKit
theorem zpo (a : Option Addr) (len cap : Nat) (L : List Int) (w : World) (hl : L.length = len) (h : 400 < len) :
  Calls Tryz.prog 105 #[.slice a len cap] w (zqo L w) := by
 have hn := Zh (zr8 (L := L) (by omega))
 have h' : decide (400 < (len : Int)) = true := by simp; omega
 clear hl
 go_enter Tryz.func105, Tryz.ntmps105
 go_wp2
 go_ret2
 exact .no hn.out (Below.refl _ _)
theorem zpf (a : Option Addr) (cap : Nat) (w : World) :
  Calls Tryz.prog 105 #[.slice a 0 cap] w (zqo [] w) := by
 have hn := Zh (zpa (L := []) (by simp) (by simp))
 go_enter Tryz.func105, Tryz.ntmps105
 go_wp2
 refine wp_loop_rounds 1 ?_
 rw [rounds_succ]
 go_wp2
 go_ret2
 exact ⟨_, _, rfl, by rw [hn.out]; rfl, by rw [hn.out]; exact World.ownsRow_nil _ _ _ _, Below.refl _ _⟩
theorem zto (b off len cap : Nat) (L : List Int) (w : World) (hl : L.length = len) (h4 : len <= 400) (hb : b < w.heap.size)
  (hc : ∀ i, i < L.length -> w.cell? ⟨b, off + i, none⟩ = some (.int .i64 (L.getD i 0))) :
  Calls Tryz.prog 105 #[.slice (some ⟨b, off, none⟩) len cap] w (zqo L w) := by
 obtain ⟨i0, hi, hz0, hz1, hz2⟩ := info_parts zrf
 have HL := Zh hl; clear hl
 have h4' : decide (400 < (len : Int)) = false := by simp; omega
 go_enter Tryz.func105, Tryz.ntmps105
 go_wp2
 go_loopw [4, 12] (fun v i wr => ∃ k : Nat, i = .int .i64 k /\ k <= len /\ Hid (∀ n ∈ L.take k, 0 <= n /\ n <= 1099511627776) /\ wr.ownsRow w.heap.size 5 1 v ((L.take k).flatMap M.put).length (((L.take k).flatMap M.put).map (Value.int .u8)) /\ Below w.heap.size w wr) (fun _ i _ => len - (intOf i).toNat)
 case atStart => exact ⟨0, rfl, by omega, Zh (by simp), World.ownsRow_nil _ _ _ _, Below.refl _ _⟩
 case round =>
  obtain ⟨k, rfl, hk, HG, hown, hB⟩ := hrel
  have hBs := hB.size
  by_cases hlt : k < len
  ·have hkL : k < L.length := by rw [HL.out]; exact hlt
   obtain ⟨n, hn⟩ : ∃ n, L.getD k 0 = n := ⟨_, rfl⟩
   have hcell : wr.cell? ⟨b, off + k, none⟩ = some (.int .i64 n) := by rw [<- hn]; exact (hB.cell (p := ⟨b, off + k, none⟩) hb).trans (hc k hkL)
   have hmem : n ∈ L := by rw [<- hn]; simp [hkL]
   have HF := Zh (zrh hkL)
   have HFL := flat_len (L.take k)
   have HT : (L.take k).length <= k := List.length_take_le _ _
   have HN := Zh hn
   have HM := Zh hmem
   clear hn hmem hkL hc
   by_cases hnum : 0 <= n /\ n <= 1099511627776
   ·obtain ⟨g0, g1⟩ := hnum
    obtain ⟨xs, hxs⟩ : ∃ xs, (L.take k).flatMap M.put = xs := ⟨_, rfl⟩
    rw [hxs] at hown HFL
    have HX := Zh hxs; clear hxs
    have hp := (M.put_pos_iff n).2 ⟨g0, g1⟩
    have hp6 := M.put_len6 n
    go_wp2_with (first | (go_at_call 115; refine (zof _ _ g0 g1).mono ?_; rintro e w' ⟨rfl, rfl⟩) | (go_at_call 40; refine (zpe _ _).mono ?_; rintro e w2 ⟨v2, rfl, hrow2, hb2⟩; obtain ⟨g2, cap2, rfl⟩ := zpm hrow2 hp; have hown2 := zab hown hb2; have hs2 := hb2.size) | (at_builtin; refine wpList_append_own _ rfl _ _ 36 rfl w.heap.size 5 i0 (.int .u8 0) 1 1 Tryz.underlying36 hi hz0 hz1 hz2 rfl (by decide) _ _ _ rfl hown2 ⟨g2, 0, none⟩ (M.put n).length cap2 ((M.put n).map (Value.int .u8)) rfl (by simp) (hrow2.cells rfl) (zoh _ _) (by unfold maxLen; omega) (by omega) (by omega) ?_; intro v' w1 hown' hgrow _))
    go_roundw
    case rel => exact ⟨k + 1, by go_num, by omega, Zh (by
       intro x hx
       rw [List.take_succ_eq_append_getElem (by rw [HL.out]; exact hlt)] at hx
       rcases List.mem_append.1 hx with hx | hx
       ·exact HG.out x hx
       ·have hkL : k < L.length := by rw [HL.out]; exact hlt
        have := HN.out
        simp [hkL] at this hx
        rw [hx, this]; exact ⟨g0, g1⟩), by rw [HF.out, HX.out, HN.out]; simpa using hown', znq hown2 (by omega) (hB.trans (hb2.mono (by omega))) hgrow⟩
    case measure => simp [intOf]; omega
   ·have HNo := Zh (zss HM.out hnum)
    have H := Zh hnum; clear hnum
    go_wp2_with (go_at_call 115; refine (zon _ _ H.out).mono ?_; rintro e w' ⟨rfl, rfl⟩)
    go_ret2
    exact .no HNo.out hB
  ·have hkl : k = len := by omega
   have HS := Zh (zpa (L := L) (by rw [HL.out]; exact h4) (by have := HG.out; rwa [List.take_of_length_le (by rw [HL.out]; omega)] at this))
   have HT := Zh (List.take_of_length_le (l := L) (i := k) (by rw [HL.out]; omega))
   have hd : decide (k < len) = false := by simp; omega
   clear hkl
   go_wp2
   go_ret2
   exact ⟨_, _, rfl, by rw [HS.out]; rfl, by rw [HS.out]; rw [HT.out] at hown; exact hown, hB⟩
theorem zrt (a : Option Addr) (len cap : Nat) (L : List Int) (w : World) (hl : L.length = len) (h : zfv .i64 w a cap L) :
  Calls Tryz.prog 105 #[.slice a len cap] w (zqo L w) := by
 by_cases h4 : 400 < len
 ·exact zpo a len cap L w hl h4
 ·rcases h.2.2 with rfl | ⟨b, off, rfl, hb, hc⟩
  ·subst hl; exact zpf a cap w
  ·exact zto b off len cap L w hl (by omega) hb hc
end Go.Proofs.YtijkbflimbffmaaGreat
namespace Go.Proofs.YtijkbflimbffmaaGreat
open Go.RowKit
theorem zp9 (n : Int) (w : World) : Calls Tryz.prog 236 #[.int .i64 n] w fun e w' => e = .returned (.int .i64 (Z.zig n)) /\ w = w' := by
 by_cases h : -274877906944 <= n /\ n <= 274877906944
 ·have hz := Zh (Z.zig_in h)
  obtain ⟨h1, h2⟩ := h
  have d1 : ¬ n < -274877906944 := by omega
  have d2 : decide (274877906944 < n) = false := by simp; omega
  by_cases h0 : n < 0
  ·go_enter Tryz.func236, Tryz.ntmps236
   go_wp2
   go_ret
   exact ⟨znj (by rw [hz.out, if_pos h0]), rfl⟩
  ·go_enter Tryz.func236, Tryz.ntmps236
   go_wp2
   go_ret
   exact ⟨znj (by rw [hz.out, if_neg (by omega)]), rfl⟩
 ·have hz := Zh (Z.zig_out h)
  by_cases h0 : n < -274877906944
  ·clear h
   go_enter Tryz.func236, Tryz.ntmps236
   go_wp2
   go_ret
   exact ⟨znj (by rw [hz.out]), rfl⟩
  ·have h1 : 274877906944 < n := by omega
   clear h
   go_enter Tryz.func236, Tryz.ntmps236
   go_wp2
   go_ret
   exact ⟨znj (by rw [hz.out]), rfl⟩
theorem zru (k : Int) (w : World) : Calls Tryz.prog 239 #[.int .i64 k] w fun e w' => e = .returned (.int .i64 (Z.zag k)) /\ w = w' := by
 by_cases h : 0 <= k /\ k <= 549755813888
 ·have hz : Hid (Z.zag k = if k % 2 = 1 then -((k + 1) / 2) else k / 2) := Zh (by unfold Z.zag; rw [if_neg (by omega)])
  obtain ⟨h1, h2⟩ := h
  have d1 : ¬ k < 0 := by omega
  have d2 : decide (549755813888 < k) = false := by simp; omega
  by_cases h0 : k % 2 = 1
  ·have d3 : (k % 2 == 1) = true := by simpa using h0
   have H0 := Zh h0
   clear h0
   go_enter Tryz.func239, Tryz.ntmps239
   go_wp2
   go_ret
   exact ⟨znj (by rw [hz.out, if_pos H0.out, Int.tdiv_eq_ediv_of_nonneg (by omega)]; exact (IntWalk.wrap64_in _ ⟨by omega, by omega⟩)), rfl⟩
  ·have d3 : (k % 2 == 1) = false := by simpa using h0
   have H0 := Zh h0
   clear h0
   go_enter Tryz.func239, Tryz.ntmps239
   go_wp2
   go_ret
   exact ⟨znj (by rw [hz.out, if_neg H0.out]), rfl⟩
 ·have hz : Hid (Z.zag k = 0) := Zh (by unfold Z.zag; rw [if_pos (by omega)])
  by_cases h0 : k < 0
  ·clear h
   go_enter Tryz.func239, Tryz.ntmps239
   go_wp2
   go_ret
   exact ⟨znj (by rw [hz.out]), rfl⟩
  ·have h1 : 549755813888 < k := by omega
   clear h
   go_enter Tryz.func239, Tryz.ntmps239
   go_wp2
   go_ret
   exact ⟨znj (by rw [hz.out]), rfl⟩
theorem zo7 (n : Int) (w : World) (h : Z.isl n) : Calls Tryz.prog 191 #[.int .i64 n] w fun e w' => e = .returned (.bool true) /\ w = w' := by
 obtain ⟨h0, h1⟩ := h
 go_enter Tryz.func191, Tryz.ntmps191
 go_wp2
 go_ret
 exact ⟨rfl, rfl⟩
theorem zpp (n : Int) (w : World) (h : ¬ Z.isl n) : Calls Tryz.prog 191 #[.int .i64 n] w fun e w' => e = .returned (.bool false) /\ w = w' := by
 unfold Z.isl at h
 by_cases h0 : 0 <= n
 ·have h1 : decide (n < 274877906944) = false := by simp; omega
  clear h
  go_enter Tryz.func191, Tryz.ntmps191
  go_wp2
  go_ret
  exact ⟨rfl, rfl⟩
 ·have h1 : n < 0 := by omega
  clear h h0
  go_enter Tryz.func191, Tryz.ntmps191
  go_wp2
  go_ret
  exact ⟨rfl, rfl⟩
theorem zqw (n : Int) (w : World) : Calls Tryz.prog 191 #[.int .i64 n] w fun e w' => e = .returned (.bool (decide (Z.isl n))) /\ w = w' := by
 by_cases h : Z.isl n
 ·rw [decide_eq_true h]; exact zo7 n w h
 ·rw [decide_eq_false h]; exact zpp n w h
theorem zqa (w : World) : Calls Tryz.prog 190 #[] w fun e w' => e = .returned (.func (.func 235) #[] #[.pointer (some ⟨w.heap.size, 0, none⟩)]) /\ w' = w.alloc (.cells #[.int .i64 0] 3) := by
 go_enter Tryz.func190, Tryz.ntmps190
 go_wp2
 go_ret
 exact ⟨rfl, rfl⟩
theorem zsf (n p : Int) (B : Nat) (w : World) (hn : Z.isl n) (hp : Z.isl p) (hb : Blok w B 3 #[.int .i64 p]) :
  Calls Tryz.prog 235 #[.int .i64 n, .pointer (some ⟨B, 0, none⟩)] w fun e w' => e = .returned (.int .i64 (Z.zig (n - p))) /\ w' = w.setCell ⟨B, 0, none⟩ (.int .i64 n) := by
 obtain ⟨n0, n1⟩ := hn
 obtain ⟨p0, p1⟩ := hp
 have c0 := Zv hb 0 (.int .i64 p)
 have f0 : w.frozen? ⟨B, 0, none⟩ = false := hb.frozen 0
 go_enter Tryz.func235, Tryz.ntmps235
 go_wp2_with (go_at_call 236; refine (zp9 _ _).mono ?_; rintro e w' ⟨rfl, rfl⟩)
 go_ret
 exact ⟨rfl, rfl⟩
end Go.Proofs.YtijkbflimbffmaaGreat
