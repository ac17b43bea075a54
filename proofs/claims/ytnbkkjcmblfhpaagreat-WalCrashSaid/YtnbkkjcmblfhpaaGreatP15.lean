import Derived.RangeFuncBox
import Derived.RangeFuncNested
import Derived.RangeFuncBound
import Derived.RangeFuncCalls
import Derived.RangeFuncLeaves
import Derived.Shelf.Abstract
import Derived.Shelf.RegionOpen
import Derived.OwnWalkIn
import Derived.TacticsInMore
import Derived.LoopNIn
import Derived.LoopIn
import Derived.Test.YtnbkkjcmblfhpaaGreatP5
import Derived.Test.YtnbkkjcmblfhpaaGreatP7
import Derived.Test.YtnbkkjcmblfhpaaGreatP14
import Derived.Test.YtnbkkjcmblfhpaaGreatP0
import Derived.Test.YtnbkkjcmblfhpaaGreatP6
namespace Go.Proofs.YtnbkkjcmblfhpaaGreat
set_option maxHeartbeats 1000000
set_option maxRecDepth 100000
open Go.RowKit Go.Shelf
attribute [local go_sem] Oper.semAt_some
theorem Part.len {b l : List Int} {p : Nat} (h : Part b l p) : l.length <= p := by
 obtain ⟨h1, h2, h3⟩ := h
 have e : ∀ (l : List Int), (∀ n ∈ l, M.isn n) -> l.length <= (l.flatMap M.put).length := by
  intro l
  induction l with
  | nil => simp
  | cons n l ih =>
   intro h
   have := ih (fun x hx => h x (by simp [hx]))
   have := zok (h n (by simp))
   rw [List.flatMap_cons, List.length_append, List.length_cons]; omega
 have := e l h2
 rw [<- h3] at this
 simp at this; omega
theorem Part.over {b l : List Int} {p : Nat} (h : Part b l p) (hl : 400 < l.length) : M.read b = none :=
 read_none fun k hk => by
  obtain ⟨_, h2, h3⟩ := h
  obtain ⟨k1, k2, k3⟩ := znc.1 hk
  have e : l.flatMap M.put ++ b.drop p = k.flatMap M.put := by rw [<- h3, List.take_append_drop, k3]
  obtain ⟨t, rfl, _⟩ := znn l k _ h2 k2 e
  simp at k1; omega
def zp7 (xs : List (Int × Int)) : Int := xs.foldl (fun _ x => x.2) 0
theorem zo5 (xs : List (Int × Int)) (x : Int × Int) : zp7 (xs ++ [x]) = x.2 := by simp [zp7]
abbrev enc2 (x : Int × Int) : Array Value := #[.int .i64 x.1, .int .i64 x.2]
def Seen (L : List Int) (xs : List (Int × Int)) : Prop := ∃ p : Nat, Part L (xs.map Prod.fst) p /\ zp7 xs = p /\ M.head (L.drop p) = none
def ztm (L : List Int) (xs : List (Int × Int)) : Prop := ∃ p : Nat, Part L (xs.map Prod.fst) p
def Kp (H Bn : Nat) (W W' : World) : Prop := Below H W W' /\ W'.heap[Bn]? = W.heap[Bn]?
theorem Kp.t {H Bn : Nat} {A B C : World} (h : Kp H Bn A B) (k : Kp H Bn B C) : Kp H Bn A C := ⟨h.1.trans k.1, k.2.trans h.2⟩
theorem Kp.r (H Bn : Nat) (W : World) : Kp H Bn W W := ⟨Below.refl _ _, rfl⟩
def meas (len : Nat) (v : Value) : Nat := if intOf v < 0 then 0 else len + 1 - (intOf v).toNat
theorem zpd (len : Nat) (q : Int) : meas len (.int .i64 q) = if q < 0 then 0 else len + 1 - q.toNat := rfl
def Next (L : List Int) (p : Nat) (x y : Value) : Prop :=
 (∃ (n : Int) (e : Nat), M.head (L.drop p) = some (n, e) /\ x = .int .i64 n /\ y = .int .i64 ((p : Int) + e)) \/ (M.head (L.drop p) = none /\ x = .int .i64 0 /\ y = .int .i64 (-1))
theorem zrr (L : List Int) (p : Nat) : ∃ n q : Int, M.get L p = (n, q) /\ Next L p (.int .i64 n) (.int .i64 q) := by
 cases hh : M.head (L.drop p) with
 | none => exact ⟨0, -1, zum hh, .inr ⟨hh, rfl, rfl⟩⟩
 | some r => exact ⟨r.1, (p : Int) + r.2, zu4 hh, .inl ⟨r.1, r.2, hh, rfl, rfl⟩⟩
theorem zrs {L : List Int} {len p e : Nat} {l : List Int} {m : Int} {x y : Value} (hlen : L.length = len) (hby : ∀ c ∈ L, 0 <= c /\ c <= 255) (hP : Part L l p) (hh : M.head (L.drop p) = some (m, e)) (hN : Next L (p + e) x y) :
  meas len y < meas len (.int .i64 ((p : Int) + e)) := by
 obtain ⟨hp', he0, hpl, _⟩ := hP.step hby hh
 have hpe := hp'.1
 have e1 : meas len (.int .i64 ((p : Int) + e)) = len + 1 - (p + e) := by
  rw [zpd, if_neg (by omega)]
  omega
 rw [e1]
 rcases hN with ⟨m', e', hh', _, rfl⟩ | ⟨_, _, rfl⟩
 ·obtain ⟨hp2, he2, _, _⟩ := hp'.step hby hh'
  have := hp2.1
  rw [zpd, if_neg (by omega)]
  omega
 ·rw [zpd, if_pos (by omega)]
  omega
theorem zsc (n l Bn H : Nat) (hn : 3 <= n) (a : Option Addr) (len cap : Nat) (L : List Int) (hlen : L.length = len) (J Jx : List (Int × Int) -> World -> Prop)
  (hY : ∀ pre x W, J pre W -> pre.length < L.length + 1 -> YieldAt Fence.wide (n - 1) Tryz.prog l (enc2 x) W fun e W' =>
   (e = .returned (.bool true) /\ J (pre ++ [x]) W' /\ Kp H Bn W W') \/ (e = .returned (.bool false) /\ Jx (pre ++ [x]) W'))
  (W W0 : World) (hBn : Boxed W Bn 51 (.slice a len cap)) (hH : W0.heap.size <= H) (hW0 : Below H W0 W) (hL : zfv .u8 W0 a cap L) (h0 : J [] W) :
  CallsIn Fence.wide n Tryz.prog 291 #[.func (.yield l) #[] #[], .pointer (some ⟨Bn, 0, none⟩)] W fun e W' => (∃ v, e = .returned v) /\
   ((∃ ys, Seen L ys /\ J ys W') \/ (∃ pre, ztm L pre /\ Jx pre W')) := by
 have hf21 : Fence.wide.fn 291 := trivial
 have hf10 : Fence.wide.fn 184 := trivial
 have hro : Fence.wide.round = none := rfl
 have hby := Zh (zo9 hL.2.1)
 have HL := Zh hL
 have HE := Zh hlen
 have HW0 := Zh hW0
 clear hL hlen hW0
 have hcell := hBn.cell
 have hRW : Hid (zfv .u8 W a cap L) := Zh (HL.out.belowN hH HW0.out)
 obtain ⟨x0, q0, hg0, hn0⟩ := zrr L 0
 have HG0 : Hid (M.get L 0 = (x0, q0)) := Zh hg0
 clear hg0
 have h1 : 1 <= n := by omega
 have h2 : 1 <= n - 1 := by omega
 refine callsIn_of_wp Tryz.func291 rfl hf21 ?_ hro
 simp only [Tryz.ntmps291, List.size_toArray, List.length_cons, List.length_nil, Nat.reduceAdd, Nat.reduceSub, Array.replicate_succ, Array.replicate_zero, List.push_toArray, List.append_toArray, List.nil_append, List.cons_append]
 gi_wp2_with (gi_at_call 184; refine (callsIn_wide.2 (zn5 HG0.out (zol a len cap _ L _ HE.out hRW.out))).mono ?_; rintro e w' ⟨rfl, rfl⟩)
 gi_loopw [3, 4] (fun x y wr => ∃ (pre : List (Int × Int)) (p : Nat), Hid (Part L (pre.map Prod.fst) p) /\ Hid (zp7 pre = p) /\ J pre wr /\ Kp H Bn W wr /\ Next L p x y) (fun _ y _ => meas len y)
 case atStart =>
  exact ⟨[], 0, Zh (Part.start _), Zh rfl, h0, Kp.r _ _ _, hn0⟩
 case round =>
  obtain ⟨pre, p, HP, HE2, hJ, hK, hN⟩ := hrel
  have hcw : wr.cell? ⟨Bn, 0, none⟩ = some (.slice a len cap) := (World.cell?_of_block (w := W) (a := ⟨Bn, 0, none⟩) hK.2).trans hcell
  rcases hN with ⟨m, e, hh, rfl, rfl⟩ | ⟨hh, rfl, rfl⟩
  ·obtain ⟨hp', he0, hpl, hm⟩ := HP.out.step hby.out hh
   have HS := Zh hp'
   have HH := Zh hh
   obtain ⟨fn, tmps, assign, body, hy, hR⟩ := hY pre (m, (p : Int) + e) wr hJ (by have := HP.out.len; simp at this; omega)
   dsimp only [enc2] at hy
   have hge : ¬ ((p : Int) + e < 0) := by omega
   have hge2 : decide (0 <= (p : Int) + e) = true := by simp; omega
   obtain ⟨x1, q1, hg1, hn1⟩ := zrr L (p + e)
   have HG1 : Hid (M.get L ((p : Int) + e) = (x1, q1)) := Zh (by simpa using hg1)
   clear hp' hh hpl hg1
   gi_wp2
   refine hR.mono ?_
   rintro e3 W3 (⟨rfl, hJ3, hk3⟩ | ⟨rfl, hx3⟩)
   ·have hc3 : W3.cell? ⟨Bn, 0, none⟩ = some (.slice a len cap) := (World.cell?_of_block (w := wr) (a := ⟨Bn, 0, none⟩) hk3.2).trans hcw
    have hR3 : Hid (zfv .u8 W3 a cap L) := Zh (HL.out.belowN hH ((HW0.out.trans hK.1).trans hk3.1))
    gi_wp2_with (gi_at_call 184; refine (callsIn_wide.2 (zn5 HG1.out (zol a len cap _ L _ HE.out hR3.out))).mono ?_; rintro e w' ⟨rfl, rfl⟩)
    go_roundw
    case rel => exact ⟨pre ++ [(m, (p : Int) + e)], p + e, Zh (by simpa using HS.out), Zh (by rw [zo5]; simp), hJ3, hK.t hk3, hn1⟩
    case measure => exact zrs HE.out hby.out HP.out HH.out hn1
   ·gi_wp2
    go_end0
    exact ⟨⟨_, rfl⟩, .inr ⟨pre ++ [(m, (p : Int) + e)], ⟨p + e, by simpa using HS.out⟩, hx3⟩⟩
  ·have HH := Zh hh
   clear hh
   gi_wp2
   refine ⟨fun _ h => (by cases h), ?_⟩
   gi_wp2
   go_end0
   exact ⟨⟨_, rfl⟩, .inl ⟨pre, ⟨p, HP.out, HE2.out, HH.out⟩, hJ⟩⟩
end Go.Proofs.YtnbkkjcmblfhpaaGreat
namespace Go.Proofs.YtnbkkjcmblfhpaaGreat
set_option maxHeartbeats 2000000
set_option maxRecDepth 100000
open Go.RowKit Go.Shelf
attribute [local go_sem] Oper.semAt_some
theorem zqt (n : Nat) (a : Option Addr) (len cap : Nat) (w : World) :
  CallsIn Fence.wide n Tryz.prog 248 #[.slice a len cap] w fun e w' => e = .returned (.func (.func 291) #[] #[.pointer (some ⟨w.heap.size, 0, none⟩)]) /\ w' = w.alloc (.cells #[.slice a len cap] 51) := by
 have hf20 : Fence.wide.fn 248 := trivial
 refine callsIn_of_wp Tryz.func248 rfl hf20 ?_ rfl
 simp only [Tryz.ntmps248, List.size_toArray, List.length_cons, List.length_nil, Nat.reduceAdd, Nat.reduceSub, Array.replicate_succ, Array.replicate_zero, List.push_toArray, List.append_toArray, List.nil_append, List.cons_append]
 gi_wp2
 go_ret
 exact ⟨rfl, rfl⟩
theorem zqu (n H Bn : Nat) (hn : 3 <= n) (a : Option Addr) (len cap : Nat) (L : List Int) (hlen : L.length = len) (W0 w : World) (hBn : Boxed w Bn 51 (.slice a len cap)) (hH : W0.heap.size <= H) (hHw : H <= w.heap.size) (hW0 : Below H W0 w) (hL : zfv .u8 W0 a cap L) :
  SeqStopsK Fence.wide n Tryz.prog 291 #[.pointer (some ⟨Bn, 0, none⟩)] enc2 (Kp H Bn) (Seen L) (ztm L) (L.length + 1) w := fun l J Jx W hW _ _ hY h0 =>
 zsc n l Bn H hn a len cap L hlen J Jx hY W W0 ((hW.block Bn hBn.lt).trans hBn) hH (hW0.trans (hW.mono hHw)) hL h0
def Inv (w0 : World) (H : Nat) (sl : Value) (pre : List (Int × Int)) (W : World) : Prop :=
 ((∃ v, Boxed W (H + 2) 74 v /\ W.ownsRow (H + 5) 3 1 v pre.length ((pre.map Prod.fst).map (Value.int .i64)) /\ True) /\ Boxed W (H + 3) 3 (.int .i64 (zp7 pre)) /\ Boxed W (H + 4) 51 sl /\ Boxed W H 74 (.slice none 0 0) /\ Boxed W (H + 1) 4 (.bool false)) /\ pre.length <= 400 /\ Below H w0 W
theorem zs4 (w0 : World) (H B : Nat) (sl : Value) (hH : H <= w0.heap.size) (hB : H <= B) : OwnFrom B (Inv w0 H sl) :=
 OwnFrom.and (OwnFrom.and (Own.from (holdsRow_own (H + 5) (H + 2) 74 3 1 (fun pre : List (Int × Int) => pre.length) (fun pre => (pre.map Prod.fst).map (Value.int .i64)) (fun _ _ => True)) _)
  (OwnFrom.and (Own.from (boxed_own (H + 3) 3 (fun pre : List (Int × Int) => Value.int .i64 (zp7 pre))) _) (OwnFrom.and (Own.from (boxed_own (H + 4) 51 (fun _ => sl)) _)
   (OwnFrom.and (Own.from (boxed_own H 74 (fun _ => .slice none 0 0)) _) (Own.from (boxed_own (H + 1) 4 (fun _ => .bool false)) _)))))
  (OwnFrom.and (ownFrom_pure B (fun pre : List (Int × Int) => pre.length <= 400)) (ownFrom_below hH hB))
theorem znh {W w1 : World} {H k B : Nat} {v : Value} {xs : List Value} {tmp : Obj} {t : TypeId} {u : Value} (hrow : W.ownsRow (H + 5) 3 1 v k xs) (hgrow : (W.alloc tmp).grownBy w1 v.ownBlock) (hb : Boxed W B t u) (hB : B < H + 5) : Boxed w1 B t u :=
 (hb.alloc tmp).kept hgrow (fun e => by have := (hrow.lt _ e.symm).1; omega)
theorem zsd {w0 W w1 : World} {H : Nat} {sl v v' : Value} {pre : List (Int × Int)} {x : Int × Int} {tmp : Obj} (hv : Boxed W (H + 2) 74 v) (hrow : W.ownsRow (H + 5) 3 1 v pre.length ((pre.map Prod.fst).map (Value.int .i64)))
  (b3 : Boxed W (H + 3) 3 (.int .i64 (zp7 pre))) (b4 : Boxed W (H + 4) 51 sl) (b0 : Boxed W H 74 (.slice none 0 0)) (b1 : Boxed W (H + 1) 4 (.bool false)) (hl : pre.length < 400) (hB : Below H w0 W)
  (hown' : w1.ownsRow (H + 5) 3 1 v' (pre.length + 1) ((pre.map Prod.fst).map (Value.int .i64) ++ [.int .i64 x.1])) (hgrow : (W.alloc tmp).grownBy w1 v.ownBlock) :
  KeepsOthers W ((w1.setCell ⟨H + 2, 0, none⟩ v').setCell ⟨H + 3, 0, none⟩ (.int .i64 x.2)) /\ Kp H (H + 4) W ((w1.setCell ⟨H + 2, 0, none⟩ v').setCell ⟨H + 3, 0, none⟩ (.int .i64 x.2)) /\
   Inv w0 H sl (pre ++ [x]) ((w1.setCell ⟨H + 2, 0, none⟩ v').setCell ⟨H + 3, 0, none⟩ (.int .i64 x.2)) := by
 have x0 := znh hrow hgrow b0 (by omega)
 have x1 := znh hrow hgrow b1 (by omega)
 have x2 := znh hrow hgrow hv (by omega)
 have x3 := znh hrow hgrow b3 (by omega)
 have x4 := znh hrow hgrow b4 (by omega)
 have hws := b4.lt
 have hbel : Below H W ((w1.setCell ⟨H + 2, 0, none⟩ v').setCell ⟨H + 3, 0, none⟩ (.int .i64 x.2)) :=
  (((Below.refl H W).alloc (by omega) tmp).grown hgrow (by simp; omega) (fun k e => by have := (hrow.lt _ e).1; omega)).setCell (p := ⟨H + 2, 0, none⟩) (by simp) v' |>.setCell (p := ⟨H + 3, 0, none⟩) (by simp) _
 have z4 := (x4.other (B' := H + 2) (by omega) v').other (B' := H + 3) (by omega) (.int .i64 x.2)
 refine ⟨?_, ⟨hbel, ?_⟩, ⟨⟨v', (x2.set v').other (by omega) _, ?_, trivial⟩, ?_, z4, (x0.other (by omega) _).other (by omega) _, (x1.other (by omega) _).other (by omega) _⟩, by simp; omega, hB.trans hbel⟩
 ·refine (((KeepsOthers.alloc W tmp).trans (KeepsOthers.of_grownBy hgrow fun j o ej hj => ?_)).trans (KeepsOthers.setCell _ _ _)).trans (KeepsOthers.setCell _ _ _)
  rcases (hrow.alloc tmp).2 with ⟨rfl, _⟩ | ⟨g, cap, cur, rfl, _, hgb, _⟩
  ·simp [Value.ownBlock] at ej
  ·obtain rfl : g = j := by simpa [Value.ownBlock] using ej
   rw [hgb] at hj; cases hj; rfl
 ·exact (show _ = _ from z4).trans (show _ = _ from b4).symm
 ·have r1 := (hown'.kept (grownBy_setCell' w1 (H + 2) v') (.inr (by intro e; have := (hown'.lt _ e).1; omega))).kept (grownBy_setCell' _ (H + 3) (.int .i64 x.2)) (.inr (by intro e; have := (hown'.lt _ e).1; omega))
  simpa using r1
 ·rw [zo5]
  exact (x3.other (B' := H + 2) (by omega) v').set _
theorem zs5 (n : Nat) (hn : 5 <= n) (a : Option Addr) (len cap : Nat) (L : List Int) (w : World) (hlen : L.length = len) (h : zfv .u8 w a cap L) :
  CallsIn Fence.wide n Tryz.prog 186 #[.slice a len cap] w (zo1 L w.heap.size w) := by
 have h1 : 1 <= n := by omega
 have hro : Fence.wide.round = none := rfl
 have hf14 : Fence.wide.fn 186 := trivial
 have hf20 : Fence.wide.fn 248 := trivial
 have hf21 : Fence.wide.fn 291 := trivial
 obtain ⟨i0, hi, hz0, hz1, hz2⟩ := info_parts zl3
 have HL := Zh h
 have HE := Zh hlen
 clear h hlen
 refine callsIn_of_wp_marks Tryz.func186 rfl hf14 ?_ hro
 simp only [Tryz.ntmps186, List.size_toArray, List.length_cons, List.length_nil, Nat.reduceAdd, Nat.reduceSub, Array.replicate_succ, Array.replicate_zero, List.push_toArray, List.append_toArray, List.nil_append, List.cons_append]
 gi_wp2_with (gi_at_call 248; refine (zqt (n - 1) a len cap _).mono ?_; rintro e w' ⟨rfl, rfl⟩)
 obtain ⟨w5, hw5⟩ : ∃ w5, (((((w.alloc (.cells #[.slice none 0 0] 74)).alloc (.cells #[.bool false] 4)).alloc (.cells #[.slice none 0 0] 74)).alloc (.cells #[.int .i64 0] 3)).alloc (.cells #[.slice a len cap] 51)) = w5 := ⟨_, rfl⟩
 have hb : Below w.heap.size w w5 := by rw [<- hw5]; exact (((((Below.refl _ w).alloc (Nat.le_refl _) _).alloc (by simp) _).alloc (by simp; omega) _).alloc (by simp; omega) _).alloc (by simp; omega) _
 have hsz : w5.heap.size = w.heap.size + 5 := by rw [<- hw5]; simp
 have b0 : Boxed w5 w.heap.size 74 (.slice none 0 0) := by rw [<- hw5]; exact ((((Boxed.new w 74 _).alloc _).alloc _).alloc _).alloc _
 have b1 : Boxed w5 (w.heap.size + 1) 4 (.bool false) := by
  rw [<- hw5]; have := (((Boxed.new (w.alloc (.cells #[.slice none 0 0] 74)) 4 (.bool false)).alloc (.cells #[.slice none 0 0] 74)).alloc (.cells #[.int .i64 0] 3)).alloc (.cells #[.slice a len cap] 51)
  rwa [World.size_alloc] at this
 have b2 : Boxed w5 (w.heap.size + 2) 74 (.slice none 0 0) := by
  rw [<- hw5]; have := ((Boxed.new ((w.alloc (.cells #[.slice none 0 0] 74)).alloc (.cells #[.bool false] 4)) 74 (.slice none 0 0)).alloc (.cells #[.int .i64 0] 3)).alloc (.cells #[.slice a len cap] 51)
  simpa [World.size_alloc] using this
 have b3 : Boxed w5 (w.heap.size + 3) 3 (.int .i64 0) := by
  rw [<- hw5]; have := (Boxed.new (((w.alloc (.cells #[.slice none 0 0] 74)).alloc (.cells #[.bool false] 4)).alloc (.cells #[.slice none 0 0] 74)) 3 (.int .i64 0)).alloc (.cells #[.slice a len cap] 51)
  simpa [World.size_alloc] using this
 have b4 : Boxed w5 (w.heap.size + 4) 51 (.slice a len cap) := by
  rw [<- hw5]; have := Boxed.new ((((w.alloc (.cells #[.slice none 0 0] 74)).alloc (.cells #[.bool false] 4)).alloc (.cells #[.slice none 0 0] 74)).alloc (.cells #[.int .i64 0] 3)) 51 (.slice a len cap)
  simpa [World.size_alloc] using this
 rw [hw5]
 clear hw5
 refine wpIn_rangeFunc_ownG hro h1 (gf := 291) (lb := #[.pointer (some ⟨w.heap.size + 4, 0, none⟩)]) rfl hf21 (enters_of Tryz.func291 (by kernel_rfl) rfl)
  (zqu (n - 1) w.heap.size (w.heap.size + 4) (by omega) a len cap L HE.out w w5 b4 (Nat.le_refl _) hb.size hb HL.out) Kp.t (fun W l o o' hl hW hc _ => ⟨(Below.refl _ W).grown (grownBy_putObj' W l o') (by have := (Array.getElem?_eq_some_iff.1 hW).1; omega) (fun k e => by cases e; omega), (grownBy_putObj' W l o').block _ (by have := (Array.getElem?_eq_some_iff.1 hW).1; omega) (fun e => by cases e; omega)⟩) (Below.refl _ _) (fun _ => rfl)
  (Inv w w.heap.size (.slice a len cap))
  (fun c pre W => c = .ret /\ 400 < pre.length /\ Boxed W w.heap.size 74 (.slice none 0 0) /\ Boxed W (w.heap.size + 1) 4 (.bool false) /\ Below w.heap.size w W)
  (zs4 _ _ _ _ (Nat.le_refl _) (by omega))
  (fun c => OwnFrom.and (ownFrom_pure _ _) (OwnFrom.and (ownFrom_pure _ _) (OwnFrom.and (Own.from (boxed_own _ _ (fun _ => .slice none 0 0)) _) (OwnFrom.and (Own.from (boxed_own _ _ (fun _ => .bool false)) _) (ownFrom_below (Nat.le_refl _) (by omega))))))
  ⟨⟨⟨_, b2, World.ownsRow_nil _ _ _ _, trivial⟩, b3, b4, b0, b1⟩, by simp, hb⟩
  (fun x => { tmps := #[.slice a len cap, undef, .pointer (some ⟨w.heap.size, 0, none⟩), .pointer (some ⟨w.heap.size + 1, 0, none⟩), .pointer (some ⟨w.heap.size + 1 + 1, 0, none⟩), .pointer (some ⟨w.heap.size + 1 + 1 + 1, 0, none⟩), .int .i64 x.1, .int .i64 x.2, .slice a len cap, .func (.func 291) #[] #[.pointer (some ⟨w.heap.size + 1 + 1 + 1 + 1, 0, none⟩)], .int .i64 x.1, .int .i64 x.2, undef, undef, undef, undef, undef, undef, undef, undef, undef, undef, undef, undef, undef], defers := [] }) ?assign ?body ?done ?stop
 case assign =>
  intro l x W K hK
  gi_wp2
  exact hK
 case body =>
  rintro l pre x W ⟨⟨⟨v, hv, hrow, -⟩, b3, b4, b0, b1⟩, h400, hB⟩ hlt
  have c2 : W.cell? ⟨w.heap.size + 1 + 1, 0, none⟩ = some v := hv.cell
  have c0 := b0.cell
  have c1 := b1.cell
  have f0 := b0.frozen
  have f1 := b1.frozen
  have hws := b4.lt
  obtain ⟨a1, cap1, rfl⟩ := zm9 hrow
  have HV := Zh hv
  have HBo := Zh (And.intro b0 b1)
  have HB4 := Zh (And.intro b3 b4)
  clear hv b0 b1 b3 b4
  by_cases h4 : pre.length = 400
  ·have ht : ((pre.length : Int) == 400) = true := by simp; omega
   have H4 := Zh h4
   clear h4
   gi_wp2
   refine ⟨((KeepsOthers.setCell _ _ _).trans (KeepsOthers.setCell _ _ _)).from _, rfl, by simp [H4.out], (HBo.out.1.set _).other (by omega) _, (HBo.out.2.other (by omega) _).set _, (hB.setCell (p := ⟨w.heap.size, 0, none⟩) (Nat.le_refl _) _).setCell (p := ⟨w.heap.size + 1, 0, none⟩) (by simp) _⟩
  ·have ht : ((pre.length : Int) == 400) = false := by simp; omega
   have h4' : pre.length < 400 := by omega
   clear h4
   gi_wp2_with (gi_at_builtin; refine wpListIn_append_own _ rfl _ _ 74 rfl (w.heap.size + 5) 3 i0 (.int .i64 0) 1 8 Tryz.underlying74 hi hz0 hz1 hz2 rfl (by decide) _ _ _ rfl (hrow.alloc _) ⟨W.heap.size, 0, none⟩ 1 1 [.int .i64 x.1] rfl rfl (cell_one_new _ _ _) (by simp [Value.oneCell']) (by unfold maxLen; omega) (by omega) (by simp; omega) ?_; intro v' w1 hown' hgrow _; obtain ⟨g', cap', rfl⟩ := ownsRow_succ hown'; have x2 := znh hrow hgrow HV.out (by omega); have x3 := znh hrow hgrow HB4.out.1 (by omega); have d2 : w1.cell? ⟨w.heap.size + 1 + 1, 0, none⟩ = some _ := x2.cell; have d3 : w1.cell? ⟨w.heap.size + 1 + 1 + 1, 0, none⟩ = some _ := x3.cell; have f2 : w1.frozen? ⟨w.heap.size + 1 + 1, 0, none⟩ = false := x2.frozen; have f3 : w1.frozen? ⟨w.heap.size + 1 + 1 + 1, 0, none⟩ = false := x3.frozen; clear x2 x3)
   have hE := zsd (x := x) HV.out hrow HB4.out.1 HB4.out.2 HBo.out.1 HBo.out.2 h4' hB hown' hgrow
   exact ⟨hE.1.from _, hE.2.1, hE.2.2⟩
 case done =>
  rintro D ys W hD ⟨p, hP, hE, hnone⟩ ⟨⟨⟨v, hv, hrow, -⟩, b3, b4, b0, b1⟩, h400, hB⟩ hK
  have c3 : W.cell? ⟨w.heap.size + 1 + 1 + 1, 0, none⟩ = some (.int .i64 (p : Int)) := by rw [<- hE]; exact b3.cell
  have c2 : W.cell? ⟨w.heap.size + 1 + 1, 0, none⟩ = some v := hv.cell
  have c0 := b0.cell
  have c1 := b1.cell
  have f0 := b0.frozen
  have f1 := b1.frozen
  have HV := Zh hv
  have HRo := Zh hrow
  have HBo := Zh (And.intro b0 b1)
  have HP := Zh hP
  have HNo := Zh hnone
  have hpl := hP.1
  rw [HE.out] at hpl
  clear hv hrow b0 b1 b3 b4 hP hnone hE
  by_cases hlt : p < len
  ·have HN := Zh (HP.out.fail (by rw [HE.out]; exact hlt) HNo.out)
   gi_wp2
   have b0' := (HBo.out.1.set (.slice none 0 0)).other (B' := w.heap.size + 1) (by omega) (.bool false)
   have b1' := (HBo.out.2.other (B' := w.heap.size) (by omega) (.slice none 0 0)).set (.bool false)
   have hK' := ((KeepsOthers.setCell W ⟨w.heap.size, 0, none⟩ (.slice none 0 0)).trans (KeepsOthers.setCell _ ⟨w.heap.size + 1, 0, none⟩ (.bool false))).same D _ hK rfl
   refine ⟨by simp, .inl ⟨_, _, rfl, run_takeDeferred hK', ?_⟩⟩
   have d0 := (cell_kept b0'.cell (grownBy_putObj' _ D (.deferred none)) (fun r e => by cases e; exact ⟨_, hK', rfl⟩))
   have d1 := (cell_kept b1'.cell (grownBy_putObj' _ D (.deferred none)) (fun r e => by cases e; exact ⟨_, hK', rfl⟩))
   refine ⟨.tuple #[.slice none 0 0, .bool false], ?_, ?_⟩
   ·simp [results, Tryz.f186, go_sem, d0, d1]
   ·exact .no HN.out (((hB.setCell (p := ⟨w.heap.size, 0, none⟩) (Nat.le_refl _) _).setCell (p := ⟨w.heap.size + 1, 0, none⟩) (by simp) _).trans (belowK_b (w := w) (Nat.le_refl _) _ D _ _ (by omega) hK' rfl rfl))
  ·have HN := Zh (HP.out.done (by rw [HE.out]; omega) (by simpa using h400))
   have hd : decide (p < len) = false := by simp; omega
   obtain ⟨a1, cap1, rfl⟩ := zm9 HRo.out
   gi_wp2
   have b0' := (HBo.out.1.set (.slice a1 ys.length cap1)).other (B' := w.heap.size + 1) (by omega) (.bool true)
   have b1' := (HBo.out.2.other (B' := w.heap.size) (by omega) (.slice a1 ys.length cap1)).set (.bool true)
   have hK' := ((KeepsOthers.setCell W ⟨w.heap.size, 0, none⟩ (.slice a1 ys.length cap1)).trans (KeepsOthers.setCell _ ⟨w.heap.size + 1, 0, none⟩ (.bool true))).same D _ hK rfl
   refine ⟨by simp, .inl ⟨_, _, rfl, run_takeDeferred hK', ?_⟩⟩
   have d0 := (cell_kept b0'.cell (grownBy_putObj' _ D (.deferred none)) (fun r e => by cases e; exact ⟨_, hK', rfl⟩))
   have d1 := (cell_kept b1'.cell (grownBy_putObj' _ D (.deferred none)) (fun r e => by cases e; exact ⟨_, hK', rfl⟩))
   refine ⟨.tuple #[.slice a1 ys.length cap1, .bool true], ?_, ?_⟩
   ·simp [results, Tryz.f186, go_sem, d0, d1]
   ·refine .yes HN.out ?_ (((hB.setCell (p := ⟨w.heap.size, 0, none⟩) (Nat.le_refl _) _).setCell (p := ⟨w.heap.size + 1, 0, none⟩) (by simp) _).trans (belowK_b (w := w) (Nat.le_refl _) _ D _ _ (by omega) hK' rfl rfl))
    have r1 := (HRo.out.kept (grownBy_setCell' W w.heap.size (.slice a1 ys.length cap1)) (.inr (by intro e; have := (HRo.out.lt _ e).1; omega))).kept (grownBy_setCell' _ (w.heap.size + 1) (.bool true)) (.inr (by intro e; have := (HRo.out.lt _ e).1; omega))
    have r2 := ownsRow_putObj r1 (.deferred none) hK' rfl
    exact zan (by simpa using r2) (by omega)
 case stop =>
  rintro D c pre W hD ⟨p, hP⟩ ⟨rfl, h400, b0, b1, hB⟩ hK
  have HN := Zh (hP.over (by simpa using h400))
  gi_wp2
  refine ⟨by simp, .inl ⟨_, _, rfl, run_takeDeferred hK, ?_⟩⟩
  have c0 := (cell_kept b0.cell (grownBy_putObj' _ D (.deferred none)) (fun r e => by cases e; exact ⟨_, hK, rfl⟩))
  have c1 := (cell_kept b1.cell (grownBy_putObj' _ D (.deferred none)) (fun r e => by cases e; exact ⟨_, hK, rfl⟩))
  refine ⟨.tuple #[.slice none 0 0, .bool false], ?_, ?_⟩
  ·simp [results, Tryz.f186, go_sem, c0, c1]
  ·exact .no HN.out (hB.trans (belowK_b (w := w) (Nat.le_refl _) W D _ _ (by omega) hK rfl rfl))
theorem zql (a : Option Addr) (len cap : Nat) (L : List Int) (w : World) (hl : L.length = len) (h : zfv .u8 w a cap L) :
  Calls Tryz.prog 186 #[.slice a len cap] w (zo1 L w.heap.size w) := (callsIn_wide (n := 5)).1 (zs5 5 (by omega) a len cap L w hl h)
theorem zom (a : Option Addr) (len cap : Nat) (L : List Int) (w : World) (hl : L.length = len) (h : zfv .u8 w a cap L) : Calls Tryz.prog 186 #[.slice a len cap] w fun e w' =>
  ∃ a' cap' n', e = .returned (.tuple #[.slice a' n' cap', .bool (M.read L).isSome]) /\ Hid (((M.read L).getD []).length = n') /\ Hid (zfv .i64 w' a' cap' ((M.read L).getD [])) /\ Below w.heap.size w w' :=
 (zql a len cap L w hl h).mono fun e w' ⟨v, ok, he, hok, ho, hb⟩ => by
  obtain ⟨a', cap', rfl, _, hr⟩ := zex ho (zsu L)
  exact ⟨a', cap', _, by rw [he, hok], rfl, hr, hb⟩
end Go.Proofs.YtnbkkjcmblfhpaaGreat
namespace Go.Proofs.YtnbkkjcmblfhpaaGreat
set_option maxRecDepth 100000
open Go.RowKit
namespace J
theorem rd_pl {wa w3 : World} {b H nn cn : Nat} {s : Y.St} {A : Y.A9} {an : Option Addr} {N : List Int} (h : Rd wa b H s A an nn cn N) (x : O.Pl) {a3 : Option Addr} {c3 : Nat} (hown : w3.ownsRow H 170 3 (.slice a3 (A.np + 1) c3) (A.np + 1) (O.flat s.ps ++ O.cells x)) (hg : wa.grownBy w3 (Value.slice A.ap A.np A.cp).ownBlock) (hH : H <= wa.heap.size) :
  Rd (w3.setCell ⟨b, 13, none⟩ (.slice a3 (A.np + 1) c3)) b H { s with ps := s.ps ++ [x] } { A with ap := a3, np := A.np + 1, cp := c3 } an nn cn N /\ Far b H wa (w3.setCell ⟨b, 13, none⟩ (.slice a3 (A.np + 1) c3)) /\ w3.cell? ⟨b, 13, none⟩ = some (.slice A.ap A.np A.cp) /\ w3.frozen? ⟨b, 13, none⟩ = false := by
 have gst := zf6 w3 b 13 (.slice a3 (A.np + 1) c3)
 have hb := h.b
 have hne : some b ≠ (Value.slice A.ap A.np A.cp).ownBlock := fun e => by have := (h.o.rp.lt b e.symm).1; omega
 have k3 := h.k.grown hg hne
 have hf : O.flat s.ps ++ O.cells x = O.flat (s.ps ++ [x]) := by simp [O.flat]
 rw [hf] at hown
 refine ⟨⟨?_, ⟨hown.kept gst (.inr fun e => by have := (hown.lt b e).1; omega), (h.o.rl.kept hg (apart h.o.rl h.o.rp (by decide))).kept gst (.inr fun e => by have := (h.o.rl.lt b e).1; omega), (h.o.rh.kept hg (apart h.o.rh h.o.rp (by decide))).kept gst (.inr fun e => by have := (h.o.rh.lt b e).1; omega), by show (s.ps ++ [x]).length = _; rw [List.length_append, h.o.np]; rfl, h.o.nl, h.o.nh⟩, (h.n.kept hg (apart h.n h.o.rp (by decide))).kept gst (.inr fun e => by have := (h.n.lt b e).1; omega), hb⟩, (Far.of_grown hg hH (fun r e => ⟨.inl (h.o.rp.lt r e).1, fun o ho => row_cells h.o.rp e ho⟩)).trans (Far.of_grown gst (Nat.le_trans hH hg.size) (fun r e => by cases e; exact ⟨.inr rfl, fun o ho => by rw [show w3.heap[b]? = _ from k3] at ho; cases ho; rfl⟩)), k3.cell 13, k3.frozen 13⟩
 have := k3.set 13 (.slice a3 (A.np + 1) c3)
 simpa [Y.cs] using this
def nth (N : List Int) (i : Nat) : Int := N.getD i 0
def s00 : Y.St := ⟨⟨0, 0, 0, 0, 0, 0, 0, 0⟩, ⟨0, 0, 0, false⟩, 0, [], [], []⟩
def plsOf : List Int -> List O.Pl
 | f :: n :: s :: r => ⟨f, n, s⟩ :: plsOf r
 | _ => []
theorem plsOf_plN : ∀ l : List O.Pl, plsOf (plN l) = l
 | [] => rfl
 | x :: l => by
  have := plsOf_plN l
  show plsOf (x.f :: x.n :: x.s :: plN l) = x :: l
  rw [plsOf, this]
theorem plsOf_len : ∀ (k : Nat) (r : List Int), r.length = 3 * k -> (plsOf r).length = k
 | 0, [], _ => rfl
 | k + 1, f :: n :: s :: r, h => by
  have := plsOf_len k r (by simp only [List.length_cons] at h; omega)
  rw [plsOf, List.length_cons, this]
 | 0, _ :: _, h => by simp at h
 | k + 1, [], h => by simp at h
 | k + 1, [_], h => by simp at h; omega
 | k + 1, [_, _], h => by simp at h; omega
theorem plsOf_at : ∀ (k : Nat) (r : List Int), 3 * k + 3 <= r.length -> (plsOf r)[k]? = some ⟨r.getD (3 * k) 0, r.getD (3 * k + 1) 0, r.getD (3 * k + 2) 0⟩
 | 0, f :: n :: s :: r, _ => rfl
 | k + 1, f :: n :: s :: r, h => by
  have := plsOf_at k r (by simp only [List.length_cons] at h; omega)
  rw [plsOf, List.getElem?_cons_succ, this, show 3 * (k + 1) = 3 * k + 3 by omega]
  rfl
 | _, [], h => by simp at h
 | _, [_], h => by simp at h
 | _, [_, _], h => by simp at h
def stN (N : List Int) : Y.St := ⟨⟨J.nth N 0, J.nth N 1, J.nth N 2, J.nth N 3, J.nth N 4, J.nth N 5, J.nth N 6, J.nth N 7⟩, ⟨J.nth N 8, J.nth N 9, J.nth N 10, J.nth N 11 == 1⟩, J.nth N 12, plsOf (N.drop 15), [], []⟩
theorem stN_nums (s : Y.St) : stN (nums s) = { s with l := [], h := [] } := by
 obtain ⟨⟨d0, d1, d2, d3, d4, d5, d6, d7⟩, ⟨p0, p1, p2, p3⟩, now, ps, l, h⟩ := s
 unfold stN nums nums15 nth
 simp only [List.cons_append, List.nil_append, List.getD_cons_zero, List.getD_cons_succ, List.drop_succ_cons, List.drop_zero, plsOf_plN]
 cases p3 <;> rfl
theorem row_get {w : World} {H g nn cn i : Nat} {N : List Int} (h : w.ownsRow H 3 1 (.slice (some ⟨g, 0, none⟩) nn cn) nn (N.map (Value.int .i64))) (hi : i < nn) : w.cell? ⟨g, i, none⟩ = some (.int .i64 (nth N i)) := by
 have hl : N.length = nn := by have := h.1; simpa using this
 rw [h.cellAt i (by omega)]
 simp [nth, show i < N.length by omega]
theorem rd_new {w W : World} {b H nn cn : Nat} {s s' : Y.St} {A : Y.A9} {an : Option Addr} {N : List Int} (h : Rd w b H s A an nn cn N) (hg : w.grownBy W (some b)) (hH : H <= w.heap.size) (hk : Blok W b 153 (Y.cs s' A ++ [Value.slice an nn cn]).toArray) (hl : s'.ps = s.ps /\ s'.l = s.l /\ s'.h = s.h) : Rd W b H s' A an nn cn N /\ Far b H w W := by
 have hb := h.b
 have far := Far.of_grown hg hH (fun r e => by cases e; exact ⟨.inr rfl, fun o ho => by rw [show w.heap[b]? = _ from h.k] at ho; cases ho; rfl⟩)
 have o := h.o.far hg hb
 obtain ⟨h1, h2, h3⟩ := hl
 exact ⟨⟨hk, ⟨by rw [h1]; exact o.rp, by rw [h2]; exact o.rl, by rw [h3]; exact o.rh, by rw [h1]; exact o.np, by rw [h2]; exact o.nl, by rw [h3]; exact o.nh⟩, h.n.kept hg (.inr fun e => by have := (h.n.lt b e).1; omega), hb⟩, far⟩
theorem rd_num {w : World} {b H nn cn n2 c2 : Nat} {s : Y.St} {A : Y.A9} {an a2 : Option Addr} {N N2 : List Int} (h : Rd w b H s A an nn cn N) (hH : H <= w.heap.size) (hn : w.ownsRow H 3 1 (.slice a2 n2 c2) n2 (N2.map (Value.int .i64))) : Rd (w.setCell ⟨b, 16, none⟩ (.slice a2 n2 c2)) b H s A a2 n2 c2 N2 /\ Far b H w (w.setCell ⟨b, 16, none⟩ (.slice a2 n2 c2)) := by
 have hb := h.b
 have hg := zf6 w b 16 (.slice a2 n2 c2)
 have far := Far.of_grown hg hH (fun r e => by cases e; exact ⟨.inr rfl, fun o ho => by rw [show w.heap[b]? = _ from h.k] at ho; cases ho; rfl⟩)
 refine ⟨⟨?_, h.o.far hg hb, hn.kept hg (.inr fun e => by have := (hn.lt b e).1; omega), hb⟩, far⟩
 have := h.k.set 16 (.slice a2 n2 c2)
 simpa [Y.cs] using this
theorem exec_store {P : Program} {o : Oper} {ρ : Operand -> Value} {w w' : World} {t : TypeId} {x y : Operand} {p : Addr} {v : Value} (ho : o.op = .store t x y) (hx : ρ x = .pointer (some p)) (hy : ρ y = v) (h : (Instr.storeAt t (.pointer (some p)) v).run P w = .ok () w') : (execOp ρ o).run P w = .ok .skip w' := by
 unfold execOp
 rw [ho]
 simp only [hx, hy, Sem.run_bind, h, Result.andThen]
 rfl
theorem st8 {w : World} {b : Nat} {cs : Array Value} (h : Blok w b 153 cs) (hs : cs.size = 17) (u0 u1 u2 u3 u4 u5 u6 u7 : Int) : (Instr.storeAt 30 (.pointer (some ⟨b, 0, none⟩)) (.agg #[.int .i64 u0, .int .i64 u1, .int .i64 u2, .int .i64 u3, .int .i64 u4, .int .i64 u5, .int .i64 u6, .int .i64 u7])).run Tryz.prog w = .ok () ((((((((w.setCell ⟨b, 0, none⟩ (.int .i64 u0)).setCell ⟨b, 1, none⟩ (.int .i64 u1)).setCell ⟨b, 2, none⟩ (.int .i64 u2)).setCell ⟨b, 3, none⟩ (.int .i64 u3)).setCell ⟨b, 4, none⟩ (.int .i64 u4)).setCell ⟨b, 5, none⟩ (.int .i64 u5)).setCell ⟨b, 6, none⟩ (.int .i64 u6)).setCell ⟨b, 7, none⟩ (.int .i64 u7)) := by
 have f0 : w.frozen? ⟨b, 0, none⟩ = false := h.frozen 0
 have c0 : w.cell? ⟨b, 0, none⟩ = some (cs[0]'(by omega)) := by rw [h.cell 0]; simp [hs]
 have f1 : w.frozen? ⟨b, 1, none⟩ = false := h.frozen 1
 have c1 : w.cell? ⟨b, 1, none⟩ = some (cs[1]'(by omega)) := by rw [h.cell 1]; simp [hs]
 have f2 : w.frozen? ⟨b, 2, none⟩ = false := h.frozen 2
 have c2 : w.cell? ⟨b, 2, none⟩ = some (cs[2]'(by omega)) := by rw [h.cell 2]; simp [hs]
 have f3 : w.frozen? ⟨b, 3, none⟩ = false := h.frozen 3
 have c3 : w.cell? ⟨b, 3, none⟩ = some (cs[3]'(by omega)) := by rw [h.cell 3]; simp [hs]
 have f4 : w.frozen? ⟨b, 4, none⟩ = false := h.frozen 4
 have c4 : w.cell? ⟨b, 4, none⟩ = some (cs[4]'(by omega)) := by rw [h.cell 4]; simp [hs]
 have f5 : w.frozen? ⟨b, 5, none⟩ = false := h.frozen 5
 have c5 : w.cell? ⟨b, 5, none⟩ = some (cs[5]'(by omega)) := by rw [h.cell 5]; simp [hs]
 have f6 : w.frozen? ⟨b, 6, none⟩ = false := h.frozen 6
 have c6 : w.cell? ⟨b, 6, none⟩ = some (cs[6]'(by omega)) := by rw [h.cell 6]; simp [hs]
 have f7 : w.frozen? ⟨b, 7, none⟩ = false := h.frozen 7
 have c7 : w.cell? ⟨b, 7, none⟩ = some (cs[7]'(by omega)) := by rw [h.cell 7]; simp [hs]
 go_simp
theorem st4 {w : World} {b : Nat} {cs : Array Value} (h : Blok w b 153 cs) (hs : cs.size = 17) (u0 u1 u2 : Int) (u3 : Bool) : (Instr.storeAt 32 (.pointer (some ⟨b, 8, none⟩)) (.agg #[.int .i64 u0, .int .i64 u1, .int .i64 u2, .bool u3])).run Tryz.prog w = .ok () ((((w.setCell ⟨b, 8, none⟩ (.int .i64 u0)).setCell ⟨b, 9, none⟩ (.int .i64 u1)).setCell ⟨b, 10, none⟩ (.int .i64 u2)).setCell ⟨b, 11, none⟩ (.bool u3)) := by
 have f8 : w.frozen? ⟨b, 8, none⟩ = false := h.frozen 8
 have c8 : w.cell? ⟨b, 8, none⟩ = some (cs[8]'(by omega)) := by rw [h.cell 8]; simp [hs]
 have f9 : w.frozen? ⟨b, 9, none⟩ = false := h.frozen 9
 have c9 : w.cell? ⟨b, 9, none⟩ = some (cs[9]'(by omega)) := by rw [h.cell 9]; simp [hs]
 have f10 : w.frozen? ⟨b, 10, none⟩ = false := h.frozen 10
 have c10 : w.cell? ⟨b, 10, none⟩ = some (cs[10]'(by omega)) := by rw [h.cell 10]; simp [hs]
 have f11 : w.frozen? ⟨b, 11, none⟩ = false := h.frozen 11
 have c11 : w.cell? ⟨b, 11, none⟩ = some (cs[11]'(by omega)) := by rw [h.cell 11]; simp [hs]
 go_simp
theorem row_cap {w : World} {B g n c k : Nat} {t : TypeId} {xs : List Value} (h : w.ownsRow B t k (.slice (some ⟨g, 0, none⟩) n c) n xs) : n <= c := by
 rcases h.2 with ⟨h0, _⟩ | ⟨q, cap, cur, h1, _, _, h2, _⟩
 ·cases h0
 ·cases h1; exact h2
theorem drop_get (N : List Int) (i : Nat) : (N.drop 15).getD i 0 = N.getD (15 + i) 0 := by simp [List.getD_eq_getElem?_getD, List.getElem?_drop]
theorem plsOf_next {N : List Int} {k o : Nat} (ho : 15 + 3 * k = o) (h : o + 3 <= N.length) : (plsOf (N.drop 15))[k]? = some ⟨nth N o, nth N (o + 1), nth N (o + 2)⟩ := by
 subst ho
 rw [plsOf_at k _ (by rw [List.length_drop]; omega), drop_get, drop_get, drop_get]
 rfl
def stP (N : List Int) (ps : List O.Pl) : Y.St := ⟨⟨J.nth N 0, J.nth N 1, J.nth N 2, J.nth N 3, J.nth N 4, J.nth N 5, J.nth N 6, J.nth N 7⟩, ⟨J.nth N 8, J.nth N 9, J.nth N 10, J.nth N 11 == 1⟩, J.nth N 12, ps, [], []⟩
def lenV : Value -> Nat
 | .slice _ n _ => n
 | _ => 0
def Rest (g o q c : Nat) (a : Option Addr) : Prop := q <= c /\ (0 < q -> a = some ⟨g, o, none⟩)
theorem Rest.next {g o q c : Nat} {a : Option Addr} (h : Rest g o q c a) (k : Nat) (hk : k <= q) (hq : 0 < q) : Rest g (o + k) (q - k) (c - k) (slk 1 a k c) := by
 obtain ⟨h1, h2⟩ := h
 have h3 := h2 hq
 subst h3
 refine ⟨by omega, fun h4 => ?_⟩
 unfold slk
 rw [if_neg (by omega)]
 simp [WideShapes.add_plain]
end J
end Go.Proofs.YtnbkkjcmblfhpaaGreat
namespace Go.Proofs.YtnbkkjcmblfhpaaGreat
set_option maxHeartbeats 1000000
set_option maxRecDepth 100000
open Go.RowKit
theorem zpo (a : Option Addr) (len cap : Nat) (L : List Int) (w : World) (hl : L.length = len) (h : 400 < len) :
  Calls Tryz.prog 102 #[.slice a len cap] w (zqo L w) := by
 have hn := Zh (zr8 (L := L) (by omega))
 have h' : decide (400 < (len : Int)) = true := by simp; omega
 clear hl
 go_enter Tryz.func102, Tryz.ntmps102
 go_wp2
 go_ret2
 exact .no hn.out (Below.refl _ _)
theorem zpf (a : Option Addr) (cap : Nat) (w : World) :
  Calls Tryz.prog 102 #[.slice a 0 cap] w (zqo [] w) := by
 have hn := Zh (zpa (L := []) (by simp) (by simp))
 go_enter Tryz.func102, Tryz.ntmps102
 go_wp2
 refine wp_loop_rounds 1 ?_
 rw [rounds_succ]
 go_wp2
 go_ret2
 exact ⟨_, _, rfl, by rw [hn.out]; rfl, by rw [hn.out]; exact World.ownsRow_nil _ _ _ _, Below.refl _ _⟩
theorem zto (b off len cap : Nat) (L : List Int) (w : World) (hl : L.length = len) (h4 : len <= 400) (hb : b < w.heap.size)
  (hc : ∀ i, i < L.length -> w.cell? ⟨b, off + i, none⟩ = some (.int .i64 (L.getD i 0))) :
  Calls Tryz.prog 102 #[.slice (some ⟨b, off, none⟩) len cap] w (zqo L w) := by
 obtain ⟨i0, hi, hz0, hz1, hz2⟩ := info_parts zrf
 have HL := Zh hl; clear hl
 have h4' : decide (400 < (len : Int)) = false := by simp; omega
 go_enter Tryz.func102, Tryz.ntmps102
 go_wp2
 go_loopw [4, 12] (fun v i wr => ∃ k : Nat, i = .int .i64 k /\ k <= len /\ Hid (∀ n ∈ L.take k, 0 <= n /\ n <= 1099511627776) /\ wr.ownsRow w.heap.size 5 1 v ((L.take k).flatMap M.put).length (((L.take k).flatMap M.put).map (Value.int .u8)) /\ Below w.heap.size w wr) (fun _ i _ => len - (intOf i).toNat)
 case atStart => exact ⟨0, rfl, by omega, Zh (by simp), World.ownsRow_nil _ _ _ _, Below.refl _ _⟩
 case round =>
  obtain ⟨k, rfl, hk, HG, hown, hB⟩ := hrel
  have hBs := hB.size
  by_cases hlt : k < len
  ·have hkL : k < L.length := by rw [HL.out]; exact hlt
   obtain ⟨n, hn⟩ : ∃ n, L.getD k 0 = n := ⟨_, rfl⟩
   have hcell : wr.cell? ⟨b, off + k, none⟩ = some (.int .i64 n) := by rw [<- hn]; exact (hB.cell (p := ⟨b, off + k, none⟩) hb).trans (hc k hkL)
   have hmem : n ∈ L := by rw [<- hn]; simp [hkL]
   have HF := Zh (zrh hkL)
   have HFL := flat_len (L.take k)
   have HT : (L.take k).length <= k := List.length_take_le _ _
   have HN := Zh hn
   have HM := Zh hmem
   clear hn hmem hkL hc
   by_cases hnum : 0 <= n /\ n <= 1099511627776
   ·obtain ⟨g0, g1⟩ := hnum
    obtain ⟨xs, hxs⟩ : ∃ xs, (L.take k).flatMap M.put = xs := ⟨_, rfl⟩
    rw [hxs] at hown HFL
    have HX := Zh hxs; clear hxs
    have hp := (M.put_pos_iff n).2 ⟨g0, g1⟩
    have hp6 := M.put_len6 n
    go_wp2_with (first | (go_at_call 162; refine (zof _ _ g0 g1).mono ?_; rintro e w' ⟨rfl, rfl⟩) | (go_at_call 83; refine (zpe _ _).mono ?_; rintro e w2 ⟨v2, rfl, hrow2, hb2⟩; obtain ⟨g2, cap2, rfl⟩ := zpm hrow2 hp; have hown2 := zab hown hb2; have hs2 := hb2.size) | (at_builtin; refine wpList_append_own _ rfl _ _ 51 rfl w.heap.size 5 i0 (.int .u8 0) 1 1 Tryz.underlying51 hi hz0 hz1 hz2 rfl (by decide) _ _ _ rfl hown2 ⟨g2, 0, none⟩ (M.put n).length cap2 ((M.put n).map (Value.int .u8)) rfl (by simp) (hrow2.cells rfl) (zoh _ _) (by unfold maxLen; omega) (by omega) (by omega) ?_; intro v' w1 hown' hgrow _))
    go_roundw
    case rel => exact ⟨k + 1, by go_num, by omega, Zh (by
       intro x hx
       rw [List.take_succ_eq_append_getElem (by rw [HL.out]; exact hlt)] at hx
       rcases List.mem_append.1 hx with hx | hx
       ·exact HG.out x hx
       ·have hkL : k < L.length := by rw [HL.out]; exact hlt
        have := HN.out
        simp [hkL] at this hx
        rw [hx, this]; exact ⟨g0, g1⟩), by rw [HF.out, HX.out, HN.out]; simpa using hown', znq hown2 (by omega) (hB.trans (hb2.mono (by omega))) hgrow⟩
    case measure => simp [intOf]; omega
   ·have HNo := Zh (zss HM.out hnum)
    have H := Zh hnum; clear hnum
    go_wp2_with (go_at_call 162; refine (zon _ _ H.out).mono ?_; rintro e w' ⟨rfl, rfl⟩)
    go_ret2
    exact .no HNo.out hB
  ·have hkl : k = len := by omega
   have HS := Zh (zpa (L := L) (by rw [HL.out]; exact h4) (by have := HG.out; rwa [List.take_of_length_le (by rw [HL.out]; omega)] at this))
   have HT := Zh (List.take_of_length_le (l := L) (i := k) (by rw [HL.out]; omega))
   have hd : decide (k < len) = false := by simp; omega
   clear hkl
   go_wp2
   go_ret2
   exact ⟨_, _, rfl, by rw [HS.out]; rfl, by rw [HS.out]; rw [HT.out] at hown; exact hown, hB⟩
theorem zrt (a : Option Addr) (len cap : Nat) (L : List Int) (w : World) (hl : L.length = len) (h : zfv .i64 w a cap L) :
  Calls Tryz.prog 102 #[.slice a len cap] w (zqo L w) := by
 by_cases h4 : 400 < len
 ·exact zpo a len cap L w hl h4
 ·rcases h.2.2 with rfl | ⟨b, off, rfl, hb, hc⟩
  ·subst hl; exact zpf a cap w
  ·exact zto b off len cap L w hl (by omega) hb hc
theorem zwc (a : Option Addr) (len cap : Nat) (L : List Int) (w : World) (hl : L.length = len) (h : zfv .i64 w a cap L) : Calls Tryz.prog 102 #[.slice a len cap] w fun e w' =>
  ∃ a' cap' n', e = .returned (.tuple #[.slice a' n' cap', .bool (M.all L).isSome]) /\ Hid (((M.all L).getD []).length = n') /\ Hid (zfv .u8 w' a' cap' ((M.all L).getD [])) /\ (a' = none -> n' = 0 /\ cap' = 0) /\ Below w.heap.size w w' :=
 (zrt a len cap L w hl h).mono fun e w' ⟨v, ok, he, hok, ho, hb⟩ => by
  have hz := ho.2
  obtain ⟨a', cap', rfl, _, hr⟩ := zex ho (by
   cases hr : M.all L with
   | none => simp
   | some b => simpa using zr9 hr)
  refine ⟨a', cap', _, by rw [he, hok], rfl, hr, ?_, hb⟩
  rintro rfl
  rcases hz with ⟨h1, h2⟩ | ⟨g, cap, cur, h1, _⟩
  ·simp only [Value.slice.injEq] at h1
   exact ⟨h1.2.1, h1.2.2⟩
  ·simp at h1
end Go.Proofs.YtnbkkjcmblfhpaaGreat
namespace Go.Proofs.YtnbkkjcmblfhpaaGreat
open Go.RowKit
theorem zp9 (n : Int) (w : World) : Calls Tryz.prog 283 #[.int .i64 n] w fun e w' => e = .returned (.int .i64 (Z.zig n)) /\ w = w' := by
 by_cases h : -274877906944 <= n /\ n <= 274877906944
 ·have hz := Zh (Z.zig_in h)
  obtain ⟨h1, h2⟩ := h
  have d1 : ¬ n < -274877906944 := by omega
  have d2 : decide (274877906944 < n) = false := by simp; omega
  by_cases h0 : n < 0
  ·go_enter Tryz.func283, Tryz.ntmps283
   go_wp2
   go_ret
   exact ⟨znj (by rw [hz.out, if_pos h0]), rfl⟩
  ·go_enter Tryz.func283, Tryz.ntmps283
   go_wp2
   go_ret
   exact ⟨znj (by rw [hz.out, if_neg (by omega)]), rfl⟩
 ·have hz := Zh (Z.zig_out h)
  by_cases h0 : n < -274877906944
  ·clear h
   go_enter Tryz.func283, Tryz.ntmps283
   go_wp2
   go_ret
   exact ⟨znj (by rw [hz.out]), rfl⟩
  ·have h1 : 274877906944 < n := by omega
   clear h
   go_enter Tryz.func283, Tryz.ntmps283
   go_wp2
   go_ret
   exact ⟨znj (by rw [hz.out]), rfl⟩
theorem zru (k : Int) (w : World) : Calls Tryz.prog 293 #[.int .i64 k] w fun e w' => e = .returned (.int .i64 (Z.zag k)) /\ w = w' := by
 by_cases h : 0 <= k /\ k <= 549755813888
 ·have hz : Hid (Z.zag k = if k % 2 = 1 then -((k + 1) / 2) else k / 2) := Zh (by unfold Z.zag; rw [if_neg (by omega)])
  obtain ⟨h1, h2⟩ := h
  have d1 : ¬ k < 0 := by omega
  have d2 : decide (549755813888 < k) = false := by simp; omega
  by_cases h0 : k % 2 = 1
  ·have d3 : (k % 2 == 1) = true := by simpa using h0
   have H0 := Zh h0
   clear h0
   go_enter Tryz.func293, Tryz.ntmps293
   go_wp2
   go_ret
   exact ⟨znj (by rw [hz.out, if_pos H0.out, Int.tdiv_eq_ediv_of_nonneg (by omega)]; exact (IntWalk.wrap64_in _ ⟨by omega, by omega⟩)), rfl⟩
  ·have d3 : (k % 2 == 1) = false := by simpa using h0
   have H0 := Zh h0
   clear h0
   go_enter Tryz.func293, Tryz.ntmps293
   go_wp2
   go_ret
   exact ⟨znj (by rw [hz.out, if_neg H0.out]), rfl⟩
 ·have hz : Hid (Z.zag k = 0) := Zh (by unfold Z.zag; rw [if_pos (by omega)])
  by_cases h0 : k < 0
  ·clear h
   go_enter Tryz.func293, Tryz.ntmps293
   go_wp2
   go_ret
   exact ⟨znj (by rw [hz.out]), rfl⟩
  ·have h1 : 549755813888 < k := by omega
   clear h
   go_enter Tryz.func293, Tryz.ntmps293
   go_wp2
   go_ret
   exact ⟨znj (by rw [hz.out]), rfl⟩
theorem zo7 (n : Int) (w : World) (h : Z.isl n) : Calls Tryz.prog 229 #[.int .i64 n] w fun e w' => e = .returned (.bool true) /\ w = w' := by
 obtain ⟨h0, h1⟩ := h
 go_enter Tryz.func229, Tryz.ntmps229
 go_wp2
 go_ret
 exact ⟨rfl, rfl⟩
theorem zpp (n : Int) (w : World) (h : ¬ Z.isl n) : Calls Tryz.prog 229 #[.int .i64 n] w fun e w' => e = .returned (.bool false) /\ w = w' := by
 unfold Z.isl at h
 by_cases h0 : 0 <= n
 ·have h1 : decide (n < 274877906944) = false := by simp; omega
  clear h
  go_enter Tryz.func229, Tryz.ntmps229
  go_wp2
  go_ret
  exact ⟨rfl, rfl⟩
 ·have h1 : n < 0 := by omega
  clear h h0
  go_enter Tryz.func229, Tryz.ntmps229
  go_wp2
  go_ret
  exact ⟨rfl, rfl⟩
theorem zqw (n : Int) (w : World) : Calls Tryz.prog 229 #[.int .i64 n] w fun e w' => e = .returned (.bool (decide (Z.isl n))) /\ w = w' := by
 by_cases h : Z.isl n
 ·rw [decide_eq_true h]; exact zo7 n w h
 ·rw [decide_eq_false h]; exact zpp n w h
theorem zqa (w : World) : Calls Tryz.prog 228 #[] w fun e w' => e = .returned (.func (.func 282) #[] #[.pointer (some ⟨w.heap.size, 0, none⟩)]) /\ w' = w.alloc (.cells #[.int .i64 0] 3) := by
 go_enter Tryz.func228, Tryz.ntmps228
 go_wp2
 go_ret
 exact ⟨rfl, rfl⟩
theorem zsf (n p : Int) (B : Nat) (w : World) (hn : Z.isl n) (hp : Z.isl p) (hb : Blok w B 3 #[.int .i64 p]) :
  Calls Tryz.prog 282 #[.int .i64 n, .pointer (some ⟨B, 0, none⟩)] w fun e w' => e = .returned (.int .i64 (Z.zig (n - p))) /\ w' = w.setCell ⟨B, 0, none⟩ (.int .i64 n) := by
 obtain ⟨n0, n1⟩ := hn
 obtain ⟨p0, p1⟩ := hp
 have c0 := Zv hb 0 (.int .i64 p)
 have f0 : w.frozen? ⟨B, 0, none⟩ = false := hb.frozen 0
 go_enter Tryz.func282, Tryz.ntmps282
 go_wp2_with (go_at_call 283; refine (zp9 _ _).mono ?_; rintro e w' ⟨rfl, rfl⟩)
 go_ret
 exact ⟨rfl, rfl⟩
end Go.Proofs.YtnbkkjcmblfhpaaGreat
namespace Go.Proofs.YtnbkkjcmblfhpaaGreat
set_option maxHeartbeats 1000000
set_option maxRecDepth 100000
open Go.RowKit
theorem Z.pl_snoc : ∀ (q : Int) (l : List Int) (n : Int), Z.pl q (l ++ [n]) = Z.pl q l ++ [Z.zig (n - l.getLastD q)]
 | q, [], n => by simp [Z.pl]
 | q, m :: l, n => by
  rw [List.cons_append, Z.pl, Z.pl, Z.pl_snoc m l n]
  simp [List.getLastD_eq_getLast?]
  cases h : l.getLast? <;> simp [List.getLast?_cons, h]
def StR (L : List Int) (N : Nat) (w wr : World) (k : Nat) : Prop :=
 (∀ n ∈ L.take k, Z.isl n) /\ Blok wr N 3 ((zns (Z.pl 0 (L.take k)) L.length).map (Value.int .i64)).toArray /\ Blok wr (N + 1) 3 #[.int .i64 ((L.take k).getLastD 0)] /\ Below N w wr
theorem zsg {l : List Int} (h : ∀ n ∈ l, Z.isl n) : Z.isl (l.getLastD 0) := by
 rw [List.getLastD_eq_getLast?]
 cases hl : l.getLast? with
 | none => simp [Z.isl]
 | some x => exact h x (List.mem_of_getLast? hl)
theorem StR.step {L : List Int} {N : Nat} {w wr w2 : World} {k : Nat} (h : StR L N w wr k) (hk : k < L.length) (hn : Z.isl (L.getD k 0)) (h2 : w2 = wr.setCell ⟨N + 1, 0, none⟩ (.int .i64 (L.getD k 0))) :
  StR L N w (w2.setCell ⟨N, k, none⟩ (.int .i64 (Z.zig (L.getD k 0 - (L.take k).getLastD 0)))) (k + 1) := by
 obtain ⟨h1, hb, hc, hB⟩ := h
 subst h2
 have hlen : (Z.pl 0 (L.take k)).length = k := by rw [Z.pl_len]; simp; omega
 refine ⟨?_, ?_, ?_, (hB.setCell (by simp) _).setCell (by simp) _⟩
 ·rw [zup hk]
  intro n hm
  rcases List.mem_append.1 hm with hm | hm
  ·exact h1 n hm
  ·simp only [List.mem_singleton] at hm; rw [hm]; exact hn
 ·have h3 := (hb.far (p := ⟨N + 1, 0, none⟩) (by simp) (.int .i64 (L.getD k 0))).set k (.int .i64 (Z.zig (L.getD k 0 - (L.take k).getLastD 0)))
  have h4 := zo0 (xs := Z.pl 0 (L.take k)) (n := L.length) (by omega) .i64 (Z.zig (L.getD k 0 - (L.take k).getLastD 0))
  rw [hlen] at h4
  rw [h4] at h3
  rw [zup hk, Z.pl_snoc]
  exact h3
 ·have h3 := (hc.set 0 (.int .i64 (L.getD k 0))).far (p := ⟨N, k, none⟩) (by simp) (.int .i64 (Z.zig (L.getD k 0 - (L.take k).getLastD 0)))
  rw [zup hk]
  simpa using h3
def zoo (L : List Int) (w : World) (e : Ending) (w' : World) : Prop :=
 ∃ v ok, e = .returned (.tuple #[v, .bool ok]) /\ ok = (Z.steps L).isSome /\ w'.ownsRow w.heap.size 5 1 v ((Z.steps L).getD []).length (((Z.steps L).getD []).map (Value.int .u8)) /\ Below w.heap.size w w'
theorem zoo.no {L : List Int} {w w' : World} (h : Z.steps L = none) (hb : Below w.heap.size w w') : zoo L w (.returned (.tuple #[.slice none 0 0, .bool false])) w' := by
 refine ⟨_, _, rfl, ?_, ?_, hb⟩ <;> rw [h]
 ·rfl
 ·exact World.ownsRow_nil _ _ _ _
theorem zov (a : Option Addr) (len cap : Nat) (L : List Int) (w : World) (hl : L.length = len) (h : 400 < len) :
  Calls Tryz.prog 157 #[.slice a len cap] w (zoo L w) := by
 have hn := Zh (Z.steps_long (L := L) (by omega))
 have h' : decide (400 < (len : Int)) = true := by simp; omega
 clear hl
 go_enter Tryz.func157, Tryz.ntmps157
 go_wp2
 go_ret2
 exact .no hn.out (Below.refl _ _)
theorem zsh (a : Option Addr) (len cap : Nat) (L : List Int) (w : World) (hl : L.length = len) (h4 : len <= 400) (h : zfv .i64 w a cap L) :
  Calls Tryz.prog 157 #[.slice a len cap] w (zoo L w) := by
 obtain ⟨i0, hi, hz0, hz1, hz2⟩ := info_parts zl3
 have HL := Zh hl
 have HR := Zh h
 clear hl h
 have h4' : decide (400 < (len : Int)) = false := by simp; omega
 go_enter Tryz.func157, Tryz.ntmps157
 go_wp2_with (first
  | (at_make; refine wpList_make_row _ rfl _ _ 74 rfl 3 i0 (.int .i64 0) Tryz.underlying74 hi hz0 hz1 rfl .i64 .i64 len rfl rfl (by rw [hz2]; omega) (by omega) ?_)
  | (go_at_call 228; refine (zqa _).mono ?_; rintro e w' ⟨rfl, rfl⟩))
 go_loopw [16] (fun i wr => ∃ k : Nat, i = .int .i64 k /\ k <= len /\ Hid (StR L w.heap.size w wr k)) (fun i _ => len - (intOf i).toNat)
 case atStart =>
  refine ⟨0, rfl, by omega, Zh ⟨by simp, ?_, ?_, ?_⟩⟩
  ·have := (Blok.new w 3 (madeCells #[.int .i64 0] len)).alloc (.cells #[.int .i64 0] 3)
   rw [List.take_zero, Z.pl, zoy, HL.out, <- zoj]
   exact this
  ·have := Blok.new (w.alloc (.cells (madeCells #[.int .i64 0] len) 3)) 3 #[.int .i64 0]
   rw [World.size_alloc] at this
   exact this
  ·exact ((Below.refl _ w).alloc (Nat.le_refl _) _).alloc (by simp) _
 case round =>
  obtain ⟨k, rfl, hk, HS⟩ := hrel
  by_cases hlt : k < len
  ·have hkL : k < L.length := by rw [HL.out]; exact hlt
   obtain ⟨b, off, rfl, hb, hc⟩ := zl4 HR.out hkL
   obtain ⟨n, hn⟩ : ∃ n, L.getD k 0 = n := ⟨_, rfl⟩
   obtain ⟨p, hp⟩ : ∃ p, (L.take k).getLastD 0 = p := ⟨_, rfl⟩
   have hcell : wr.cell? ⟨b, off + k, none⟩ = some (.int .i64 n) := by rw [<- hn]; exact (HS.out.2.2.2.cell (p := ⟨b, off + k, none⟩) hb).trans hc
   have hmem : n ∈ L := by rw [<- hn]; simp [hkL]
   have hpi : Z.isl p := by rw [<- hp]; exact zsg HS.out.1
   have HN := Zh hn
   have HP := Zh hp
   have HM := Zh hmem
   have HPI := Zh hpi
   clear hn hp hmem hkL hc hpi
   by_cases hnum : Z.isl n
   ·have HI := Zh hnum
    clear hnum
    go_wp2_with (first
     | (go_at_call 229; refine (zo7 _ _ HI.out).mono ?_; rintro e w' ⟨rfl, rfl⟩)
     | (go_at_call 282; refine (zsf n p (w.heap.size + 1) _ HI.out HPI.out (by rw [<- HP.out]; exact HS.out.2.2.1)).mono ?_; rintro e w2 ⟨rfl, h2⟩; have g1 : w2.cell? ⟨w.heap.size, k, none⟩ = some (.int .i64 0) := (by rw [h2, (HS.out.2.1.far (p := ⟨w.heap.size + 1, 0, none⟩) (by simp) _).cell k]; exact zn2 (by rw [Z.pl_len]; simp; have := HL.out; omega) (by rw [HL.out]; exact hlt) .i64); have g2 : w2.frozen? ⟨w.heap.size, k, none⟩ = false := (by rw [h2]; exact (HS.out.2.1.far (p := ⟨w.heap.size + 1, 0, none⟩) (by simp) _).frozen k); have H2 := Zh h2; clear h2))
    go_roundw
    case rel => exact ⟨k + 1, by go_num, by omega, Zh (by have := HS.out.step (w2 := w2) (by rw [HL.out]; exact hlt) (by rw [HN.out]; exact HI.out) (by rw [HN.out]; exact H2.out); rw [HN.out, HP.out] at this; exact this)⟩
    case measure => simp [intOf]; omega
   ·have HNo := Zh (Z.steps_bad HM.out hnum)
    have HI := Zh hnum
    clear hnum
    go_wp2_with (go_at_call 229; refine (zpp _ _ HI.out).mono ?_; rintro e w' ⟨rfl, rfl⟩)
    go_ret2
    exact .no HNo.out HS.out.2.2.2
  ·have hkl : k = len := by omega
   have hrow : Hid (zfv .i64 wr (some ⟨w.heap.size, 0, none⟩) len (Z.pl 0 L)) := Zh (by
    have h1 := HS.out.2.1
    have h2 := HL.out
    rw [List.take_of_length_le (by omega), zoz (by rw [Z.pl_len]; omega)] at h1
    exact h1.row (fun n hn => zqj (Z.pl_isn 0 L (by unfold Z.isl; omega) (by have := HS.out.1; rwa [List.take_of_length_le (by omega)] at this) n hn)) (by rw [Z.pl_len]; omega) (by unfold maxLen; omega))
   have HA := Zh (Z.steps_all (L := L) (by rw [HL.out]; exact h4) (by have := HS.out.1; rwa [List.take_of_length_le (by rw [HL.out]; omega)] at this))
   have hd : decide (k < len) = false := by simp; omega
   clear hkl
   go_wp2_with (go_at_call 102; refine (zrt _ len len (Z.pl 0 L) _ (by rw [Z.pl_len]; exact HL.out) hrow.out).mono ?_; rintro e w2 ⟨v, ok, rfl, hok, ho, hb⟩; have HO := Zh hok; have HW := Zh ho; clear hok ho)
   go_ret2
   have hok := HO.out
   have ho := HW.out
   rw [HA.out] at hok ho
   have hs := HS.out.2.2.2
   exact ⟨v, ok, rfl, hok, zan ho hs.size, hs.trans (hb.mono hs.size)⟩
theorem zpq (a : Option Addr) (len cap : Nat) (L : List Int) (w : World) (hl : L.length = len) (h : zfv .i64 w a cap L) :
  Calls Tryz.prog 157 #[.slice a len cap] w (zoo L w) := by
 by_cases h4 : 400 < len
 ·exact zov a len cap L w hl h4
 ·exact zsh a len cap L w hl (by omega) h
theorem zqx (w : World) : Calls Tryz.prog 250 #[] w fun e w' => e = .returned (.func (.func 292) #[] #[.pointer (some ⟨w.heap.size, 0, none⟩)]) /\ w' = w.alloc (.cells #[.int .i64 0] 3) := by
 go_enter Tryz.func250, Tryz.ntmps250
 go_wp2
 go_ret
 exact ⟨rfl, rfl⟩
theorem zn8 (w : World) (r : Option Nat) : ∀ n, w.grownBy (w.drewN n) r
 | 0 => ⟨rfl, rfl, rfl, Nat.le_refl _, fun _ _ _ => rfl⟩
 | n + 1 => by have := zn8 w r n; exact ⟨this.os, this.tape, this.output, this.size, this.block⟩
def ztw (B : Nat) (k p : Int) (w : World) (e : Ending) (w' : World) : Prop :=
 ∃ q ok, e = .returned (.tuple #[.int .i64 q, .bool ok]) /\ ok = decide (Z.zig (Z.zag k) = k /\ Z.isl (p + Z.zag k)) /\ w.grownBy w' (some B) /\ (ok = true -> q = p + Z.zag k /\ Blok w' B 3 #[.int .i64 q])
theorem zrv (k p : Int) (B : Nat) (w : World) (hp : Z.isl p) (hb : Blok w B 3 #[.int .i64 p]) :
  Calls Tryz.prog 292 #[.int .i64 k, .pointer (some ⟨B, 0, none⟩)] w (ztw B k p w) := by
 obtain ⟨p0, p1⟩ := hp
 obtain ⟨s, hs⟩ : ∃ s, Z.zag k = s := ⟨_, rfl⟩
 have hsb := Z.zag_bd k
 rw [hs] at hsb
 obtain ⟨s0, s1⟩ := hsb
 have c0 := Zv hb 0 (.int .i64 p)
 have f0 : w.frozen? ⟨B, 0, none⟩ = false := hb.frozen 0
 have HB := Zh hb
 have HS := Zh hs
 clear hb hs
 by_cases hz : Z.zig s = k
 ·have d1 : (Z.zig s != k) = false := by simpa using hz
  have HZ := Zh hz
  clear hz
  go_enter Tryz.func292, Tryz.ntmps292
  go_wp2_with (first
   | (go_at_call 293; refine (zru _ _).mono ?_; rw [HS.out]; rintro e w' ⟨rfl, rfl⟩)
   | (go_at_call 283; refine (zp9 _ _).mono ?_; rintro e w' ⟨rfl, rfl⟩))
  go_quiet ((go_at_call 229; exact Calls.quiet_of_same ((zqw _ _).mono fun _ _ ⟨h1, h2⟩ => ⟨h1, h2.symm⟩)))
  go_wp2
  go_ret2
  exact ⟨_, _, rfl, by rw [HS.out]; simp [HZ.out], (grownBy_setCell' w B _).trans (zn8 _ _ _), fun _ => ⟨by rw [HS.out], (HB.out.set 0 _).drewN _⟩⟩
 ·have d1 : (Z.zig s != k) = true := by simpa using hz
  have HZ := Zh hz
  clear hz
  go_enter Tryz.func292, Tryz.ntmps292
  go_wp2_with (first
   | (go_at_call 293; refine (zru _ _).mono ?_; rw [HS.out]; rintro e w' ⟨rfl, rfl⟩)
   | (go_at_call 283; refine (zp9 _ _).mono ?_; rintro e w' ⟨rfl, rfl⟩))
  go_ret2
  exact ⟨0, false, rfl, (decide_eq_false (fun h => HZ.out (by have := h.1; rwa [HS.out] at this))).symm, ⟨rfl, rfl, rfl, Nat.le_refl _, fun _ _ _ => rfl⟩, fun h => by cases h⟩
def SmR (ps : List Int) (N : Nat) (w wr : World) (k : Nat) (xs : List Int) (p : Int) : Prop :=
 Z.un 0 ps = (Z.un p (ps.drop k)).map (fun l => xs ++ l) /\ xs.length = k /\ Z.isl p /\ (∀ n ∈ xs, Z.isl n) /\ Blok wr N 3 ((zns xs ps.length).map (Value.int .i64)).toArray /\ Blok wr (N + 1) 3 #[.int .i64 p] /\ Below N w wr
theorem SmR.bad {ps : List Int} {N : Nat} {w wr : World} {k : Nat} {xs : List Int} {p : Int} (h : SmR ps N w wr k xs p) (hk : k < ps.length) (hb : ¬ (Z.zig (Z.zag (ps.getD k 0)) = ps.getD k 0 /\ Z.isl (p + Z.zag (ps.getD k 0)))) : Z.un 0 ps = none := by
 rw [h.1, List.drop_eq_getElem_cons hk, Z.un, if_neg]
 ·rfl
 ·intro hh; apply hb; simpa [hk] using hh
theorem SmR.step {ps : List Int} {N : Nat} {w wr w2 : World} {k : Nat} {xs : List Int} {p q : Int} (h : SmR ps N w wr k xs p) (hk : k < ps.length) (hb : Z.zig (Z.zag (ps.getD k 0)) = ps.getD k 0 /\ Z.isl (p + Z.zag (ps.getD k 0))) (hq : q = p + Z.zag (ps.getD k 0))
  (hg : wr.grownBy w2 (some (N + 1))) (h2 : Blok w2 (N + 1) 3 #[.int .i64 q]) : SmR ps N w (w2.setCell ⟨N, k, none⟩ (.int .i64 q)) (k + 1) (xs ++ [q]) q := by
 obtain ⟨h1, hl, hp, hx, hB, hC, hW⟩ := h
 subst hq
 refine ⟨?_, by simp [hl], hb.2, ?_, ?_, h2.far (by simp) _, (hW.grown hg (Nat.le_of_lt hB.lt) (fun j e => by cases e; omega)).setCell (by simp) _⟩
 ·rw [h1, List.drop_eq_getElem_cons hk, Z.un]
  have e : ps[k] = ps.getD k 0 := by simp [hk]
  rw [e, if_pos hb, Option.map_map]
  congr 1
  funext l
  simp
 ·intro n hn
  rcases List.mem_append.1 hn with hn | hn
  ·exact hx n hn
  ·simp only [List.mem_singleton] at hn; rw [hn]; exact hb.2
 ·have h3 := (hB.grown hg (by simp)).set k (.int .i64 (p + Z.zag (ps.getD k 0)))
  have h4 := zo0 (xs := xs) (n := ps.length) (by omega) .i64 (p + Z.zag (ps.getD k 0))
  rw [hl] at h4
  rwa [h4] at h3
theorem SmR.done {ps : List Int} {N : Nat} {w wr : World} {k : Nat} {xs : List Int} {p : Int} (h : SmR ps N w wr k xs p) (hk : ps.length <= k) : Z.un 0 ps = some xs := by
 rw [h.1, List.drop_eq_nil_of_le hk, Z.un]; simp
def zpr (b : List Int) (w : World) (e : Ending) (w' : World) : Prop :=
 ∃ v ok, e = .returned (.tuple #[v, .bool ok]) /\ ok = (Z.sums b).isSome /\ w'.ownsRow w.heap.size 3 1 v ((Z.sums b).getD []).length (((Z.sums b).getD []).map (Value.int .i64)) /\ Below w.heap.size w w'
theorem zpr.no {b : List Int} {w w' : World} (h : Z.sums b = none) (hb : Below w.heap.size w w') : zpr b w (.returned (.tuple #[.slice none 0 0, .bool false])) w' := by
 refine ⟨_, _, rfl, ?_, ?_, hb⟩ <;> rw [h]
 ·rfl
 ·exact World.ownsRow_nil _ _ _ _
theorem zqy (a : Option Addr) (len cap : Nat) (L : List Int) (w : World) (hl : L.length = len) (h : zfv .u8 w a cap L) (hn : M.read L = none) : Calls Tryz.prog 186 #[.slice a len cap] w fun e w' =>
  ∃ a' cap' n', e = .returned (.tuple #[.slice a' n' cap', .bool false]) /\ Below w.heap.size w w' :=
 (zom a len cap L w hl h).mono fun e w' ⟨a', cap', n', he, _, _, hb⟩ => ⟨a', cap', n', by rw [he, hn]; rfl, hb⟩
theorem zqb (a : Option Addr) (len cap : Nat) (L ps : List Int) (w : World) (hl : L.length = len) (h : zfv .u8 w a cap L) (hn : M.read L = some ps) : Calls Tryz.prog 186 #[.slice a len cap] w fun e w' =>
  ∃ a' cap' n', e = .returned (.tuple #[.slice a' n' cap', .bool true]) /\ Hid (ps.length = n') /\ Hid (zfv .i64 w' a' cap' ps) /\ Below w.heap.size w w' :=
 (zom a len cap L w hl h).mono fun e w' ⟨a', cap', n', he, h1, h2, hb⟩ => ⟨a', cap', n', by rw [he, hn]; rfl, by rw [hn] at h1; exact h1, by rw [hn] at h2; exact h2, hb⟩
theorem zs9 (a : Option Addr) (len cap : Nat) (L : List Int) (w : World) (hl : L.length = len) (h : zfv .u8 w a cap L) (hn : M.read L = none) :
  Calls Tryz.prog 188 #[.slice a len cap] w (zpr L w) := by
 have HL := Zh hl
 have HR := Zh h
 have HN := Zh hn
 clear hl h hn
 go_enter Tryz.func188, Tryz.ntmps188
 go_wp2_with (go_at_call 186; refine (zqy a len cap L _ HL.out HR.out HN.out).mono ?_; rintro e w1 ⟨a', cap', n', rfl, hb⟩)
 go_ret2
 exact .no (by unfold Z.sums; rw [HN.out]; rfl) hb
theorem zta (a : Option Addr) (len cap : Nat) (L ps : List Int) (w : World) (hl : L.length = len) (h : zfv .u8 w a cap L) (hps : M.read L = some ps) :
  Calls Tryz.prog 188 #[.slice a len cap] w (zpr L w) := by
 obtain ⟨i0, hi, hz0, hz1, hz2⟩ := info_parts zl3
 have h4 := (znc.1 (read_some.1 hps)).1
 have HL := Zh hl
 have HR := Zh h
 have HPS := Zh hps
 have HU : Hid (Z.sums L = Z.un 0 ps) := Zh (by unfold Z.sums; rw [hps]; rfl)
 clear hl h hps
 go_enter Tryz.func188, Tryz.ntmps188
 go_wp2_with fail
 refine (zqb a len cap L ps _ HL.out HR.out HPS.out).mono ?_
 rintro e w1 ⟨a1, cap1, n1, rfl, HL1, HR1, hb1⟩
 have hn1 : n1 <= 400 := by rw [<- HL1.out]; exact h4
 have hs1 := hb1.size
 have HB1 := Zh hb1
 clear hb1 h4
 go_wp2_with (first
  | (at_make; refine wpList_make_row _ rfl _ _ 74 rfl 3 i0 (.int .i64 0) Tryz.underlying74 hi hz0 hz1 rfl .i64 .i64 n1 rfl rfl (by rw [hz2]; omega) (by omega) ?_)
  | (go_at_call 250; refine (zqx _).mono ?_; rintro e w' ⟨rfl, rfl⟩))
 go_loopw [22] (fun i wr => ∃ (k : Nat) (xs : List Int) (p : Int), i = .int .i64 k /\ k <= n1 /\ Hid (SmR ps w1.heap.size w1 wr k xs p)) (fun i _ => n1 - (intOf i).toNat)
 case atStart =>
  refine ⟨0, [], 0, rfl, by omega, Zh ⟨by simp, rfl, by unfold Z.isl; omega, by simp, ?_, ?_, ?_⟩⟩
  ·have := (Blok.new w1 3 (madeCells #[.int .i64 0] n1)).alloc (.cells #[.int .i64 0] 3)
   rw [zoy, HL1.out, <- zoj]
   exact this
  ·have := Blok.new (w1.alloc (.cells (madeCells #[.int .i64 0] n1) 3)) 3 #[.int .i64 0]
   rw [World.size_alloc] at this
   exact this
  ·exact ((Below.refl _ w1).alloc (Nat.le_refl _) _).alloc (by simp) _
 case round =>
  obtain ⟨k, xs, p, rfl, hk, HS⟩ := hrel
  by_cases hlt : k < n1
  ·have hkL : k < ps.length := by rw [HL1.out]; exact hlt
   obtain ⟨b, off, rfl, hb, hc⟩ := zl4 HR1.out hkL
   obtain ⟨n, hn⟩ : ∃ n, ps.getD k 0 = n := ⟨_, rfl⟩
   have hcell : wr.cell? ⟨b, off + k, none⟩ = some (.int .i64 n) := by rw [<- hn]; exact (HS.out.2.2.2.2.2.2.cell (p := ⟨b, off + k, none⟩) hb).trans hc
   have HN := Zh hn
   have HK := Zh hkL
   clear hn hkL hc
   by_cases hg : Z.zig (Z.zag n) = n /\ Z.isl (p + Z.zag n)
   ·have HG := Zh hg
    clear hg
    go_wp2_with (go_at_call 292; refine (zrv n p (w1.heap.size + 1) _ HS.out.2.2.1 HS.out.2.2.2.2.2.1).mono ?_; rintro e w2 ⟨q, ok, rfl, hok, hgr, hq⟩; obtain rfl : ok = true := (by rw [hok]; exact decide_eq_true HG.out); have HQ := Zh (hq rfl); have HGR := Zh hgr; have g1 : w2.cell? ⟨w1.heap.size, k, none⟩ = some (.int .i64 0) := (by rw [(HS.out.2.2.2.2.1.grown HGR.out (by simp)).cell k]; exact zn2 HS.out.2.1 HK.out .i64); have g2 : w2.frozen? ⟨w1.heap.size, k, none⟩ = false := (HS.out.2.2.2.2.1.grown HGR.out (by simp)).frozen k; clear hok hgr hq)
    go_roundw
    case rel => exact ⟨k + 1, xs ++ [q], q, by go_num, by omega, Zh (HS.out.step HK.out (by rw [HN.out]; exact HG.out) (by rw [HN.out]; exact HQ.out.1) HGR.out HQ.out.2)⟩
    case measure => simp [intOf]; omega
   ·have HNo := Zh (HS.out.bad HK.out (by rw [HN.out]; exact hg))
    have HG := Zh hg
    clear hg
    go_wp2_with (go_at_call 292; refine (zrv n p (w1.heap.size + 1) _ HS.out.2.2.1 HS.out.2.2.2.2.2.1).mono ?_; rintro e w2 ⟨q, ok, rfl, hok, hgr, hq⟩; obtain rfl : ok = false := (by rw [hok]; exact decide_eq_false HG.out); have HGR := Zh hgr; have g1 : w2.cell? ⟨w1.heap.size, k, none⟩ = some (.int .i64 0) := (by rw [(HS.out.2.2.2.2.1.grown HGR.out (by simp)).cell k]; exact zn2 HS.out.2.1 HK.out .i64); have g2 : w2.frozen? ⟨w1.heap.size, k, none⟩ = false := (HS.out.2.2.2.2.1.grown HGR.out (by simp)).frozen k; clear hok hgr hq)
    go_ret2
    exact .no (by rw [HU.out]; exact HNo.out) ((HB1.out.trans (HS.out.2.2.2.2.2.2.mono hs1)).trans (((Below.refl w.heap.size wr).grown HGR.out (by have := HS.out.2.2.2.2.1.lt; omega) (fun j e => by cases e; omega)).setCell (by simp; omega) _))
  ·have hkl : k = n1 := by omega
   have HD := Zh (HS.out.done (by rw [HL1.out]; omega))
   have hd : decide (k < n1) = false := by simp; omega
   clear hkl
   go_wp2
   go_ret2
   have hr := HS.out.2.2.2.2.1
   have hl : xs.length = n1 := by have := HS.out.2.1; omega
   rw [zoz (by rw [HL1.out]; omega)] at hr
   refine ⟨_, _, rfl, by rw [HU.out, HD.out]; rfl, ?_, HB1.out.trans (HS.out.2.2.2.2.2.2.mono hs1)⟩
   rw [HU.out, HD.out, Option.getD_some, hl]
   exact hr.own hs1 (by simpa using hl) (Nat.le_refl _) (by unfold maxLen; omega) (by simpa using hl)
theorem zqm (a : Option Addr) (len cap : Nat) (L : List Int) (w : World) (hl : L.length = len) (h : zfv .u8 w a cap L) :
  Calls Tryz.prog 188 #[.slice a len cap] w (zpr L w) := by
 cases hr : M.read L with
 | none => exact zs9 a len cap L w hl h hr
 | some ps => exact zta a len cap L ps w hl h hr
end Go.Proofs.YtnbkkjcmblfhpaaGreat
namespace Go.Proofs.YtnbkkjcmblfhpaaGreat
open Go.RowKit
namespace J
structure Kst (k : Nat) (st : Y.St) (N : List Int) : Prop where
 z : k = 0 -> st = s00
 n : 1 <= k -> 15 <= N.length /\ (∀ x ∈ N, M.isn x) /\ st.d = (stN N).d /\ st.p = (stN N).p /\ st.now = (stN N).now /\ st.ps = (stN N).ps
 l0 : k <= 1 -> st.l = []
 h0 : k <= 3 -> st.h = []
 f : st.ps.length <= 200 /\ st.l.length <= 400 /\ st.h.length <= 400 /\ O.Sm st.ps /\ st.d.b <= 9223372036854775807 /\ st.d.c <= 9223372036854775807
structure Agr (k : Nat) (s st : Y.St) (N : List Int) : Prop where
 n : 1 <= k -> N = nums s
 l2 : k = 2 -> st.l = s.l.map fun x => { x with f := 0 }
 l3 : 3 <= k -> st.l = s.l
 h4 : k = 4 -> st.h = s.h.map fun x => { x with x := 0 }
 h5 : 5 <= k -> st.h = s.h
theorem Kst.start : Kst 0 s00 [] := ⟨fun _ => rfl, fun h => by omega, fun _ => rfl, fun _ => rfl, by simp [s00, O.Sm]⟩
theorem Agr.start (s : Y.St) : Agr 0 s s00 [] := ⟨fun h => by omega, fun h => by omega, fun h => by omega, fun h => by omega, fun h => by omega⟩
theorem Kst.fits {w : World} {b H nn cn k : Nat} {st : Y.St} {A : Y.A9} {an : Option Addr} {N : List Int} (h : Kst k st N) (r : Rd w b H st A an nn cn N) : Y.Fits A st := by
 obtain ⟨h1, h2, h3, h4, h5, h6⟩ := h.f
 exact ⟨by rw [<- r.o.np]; omega, by rw [<- r.o.nl]; omega, by rw [<- r.o.nh]; omega, h4, h5, h6⟩
theorem plsOf_sm : ∀ {r : List Int}, (∀ x ∈ r, M.isn x) -> O.Sm (plsOf r)
 | f :: n :: s :: r, h => by
  intro x hx
  rw [plsOf, List.mem_cons] at hx
  rcases hx with rfl | hx
  ·have := (h f (by simp)).2; show f <= _; omega
  ·exact plsOf_sm (r := r) (fun y hy => h y (by simp [hy])) x hx
 | [], _ => by intro x hx; cases hx
 | [_], _ => by intro x hx; cases hx
 | [_, _], _ => by intro x hx; cases hx
theorem plsOf_le : ∀ r : List Int, 3 * (plsOf r).length <= r.length
 | f :: n :: s :: r => by have := plsOf_le r; rw [plsOf]; simp only [List.length_cons]; omega
 | [] => by simp [plsOf]
 | [_] => by simp [plsOf]
 | [_, _] => by simp [plsOf]
theorem nth_isn {N : List Int} (h : ∀ x ∈ N, M.isn x) (i : Nat) : 0 <= nth N i /\ nth N i <= 1099511627776 := by
 unfold nth
 by_cases hi : i < N.length
 ·have : N.getD i 0 = N[i] := by simp [hi]
  rw [this]; exact h _ (List.getElem_mem hi)
 ·have : N.getD i 0 = 0 := by simp [hi]
  rw [this]; omega
theorem step0 {N : List Int} (h : ∀ x ∈ N, M.isn x) (h15 : 15 <= N.length) (h4 : N.length <= 400) : Kst 1 (stN N) N := by
 have h1 := plsOf_le (N.drop 15)
 rw [List.length_drop] at h1
 refine ⟨fun h => by omega, fun _ => ⟨h15, h, rfl, rfl, rfl, rfl⟩, fun _ => rfl, fun _ => rfl, ?_, by simp [stN], by simp [stN], plsOf_sm (fun x hx => h x (List.mem_of_mem_drop hx)), ?_, ?_⟩
 ·show (plsOf (N.drop 15)).length <= 200; omega
 ·show nth N 0 <= _; have := nth_isn h 0; omega
 ·show nth N 2 <= _; have := nth_isn h 2; omega
theorem agr0 {s : Y.St} : Agr 1 s (stN (nums s)) (nums s) := ⟨fun _ => rfl, fun h => by omega, fun h => by omega, fun h => by omega, fun h => by omega⟩
theorem Kst.at13 {k : Nat} {st : Y.St} {N : List Int} (h : Kst k st N) (hk : 1 <= k) {i : Nat} (hi : i < 15) : ∃ n : Nat, N[i]? = some (n : Int) /\ nth N i = n := by
 obtain ⟨h1, h2, _⟩ := h.n hk
 have hl : i < N.length := by omega
 have := h2 _ (List.getElem_mem hl)
 refine ⟨N[i].toNat, ?_, ?_⟩
 ·rw [List.getElem?_eq_getElem hl, Int.toNat_of_nonneg this.1]
 ·unfold nth; rw [Int.toNat_of_nonneg this.1]; simp [hl]
theorem Kst.l {st : Y.St} {N : List Int} {l : List L.Ls} (h : Kst 1 st N) (hl : l.length <= 400) : Kst 2 { st with l := l } N :=
 ⟨fun h => by omega, fun _ => h.n (by omega), fun h => by omega, fun _ => h.h0 (by omega), h.f.1, hl, h.f.2.2.1, h.f.2.2.2.1, h.f.2.2.2.2⟩
theorem Kst.l' {st : Y.St} {N : List Int} {l : List L.Ls} (h : Kst 2 st N) (hl : l.length = st.l.length) : Kst 3 { st with l := l } N :=
 ⟨fun h => by omega, fun _ => h.n (by omega), fun h => by omega, fun _ => h.h0 (by omega), h.f.1, by show l.length <= 400; rw [hl]; exact h.f.2.1, h.f.2.2.1, h.f.2.2.2.1, h.f.2.2.2.2⟩
theorem Kst.h {st : Y.St} {N : List Int} {l : List L.T3} (h : Kst 3 st N) (hl : l.length <= 400) : Kst 4 { st with h := l } N :=
 ⟨fun h => by omega, fun _ => h.n (by omega), fun h => by omega, fun h => by omega, h.f.1, h.f.2.1, hl, h.f.2.2.2.1, h.f.2.2.2.2⟩
theorem Kst.h' {st : Y.St} {N : List Int} {l : List L.T3} (h : Kst 4 st N) (hl : l.length = st.h.length) : Kst 5 { st with h := l } N :=
 ⟨fun h => by omega, fun _ => h.n (by omega), fun h => by omega, fun h => by omega, h.f.1, h.f.2.1, by show l.length <= 400; rw [hl]; exact h.f.2.2.1, h.f.2.2.2.1, h.f.2.2.2.2⟩
theorem nums13 (s : Y.St) : nth (nums s) 13 = s.l.length /\ nth (nums s) 14 = s.h.length /\ nth (nums s) 12 = s.now := ⟨rfl, rfl, rfl⟩
theorem mkL_lN {x : L.Ls} {now : Int} (h : (0 <= x.s /\ x.s < 32) /\ (0 <= x.a /\ x.a < 4) /\ (0 <= x.b /\ x.b < 8)) (ht : x.t = now) : mkL now (lN x) = { x with f := 0 } := by
 obtain ⟨s, a, b, f, t⟩ := x
 dsimp only at h ht
 subst ht
 unfold mkL lN
 dsimp only
 congr 1 <;> omega
theorem mkH_hN {x : L.T3} (h : (0 <= x.a /\ x.a < 4) /\ (0 <= x.b /\ x.b < 8)) : mkH (hN x) = { x with x := 0 } := by
 obtain ⟨a, b, t⟩ := x
 dsimp only at h
 unfold mkH hN
 dsimp only
 congr 1 <;> omega
theorem agr1 {s st : Y.St} {N P : List Int} (h : Agr 1 s st N) (hk : ok s) (hn : st.now = nth N 12) (hP : P = (pt2 s).getD []) {n : Nat} (hn13 : nth N 13 = n) : (K.unpack P n 10).isSome = true /\ Agr 2 s { st with l := ((K.unpack P n 10).getD []).map (mkL st.now) } N := by
 have hN := h.n (Nat.le_refl _)
 have e1 := pt2_yes hk.1
 rw [<- hP] at e1
 have hnl : s.l.length = n := by rw [hN, (nums13 s).1] at hn13; exact_mod_cast hn13
 have hu : K.unpack P n 10 = some (s.l.map lN) := (K.unpack_some (show K.isd 256 P by have h0 := K.pack_byte (L := s.l.map lN) (w := 10); rw [show K.pack (s.l.map lN) 10 = some P from e1] at h0; exact h0)).2 ⟨e1, by rw [List.length_map, hnl]⟩
 rw [hu]
 refine ⟨rfl, fun _ => hN, fun _ => ?_, fun h => by omega, fun h => by omega, fun h => by omega⟩
 show ((s.l.map lN).map (mkL st.now)) = _
 rw [List.map_map]
 refine List.map_congr_left fun x hx => ?_
 obtain ⟨i1, i2, i3, _⟩ := ls_in hk.1 hx
 exact mkL_lN ⟨i1, i2, i3⟩ (by rw [hk.2 x hx, hn, hN, (nums13 s).2.2])
theorem agr3 {s st : Y.St} {N P : List Int} (h : Agr 3 s st N) (hk : ok s) (hP : P = (pt4 s).getD []) {n : Nat} (hn14 : nth N 14 = n) : (K.unpack P n 5).isSome = true /\ Agr 4 s { st with h := ((K.unpack P n 5).getD []).map mkH } N := by
 have hN := h.n (by omega)
 have e1 := pt4_yes hk.1
 rw [<- hP] at e1
 have hnl : s.h.length = n := by rw [hN, (nums13 s).2.1] at hn14; exact_mod_cast hn14
 have hu : K.unpack P n 5 = some (s.h.map J.hN) := (K.unpack_some (show K.isd 256 P by have h0 := K.pack_byte (L := (s.h.map J.hN)) (w := 5); rw [show K.pack (s.h.map J.hN) 5 = some P from e1] at h0; exact h0)).2 ⟨e1, by rw [List.length_map, hnl]⟩
 rw [hu]
 refine ⟨rfl, fun _ => hN, fun h => by omega, fun _ => h.l3 (by omega), fun _ => ?_, fun h => by omega⟩
 show ((s.h.map J.hN).map mkH) = _
 rw [List.map_map]
 refine List.map_congr_left fun x hx => ?_
 obtain ⟨i1, i2, _⟩ := hd_in hk.1 hx
 exact mkH_hN ⟨i1, i2⟩
theorem agr2 {s st : Y.St} {N P : List Int} (h : Agr 2 s st N) (hk : ok s) (hP : P = (pt3 s).getD []) : Z.sums P = some (s.l.map fun x => x.f) /\ (s.l.map fun x => x.f).length = st.l.length /\ Agr 3 s { st with l := fm st.l (s.l.map fun x => x.f) st.l.length } N := by
 have e1 := pt3_yes hk.1
 rw [<- hP] at e1
 have hl := h.l2 rfl
 have hlen : st.l.length = s.l.length := by rw [hl, List.length_map]
 refine ⟨Z.sums_some.2 e1, by rw [List.length_map, hlen], fun _ => h.n (by omega), fun h => by omega, fun _ => ?_, fun h => by omega, fun h => by omega⟩
 show fm st.l _ st.l.length = s.l
 rw [hlen]
 exact fm_all hl
theorem agr4 {s st : Y.St} {N P : List Int} (h : Agr 4 s st N) (hk : ok s) (hP : P = (pt5 s).getD []) : Z.sums P = some (s.h.map fun x => x.x) /\ (s.h.map fun x => x.x).length = st.h.length /\ Agr 5 s { st with h := hm st.h (s.h.map fun x => x.x) st.h.length } N := by
 have e1 := pt5_yes hk.1
 rw [<- hP] at e1
 have hl := h.h4 rfl
 have hlen : st.h.length = s.h.length := by rw [hl, List.length_map]
 refine ⟨Z.sums_some.2 e1, by rw [List.length_map, hlen], fun _ => h.n (by omega), fun h => by omega, fun _ => h.l3 (by omega), fun h => by omega, fun _ => ?_⟩
 show hm st.h _ st.h.length = s.h
 rw [hlen]
 exact hm_all hl
theorem agr_end {s st : Y.St} {N : List Int} {k : Nat} (h5 : 5 <= k) (hk : Kst k st N) (h : Agr k s st N) : st = s := by
 obtain ⟨_, _, h1, h2, h3, h4⟩ := hk.n (by omega)
 have h5' := h.l3 (by omega)
 have h6 := h.h5 h5
 rw [h.n (by omega), stN_nums] at h1 h2 h3 h4
 obtain ⟨d, p, now, ps, l, hh⟩ := st
 dsimp only at h1 h2 h3 h4 h5' h6
 rw [h1, h2, h3, h4, h5', h6]
end J
end Go.Proofs.YtnbkkjcmblfhpaaGreat
