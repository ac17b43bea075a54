import Derived.Deep.AppendLies
import Derived.Deep.RegionLaw
import Derived.Deep.Cut
import Derived.Deep.CutRange
import Derived.Deep.RegionWith
import Derived.Test.YtijkbflimbffmaaGreatP11
import Derived.Test.YtijkbflimbffmaaGreatP0
import Derived.Test.YtijkbflimbffmaaGreatP6
import Derived.Test.YtijkbflimbffmaaGreatP10
namespace Go.Proofs.YtijkbflimbffmaaGreat
set_option maxHeartbeats 600000
set_option maxRecDepth 100000
open Go.RowKit
def BIn (w : World) (a : Option Addr) (n c : Nat) (L : List Int) : Prop := L.length = n /\ zfv .i64 w a c L
theorem BIn.below {w w' : World} {a : Option Addr} {n c : Nat} {L : List Int} (h : BIn w a n c L) (hb : Below w.heap.size w w') : BIn w' a n c L := ⟨h.1, h.2.below hb⟩
theorem BIn.at {w : World} {a : Option Addr} {n c i : Nat} {L : List Int} (h : BIn w a n c L) (hi : i < n) : ∃ b off x, a = some ⟨b, off, none⟩ /\ b < w.heap.size /\ L[i]? = some x /\ w.cell? ⟨b, off + i, none⟩ = some (.int .i64 x) := by
 have h0 : i < L.length := by rw [h.1]; exact hi
 obtain ⟨b, off, h1, h2, h3⟩ := zl4 h.2 h0
 refine ⟨b, off, L[i], h1, h2, List.getElem?_eq_getElem h0, ?_⟩
 rw [h3, List.getD_eq_getElem?_getD, List.getElem?_eq_getElem h0]; rfl
def O.clo2 (b b' : Nat) : Value := .func (.func 231) #[] #[.pointer (some ⟨b, 0, none⟩), .pointer (some ⟨b', 0, none⟩)]
def O.lose (p q : O.Pl) (x : Int) : Bool := O.has p x && !O.has q x
theorem ziq (p q : O.Pl) (x : Int) (v : Bool) (hv : O.lose p q x = v) (w : World) (b b' : Nat) (hb : O.Bx w b p) (hb' : O.Bx w b' q) :
  Calls Tryz.prog 231 #[.int .i64 x, .pointer (some ⟨b, 0, none⟩), .pointer (some ⟨b', 0, none⟩)] w fun e w' => e = .returned (.bool v) /\ Below w.heap.size w w' := by
 have HV := Zh hv
 have HP := Zh hb
 have HQ := Zh hb'
 have p0 := hb.b0
 have p1 := hb.b1
 have p2 := hb.b2
 obtain ⟨u1, hu1⟩ : ∃ u, O.has p x = u := ⟨_, rfl⟩
 obtain ⟨u2, hu2⟩ : ∃ u, O.has q x = u := ⟨_, rfl⟩
 have HU : Hid (v = (u1 && !u2)) := Zh (by rw [<- HV.out, <- hu1, <- hu2]; rfl)
 have c1 := zcq p x u1 w hu1
 have U2 := Zh hu2
 unfold O.val at c1
 clear hv hb hb' hu1 hu2
 go_enter Tryz.func231, Tryz.ntmps231
 go_wp2_with fail
 refine c1.mono ?_
 rintro e w1 ⟨rfl, hb1⟩
 have HP1 := Zh (HP.out.on hb1)
 have HQ1 := Zh (HQ.out.on hb1)
 clear p0 p1 p2 c1
 cases u1 with
 | false =>
  go_wp2
  go_ret
  exact ⟨by rw [HU.out]; rfl, hb1⟩
 | true =>
  have c2 := zcq q x u2 w1 U2.out
  have q0 := HQ1.out.b0
  have q1 := HQ1.out.b1
  have q2 := HQ1.out.b2
  have HB1 := Zh hb1
  unfold O.val at c2
  clear hb1
  go_wp2_with fail
  refine c2.mono ?_
  rintro e w2 ⟨rfl, hb2⟩
  have HB2 := Zt HB1 hb2
  clear hb2
  cases u2 with
  | true =>
   go_wp2
   go_ret
   exact ⟨by rw [HU.out]; rfl, HB2.out⟩
  | false =>
   go_wp2
   go_ret
   exact ⟨by rw [HU.out]; rfl, HB2.out⟩
theorem O.anyi_snoc {f : Int -> Bool} {l : List Int} {j : Nat} {x : Int} (hx : l[j]? = some x) (h : ∀ q ∈ l.take j, f q = false) (h2 : f x = false) : ∀ q ∈ l.take (j + 1), f q = false := by
 intro q hq
 obtain ⟨h0, h1⟩ := List.getElem?_eq_some_iff.1 hx
 rw [List.take_succ_eq_append_getElem h0, List.mem_append, List.mem_singleton, h1] at hq
 rcases hq with hq | rfl
 ·exact h q hq
 ·exact h2
theorem O.anyi_yes {f : Int -> Bool} {l : List Int} {j : Nat} {x : Int} (hx : l[j]? = some x) (h : f x = true) : l.any f = true :=
 List.any_eq_true.2 ⟨x, List.mem_of_getElem? hx, h⟩
theorem O.anyi_no {f : Int -> Bool} {l : List Int} (h : ∀ q ∈ l, f q = false) : l.any f = false := by
 rw [Bool.eq_false_iff]; intro h1
 obtain ⟨x, hx, h2⟩ := List.any_eq_true.1 h1
 rw [h x hx] at h2; cases h2
theorem zkb (a : Option Addr) (n c : Nat) (l : List Int) (p q : O.Pl) (b b' : Nat) (v : Bool) (hv : l.any (O.lose p q) = v) (w : World) (h : BIn w a n c l) (hb : O.Bx w b p) (hb' : O.Bx w b' q) (hn : n <= 1000000) :
  Calls Tryz.prog 233 #[.slice a n c, O.clo2 b b'] w fun e w' => (∃ r : Int, e = .returned (.int .i64 r) /\ Hid (decide (0 <= r) = v)) /\ Below w.heap.size w w' := by
 have HT := Zh h
 have HV := Zh hv
 have HP := Zh hb
 have HQ := Zh hb'
 clear h hv hb hb'
 unfold O.clo2
 go_enter Tryz.func233, Tryz.ntmps233
 go_wp2_with fail
 go_loopw [8] (fun i wr => ∃ j : Nat, i = .int .i64 j /\ j <= n /\ Hid (∀ q' ∈ l.take j, O.lose p q q' = false) /\ Hid (Below w.heap.size w wr)) (fun i _ => n - (intOf i).toNat)
 case atStart => exact ⟨0, rfl, by omega, Zh (by simp), Zh (Below.refl _ _)⟩
 case round =>
  obtain ⟨j, rfl, hjn, HA, HB⟩ := hrel
  by_cases hlt : j < n
  ·have d1 : decide ((j : Int) < n) = true := by simp; omega
   obtain ⟨bb, off, x, rfl, hbl, hx, p0⟩ := (HT.out.below HB.out).at hlt
   have HX := Zh hx
   have j0 : (0 : Int) <= j := by omega
   have j1 : (j : Int) < n := by omega
   have HPr := Zh (HP.out.on HB.out)
   have HQr := Zh (HQ.out.on HB.out)
   obtain ⟨u, hu⟩ : ∃ u, O.lose p q x = u := ⟨_, rfl⟩
   have HU := Zh hu
   have c1 := ziq p q x u hu wr b b' HPr.out HQr.out
   clear hu hx
   go_wp2_with fail
   refine c1.mono ?_
   rintro e w2 ⟨rfl, hb2⟩
   have HB2 := Zt HB hb2
   clear hb2 c1
   cases u with
   | true =>
    go_wp2
    go_ret
    exact ⟨⟨j, rfl, Zh (by rw [<- HV.out, O.anyi_yes HX.out HU.out]; simp)⟩, HB2.out⟩
   | false =>
    go_wp2
    go_roundw
    case rel => exact ⟨j + 1, by go_num, by omega, Zh (O.anyi_snoc HX.out HA.out HU.out), HB2⟩
    case measure => simp [intOf] <;> omega
  ·have d1 : decide ((j : Int) < n) = false := by simp; omega
   have HE : Hid (v = false) := Zh (by
    rw [<- HV.out]
    have h1 := HA.out
    rw [List.take_of_length_le (by rw [HT.out.1]; omega)] at h1
    exact O.anyi_no h1)
   go_wp2
   go_ret
   exact ⟨⟨-1, rfl, Zh (by rw [HE.out]; decide)⟩, HB.out⟩
theorem zir (a : Option Addr) (n c : Nat) (l : List Int) (p q : O.Pl) (b b' : Nat) (v : Bool) (hv : l.any (O.lose p q) = v) (w : World) (h : BIn w a n c l) (hb : O.Bx w b p) (hb' : O.Bx w b' q) (hn : n <= 1000000) :
  Calls Tryz.prog 186 #[.slice a n c, O.clo2 b b'] w fun e w' => e = .returned (.bool v) /\ Below w.heap.size w w' := by
 have c1 := zkb a n c l p q b b' v hv w h hb hb' hn
 unfold O.clo2 at c1 ⊢
 clear h hb hv hb'
 go_enter Tryz.func186, Tryz.ntmps186
 go_wp2_with fail
 refine c1.mono ?_
 rintro e w2 ⟨⟨r, rfl, hr⟩, hb2⟩
 go_wp2
 go_ret
 exact ⟨by rw [hr.out]; rfl, hb2⟩
theorem zcs (p q : O.Pl) (a : Option Addr) (n c : Nat) (l : List Int) (v : Bool) (hv : O.loses p q l = v) (w : World) (h : BIn w a n c l) (hn : n <= 1000000) :
  Calls Tryz.prog 177 #[O.val p, O.val q, .slice a n c] w fun e w' => e = .returned (.bool v) /\ Below w.heap.size w w' := by
 have HB1 := Zh (O.box_below w p)
 have HP := Zh ((O.box_is w p).on (O.box_below _ q))
 have HQ := Zh (O.box_is (O.box w p) q)
 have HB := Zh (HB1.out.trans ((O.box_below (O.box w p) q).mono HB1.out.size))
 have hsz := O.box_size w p
 obtain ⟨W, hW⟩ : ∃ W, O.box (O.box w p) q = W := ⟨_, rfl⟩
 rw [hW] at HP HQ HB
 rw [hsz] at HQ
 have c1 := zir a n c l p q w.heap.size (w.heap.size + 1) v hv W (h.below HB.out) HP.out HQ.out hn
 unfold O.box at hW
 unfold O.clo2 at c1
 unfold O.val
 clear h hv hsz
 go_enter Tryz.func177, Tryz.ntmps177
 go_wp2_with fail
 refine c1.mono ?_
 rintro e w2 ⟨rfl, hb2⟩
 go_wp2
 go_ret
 exact ⟨rfl, HB.out.trans (hb2.mono HB.out.size)⟩
open Go.RowKit
theorem zer : ∃ i, Tryz.prog.info? 111 = some i /\ i.zero = some (.agg #[.int .i64 0, .int .i64 0, .int .i64 0]) /\ i.size = 3 /\ i.bytes = 24 := info_parts zip
theorem zis {w : World} {nb : Nat} {x : O.Pl} (hb : O.Bx w nb x) (j : Nat) (u : Value) (hj : (O.cells x)[j]? = some u) : w.cell? ((⟨nb, 0, none⟩ : Addr).add j) = some u := by
 rw [WideShapes.add_plain, Blok.cell hb, Nat.zero_add]
 simpa [O.cells] using hj
theorem zar {w : World} {ops : Array Oper} {rest : List Oper} {o : Oper} {a : Act} {Q : Exit -> Act -> World -> Prop} (hgd : o.guard = none) (s x : Operand)
  (ho : o.op = .call { callee := .builtin .append, args := #[s, x], argTypes := #[28, 28] })
  (B : Nat) (v : Value) (p : Nat) (l : List O.Pl) (tm : O.Pl) (hs : a.eval s = v) (hown : w.ownsRow B 111 3 v p (O.flat l)) (nb : Nat) (hx : a.eval x = .slice (some ⟨nb, 0, none⟩) 1 1) (hb : O.Bx w nb tm) (hp : p <= 10000) (hB : B <= w.heap.size)
  (h : ∀ g cap w', w'.ownsRow B 111 3 (.slice (some ⟨g, 0, none⟩) (p + 1) cap) (p + 1) (O.flat (l ++ [tm])) -> w.grownBy w' v.ownBlock -> (v.ownBlock = some g \/ g = w.heap.size) -> g < w'.heap.size -> wpList Tryz.prog ops Q rest (a.put o.dst (.slice (some ⟨g, 0, none⟩) (p + 1) cap)) w') :
  wpList Tryz.prog ops Q (o :: rest) a w := by
 obtain ⟨i0, hi, hz0, hz1, hz2⟩ := zer
 exact wpList_append_lies w hgd s x 28 ho B 111 i0 _ 3 24 Tryz.underlying28 hi hz0 hz1 hz2 rfl (by decide) v p (O.flat l) hs hown ⟨nb, 0, none⟩ 1 1 (O.cells tm) hx rfl (zis hb) (by intro u hu; simp [O.cells] at hu; rcases hu with rfl | rfl | rfl <;> rfl) (by decide) (by unfold maxLen; omega) (by omega) hB w.heap.size rfl
  (fun g cap w' h1 h2 h3 h4 => h g cap w' (by rw [O.flat_append]; exact h1) h2 h3 h4)
theorem zkc {w : World} {g B : Nat} (h : Blok w g 111 #[]) (hB : B <= g) : w.ownsRow B 111 3 (.slice (some ⟨g, 0, none⟩) 0 0) 0 [] :=
 ⟨rfl, .inr ⟨g, 0, #[], rfl, hB, h, Nat.le_refl _, by simp [maxLen], rfl, rfl⟩⟩
theorem zdp {w : World} {ops : Array Oper} {rest : List Oper} {o : Oper} {a : Act} {Q : Exit -> Act -> World -> Prop} (hgd : o.guard = none) (s x : Operand)
  (ho : o.op = .call { callee := .builtin .append, args := #[s, x], argTypes := #[28, 28] })
  (B : Nat) (v : Value) (n : Nat) (l : List O.Pl) (hs : a.eval s = v) (hown : w.ownsRow B 111 3 v n (O.flat l))
  (ad : Option Addr) (m c : Nat) (k : List O.Pl) (hx : a.eval x = .slice ad m c) (hd : QIn w ad m c k) (h63 : n + m <= 1000000) (hB : B <= w.heap.size)
  (h : ∀ v' w', w'.ownsRow B 111 3 v' (n + m) (O.flat (l ++ k)) -> w.grownBy w' v.ownBlock -> wpList Tryz.prog ops Q rest (a.put o.dst v') w') : wpList Tryz.prog ops Q (o :: rest) a w := by
 obtain ⟨i0, hi, hz0, hz1, hz2⟩ := zer
 cases ad with
 | none =>
  obtain ⟨rfl, rfl⟩ := hd.2.2.1 rfl
  obtain rfl : k = [] := List.eq_nil_of_length_eq_zero hd.1
  exact wpList_append_own_none hgd s x 28 ho B 111 i0 3 Tryz.underlying28 hi v n (O.flat l) hs hown hx (h v w (by simpa using hown) ⟨rfl, rfl, rfl, Nat.le_refl _, fun _ _ _ => rfl⟩)
 | some ad =>
  refine wpList_append_own w hgd s x 28 ho B 111 i0 _ 3 24 Tryz.underlying28 hi hz0 hz1 hz2 rfl (by decide) v n (O.flat l) hs hown ad m c (O.flat k) hx (by rw [O.flat_len, hd.1]) (fun j u hj => ?_) (O.flat_one k) (by unfold maxLen; omega) (by omega) hB (fun v' w' h1 h2 _ => h v' w' (by rw [O.flat_append]; exact h1) h2)
  obtain ⟨i, y, hy, hju⟩ := O.flat_some hj
  rcases hd.2.2.2 with rfl | ⟨b, off, he, _, hc⟩
  ·simp at hy
  ·cases he
   rw [WideShapes.add_plain]
   obtain ⟨h1, h2, h3⟩ := hc i y hy
   rcases hju with ⟨rfl, rfl⟩ | ⟨rfl, rfl⟩ | ⟨rfl, rfl⟩
   ·exact h1
   ·rw [<- Nat.add_assoc]; exact h2
   ·rw [<- Nat.add_assoc]; exact h3
theorem zes (a : Option Addr) (n c : Nat) (l : List O.Pl) (w : World) (hn : n <= 1000) (hd : QIn w a n c l) :
  Calls Tryz.prog 71 #[.slice a n c] w fun e w' => ∃ v, e = .returned v /\ Hid (w'.ownsRow w.heap.size 111 3 v n (O.flat l)) /\ Below w.heap.size w w' := by
 have HD := Zh hd
 cases a with
 | none =>
  obtain ⟨rfl, rfl⟩ := hd.2.2.1 rfl
  obtain rfl : l = [] := List.eq_nil_of_length_eq_zero hd.1
  clear hd
  have he : ∀ w : World, (binOp .eql 28 (.slice none 0 0) (.slice none 0 0)).run Tryz.prog w = .ok (.bool true) w := fun _ => by kernel_rfl
  go_enter Tryz.func71, Tryz.ntmps71
  go_wp2
  go_ret
  exact ⟨_, rfl, Zh (World.ownsRow_nil _ _ _ _), Below.refl _ _⟩
 | some x =>
  clear hd
  have he : ∀ w : World, (binOp .eql 28 (.slice (some x) n c) (.slice none 0 0)).run Tryz.prog w = .ok (.bool false) w := fun _ => by kernel_rfl
  go_enter Tryz.func71, Tryz.ntmps71
  go_wp2_with (at_builtin; refine zdp rfl _ _ rfl w.heap.size _ 0 [] rfl (zkc (Blok.new w 111 #[]) (Nat.le_refl _)) (some x) n c l rfl (HD.out.below ((Below.refl _ w).alloc (Nat.le_refl _) _)) (by omega) (by simp) ?_; intro v' w2 hown' hgrow)
  go_ret
  rw [Nat.zero_add] at hown'
  exact ⟨v', rfl, Zh (by simpa using hown'), ((Below.refl _ w).alloc (Nat.le_refl _) _).grown hgrow (by simp) (fun k ek => by cases ek; exact Nat.le_refl _)⟩
open Go.RowKit
def O.turn (what k n : Int) (i : Nat) (x : O.Pl) : List O.Pl :=
 if (i : Int) = k then (if what = 1 then [{ x with s := 1 }] else if what = 2 then [{ x with n := n }] else if what = 3 then [] else [x]) else [x]
def O.runTo (what k n : Int) (l : List O.Pl) : Nat -> List O.Pl
 | 0 => []
 | j + 1 => O.runTo what k n l j ++ (match l[j]? with | some x => O.turn what k n j x | none => [])
theorem O.runTo_next {what k n : Int} {l : List O.Pl} {j : Nat} {x : O.Pl} (h : l[j]? = some x) : O.runTo what k n l (j + 1) = O.runTo what k n l j ++ O.turn what k n j x := by
 rw [O.runTo, h]
theorem O.turn_ne {what k n : Int} {i : Nat} {x : O.Pl} (h : ¬ (i : Int) = k) : O.turn what k n i x = [x] := by unfold O.turn; rw [if_neg h]
theorem O.runTo_take {what k n : Int} {l : List O.Pl} (h : ∀ (i : Nat) (x : O.Pl), O.turn what k n i x = [x]) : ∀ j, j <= l.length -> O.runTo what k n l j = l.take j
 | 0, _ => by simp [O.runTo]
 | j + 1, hj => by
  have hx := List.getElem?_eq_getElem (show j < l.length by omega)
  rw [O.runTo_next hx, O.runTo_take h j (by omega), h, List.take_succ_eq_append_getElem (by omega)]
theorem O.run0 (k n : Int) (l : List O.Pl) : O.runTo 0 k n l l.length = l := by
 rw [O.runTo_take (fun i x => by unfold O.turn; split <;> rfl) l.length (Nat.le_refl _), List.take_length]
theorem O.run_set {what n : Int} {k : Nat} {l : List O.Pl} {y : O.Pl} (hk : k < l.length) (h : O.turn what k n k l[k] = [y]) : ∀ j, j <= l.length -> O.runTo what k n l j = (l.set k y).take j
 | 0, _ => by simp [O.runTo]
 | j + 1, hj => by
  have hx := List.getElem?_eq_getElem (show j < l.length by omega)
  rw [O.runTo_next hx, O.run_set hk h j (by omega), List.take_succ_eq_append_getElem (by simp; omega)]
  congr 1
  by_cases e : j = k
  ·subst e; rw [h]; simp
  ·rw [O.turn_ne (by omega), List.getElem_set_ne (Ne.symm e)]
theorem O.run1 {k : Int} (n : Int) {l : List O.Pl} (h0 : 0 <= k) (h1 : k < l.length) : O.runTo 1 k n l l.length = l.set k.toNat { O.at' l k with s := 1 } := by
 obtain ⟨m, rfl⟩ : ∃ m : Nat, k = m := ⟨k.toNat, by omega⟩
 have hm : m < l.length := by omega
 rw [Int.toNat_natCast, O.at_some (List.getElem?_eq_getElem hm), O.run_set hm (y := { l[m] with s := 1 }) (by unfold O.turn; rw [if_pos rfl, if_pos rfl]) l.length (Nat.le_refl _)]
 rw [List.take_of_length_le (by simp)]
theorem O.run2 {k n : Int} {l : List O.Pl} (h0 : 0 <= k) (h1 : k < l.length) : O.runTo 2 k n l l.length = l.set k.toNat { O.at' l k with n := n } := by
 obtain ⟨m, rfl⟩ : ∃ m : Nat, k = m := ⟨k.toNat, by omega⟩
 have hm : m < l.length := by omega
 rw [Int.toNat_natCast, O.at_some (List.getElem?_eq_getElem hm), O.run_set hm (y := { l[m] with n := n }) (by unfold O.turn; rw [if_pos rfl, if_neg (by decide), if_pos rfl]) l.length (Nat.le_refl _)]
 rw [List.take_of_length_le (by simp)]
theorem O.run3_aux {n : Int} {k : Nat} {l : List O.Pl} : ∀ j, j <= l.length -> O.runTo 3 k n l j = (l.take j).eraseIdx k
 | 0, _ => by simp [O.runTo]
 | j + 1, hj => by
  have hx := List.getElem?_eq_getElem (show j < l.length by omega)
  rw [O.runTo_next hx, O.run3_aux j (by omega), List.take_succ_eq_append_getElem (by omega)]
  by_cases e : j = k
  ·subst e
   have e1 : O.turn 3 j n j l[j] = [] := by unfold O.turn; rw [if_pos rfl, if_neg (by decide), if_neg (by decide), if_pos rfl]
   rw [e1, List.append_nil, List.eraseIdx_of_length_le (by simp; omega), List.eraseIdx_append_of_length_le (by simp; omega)]
   simp [Nat.min_eq_left (show j <= l.length by omega)]
  ·rw [O.turn_ne (by omega)]
   by_cases h2 : k < j
   ·rw [List.eraseIdx_append_of_lt_length (by simp; omega)]
   ·rw [List.eraseIdx_of_length_le (by simp; omega), List.eraseIdx_append_of_length_le (by simp; omega)]
    simp only [List.length_take, Nat.min_eq_left (show j <= l.length by omega)]
    rw [List.eraseIdx_of_length_le (by simp; omega)]
theorem O.run3 {k : Int} (n : Int) {l : List O.Pl} (h0 : 0 <= k) : O.runTo 3 k n l l.length = l.eraseIdx k.toNat := by
 obtain ⟨m, rfl⟩ : ∃ m : Nat, k = m := ⟨k.toNat, by omega⟩
 rw [Int.toNat_natCast, O.run3_aux l.length (Nat.le_refl _), List.take_length]
theorem O.base {w : World} {B e sz n : Nat} {v : Value} {xs : List Value} (h : w.ownsRow (B + 1) e sz v n xs) : w.ownsRow B e sz v n xs := by
 refine ⟨h.1, ?_⟩
 rcases h.2 with hn | ⟨g, cap, cur, rfl, hb', rest⟩
 ·exact .inl hn
 ·exact .inr ⟨g, cap, cur, rfl, by omega, rest⟩
theorem O.grown_set (w : World) (b i : Nat) (u : Value) : w.grownBy (w.setCell ⟨b, i, none⟩ u) (some b) :=
 ⟨rfl, rfl, rfl, by simp, fun k _ hk => Below.heap_setCell w ⟨b, i, none⟩ u k (fun e => hk (by simp [e]))⟩
theorem O.set1 {w : World} {b : Nat} {x : O.Pl} (h : O.Bx w b x) (n : Int) : O.Bx (w.setCell ⟨b, 1, none⟩ (.int .i64 n)) b { x with n := n } := by
 have := Blok.set h 1 (.int .i64 n); simpa [O.Bx] using this
theorem O.set2 {w : World} {b : Nat} {x : O.Pl} (h : O.Bx w b x) (n : Int) : O.Bx (w.setCell ⟨b, 2, none⟩ (.int .i64 n)) b { x with s := n } := by
 have := Blok.set h 2 (.int .i64 n); simpa [O.Bx] using this
def O.tk (w : World) (t k f n : Int) : World := w.alloc (.cells #[.int .i64 t, .int .i64 k, .int .i64 f, .int .i64 n] 195)
theorem O.tk_below (w : World) (t k f n : Int) : Below w.heap.size w (O.tk w t k f n) := (Below.refl _ w).alloc (Nat.le_refl _) _
theorem O.tk_is (w : World) (t k f n : Int) : Blok (O.tk w t k f n) w.heap.size 195 #[.int .i64 t, .int .i64 k, .int .i64 f, .int .i64 n] := Blok.new _ _ _
theorem zit (a : Option Addr) (n c : Nat) (l : List O.Pl) (k f n' : Int) (w : World) (h : QIn w a n c l) (hn : n <= 1000) :
  Calls Tryz.prog 175 #[.slice a n c, .agg #[.int .i64 0, .int .i64 k, .int .i64 f, .int .i64 n']] w fun e w' => ∃ v q, e = .returned v /\ (O.runTo 0 k n' l n ++ [(⟨f, n', 0⟩ : O.Pl)]).length = q /\ Hid (w'.ownsRow w.heap.size 111 3 v q (O.flat (O.runTo 0 k n' l n ++ [(⟨f, n', 0⟩ : O.Pl)]))) /\ Below w.heap.size w w' := by
 have HT := Zh h
 have HB0 := Zh (O.tk_below w 0 k f n')
 have HK0 := Zh (O.tk_is w 0 k f n')
 obtain ⟨W0, hW0⟩ : ∃ W, O.tk w 0 k f n' = W := ⟨_, rfl⟩
 rw [hW0] at HB0 HK0
 unfold O.tk at hW0
 clear h
 go_enter Tryz.func175, Tryz.ntmps175
 go_wp2_with fail
 go_step3
 go_wp2_with fail
 go_step3
 go_wp2_with fail
 clear hW0
 go_loopw [5, 10] (fun s5 s10 wx => ∃ (v : Value) (j q : Nat), v = s5 /\ s10 = .int .i64 j /\ j <= n /\ q <= j /\ Hid ((O.runTo 0 k n' l j).length = q) /\ Hid (wx.ownsRow (w.heap.size + 1) 111 3 v q (O.flat (O.runTo 0 k n' l j))) /\ Hid (Blok wx w.heap.size 195 #[.int .i64 0, .int .i64 k, .int .i64 f, .int .i64 n']) /\ Hid (Below w.heap.size w wx)) (fun _ i _ => n - (intOf i).toNat)
 case atStart => exact ⟨_, 0, 0, rfl, by go_num, by omega, by omega, Zh rfl, Zh (World.ownsRow_nil _ _ _ _), HK0, HB0⟩
 case round =>
  obtain ⟨v, j, q, rfl, rfl, hjn, hqj, HQ, HO, HKx, HBx⟩ := hrel
  by_cases hlt : j < n
  ·have dj : decide ((j : Int) < n) = true := by simp; omega
   obtain ⟨b, off, x, rfl, hbl, hx, p0, p1, p2⟩ := (HT.out.below HBx.out).at hlt
   have HX := Zh hx
   have j0 : (0 : Int) <= j := by omega
   have j1 : (j : Int) < n := by omega
   have TB := Zh (O.box_below wr x)
   have TK := Zh (O.box_is wr x)
   have HBt := Zh (HBx.out.trans (TB.out.mono HBx.out.size))
   have HOt := Zh (zab HO.out TB.out)
   have HKt := Zh (HKx.out.alloc (.cells #[.int .i64 x.f, .int .i64 x.n, .int .i64 x.s] 111))
   have hsn := O.runTo_next (what := 0) (k := k) (n := n') hx
   clear hx
   obtain ⟨acc, hacc⟩ : ∃ acc, O.runTo 0 k n' l j = acc := ⟨_, rfl⟩
   rw [hacc] at HQ HOt hsn
   have hqa : acc.length = q := HQ.out
   clear hacc
   go_upto_region 5 with fail
   obtain ⟨W, hW⟩ : ∃ V, wr.alloc (.cells #[.int .i64 x.f, .int .i64 x.n, .int .i64 x.s] 111) = V := ⟨_, rfl⟩
   have HOV : Hid (W.ownsRow (w.heap.size + 1) 111 3 v q (O.flat acc)) := Zh (by rw [<- hW]; exact HOt.out)
   have HBV : Hid (Below w.heap.size w W) := Zh (by rw [<- hW]; exact HBt.out)
   have HXV : Hid (O.Bx W wr.heap.size x) := Zh (by rw [<- hW]; exact TK.out)
   have HKV : Hid (Blok W w.heap.size 195 #[.int .i64 0, .int .i64 k, .int .i64 f, .int .i64 n']) := Zh (by rw [<- hW]; exact HKt.out)
   have HLT := Zh (HO.out)
   rw [hW]
   clear hW p0 p1 p2 TB TK HBt HOt HKt
   have k0 := Zv HKV.out 0 (.int .i64 0)
   have k1 := Zv HKV.out 1 (.int .i64 k)
   have k3 := Zv HKV.out 3 (.int .i64 n')
   by_cases hjk : (j : Int) = k
   ·have e1 : ((j : Int) == k) = true := by simpa using hjk
    have HS2 : Hid (O.runTo 0 k n' l (j + 1) = acc ++ [x]) := Zh (by rw [hsn]; unfold O.turn; rw [if_pos hjk, if_neg (by decide), if_neg (by decide), if_neg (by decide)])
    clear hsn
    obtain ⟨V, hV⟩ : ∃ V, W = V := ⟨_, rfl⟩
    rw [hV] at HOV HBV HXV HKV k0 k1 k3 ⊢
    clear hV
    have t0 := HXV.out.b0
    have t1 := HXV.out.b1
    have t2 := HXV.out.b2
    go_wp2_with (at_builtin; refine zar rfl (.tmp 31) (.tmp 33) rfl (w.heap.size + 1) v q acc x (by simp [Act.eval]) (zab HOV.out ((Below.refl _ V).alloc (Nat.le_refl _) _)) V.heap.size (by simp [Act.eval]) (Blok.new V _ _) (by omega) (by have := HKV.out.lt; simp; omega) ?_; intro g cap w3 h1 h2 h3 h4)
    have HB3 : Hid (Below w.heap.size w w3) := Zh ((HBV.out.alloc HBV.out.size _).grown h2 (Nat.le_trans HBV.out.size (by simp)) (fun i hi => Nat.le_of_succ_le (HOV.out.lt i hi).1))
    have HK3 : Hid (Blok w3 w.heap.size 195 #[.int .i64 0, .int .i64 k, .int .i64 f, .int .i64 n']) := Zh ((HKV.out.alloc _).grown h2 (fun e => by have := (HOV.out.lt _ e.symm).1; omega))
    have H1 := Zh h1
    clear h1 h2 h3 h4
    go_wp2
    go_roundw
    case rel => exact ⟨_, j + 1, q + 1, rfl, by go_num, by omega, by omega, Zh (by rw [HS2.out]; simp [hqa]), by rw [HS2.out]; exact H1, HK3, HB3⟩
    case measure => simp [intOf] <;> omega
   ·have e1 : ((j : Int) == k) = false := by simpa using hjk
    have HS2 : Hid (O.runTo 0 k n' l (j + 1) = acc ++ [x]) := Zh (by rw [hsn, O.turn_ne hjk])
    clear hsn
    obtain ⟨V, hV⟩ : ∃ V, W = V := ⟨_, rfl⟩
    rw [hV] at HOV HBV HXV HKV k0 k1 k3 ⊢
    clear hV
    have t0 := HXV.out.b0
    have t1 := HXV.out.b1
    have t2 := HXV.out.b2
    go_wp2_with (at_builtin; refine zar rfl (.tmp 31) (.tmp 33) rfl (w.heap.size + 1) v q acc x (by simp [Act.eval]) (zab HOV.out ((Below.refl _ V).alloc (Nat.le_refl _) _)) V.heap.size (by simp [Act.eval]) (Blok.new V _ _) (by omega) (by have := HKV.out.lt; simp; omega) ?_; intro g cap w3 h1 h2 h3 h4)
    have HB3 : Hid (Below w.heap.size w w3) := Zh ((HBV.out.alloc HBV.out.size _).grown h2 (Nat.le_trans HBV.out.size (by simp)) (fun i hi => Nat.le_of_succ_le (HOV.out.lt i hi).1))
    have HK3 : Hid (Blok w3 w.heap.size 195 #[.int .i64 0, .int .i64 k, .int .i64 f, .int .i64 n']) := Zh ((HKV.out.alloc _).grown h2 (fun e => by have := (HOV.out.lt _ e.symm).1; omega))
    have H1 := Zh h1
    clear h1 h2 h3 h4
    go_wp2
    go_roundw
    case rel => exact ⟨_, j + 1, q + 1, rfl, by go_num, by omega, by omega, Zh (by rw [HS2.out]; simp [hqa]), by rw [HS2.out]; exact H1, HK3, HB3⟩
    case measure => simp [intOf] <;> omega
  ·have dj : decide ((j : Int) < n) = false := by simp; omega
   obtain rfl : j = n := by omega
   have k0 := Zv HKx.out 0 (.int .i64 0)
   have k2 := Zv HKx.out 2 (.int .i64 f)
   have k3 := Zv HKx.out 3 (.int .i64 n')
   obtain ⟨acc, hacc⟩ : ∃ acc, O.runTo 0 k n' l j = acc := ⟨_, rfl⟩
   rw [hacc] at HQ HO
   have hqa : acc.length = q := HQ.out
   have HACC := Zh hacc
   clear hacc
   go_wp2_with (at_builtin; refine zar rfl (.tmp 39) (.tmp 45) rfl (w.heap.size + 1) v q acc ⟨f, n', 0⟩ (by simp [Act.eval]) (zab HO.out ((Below.refl _ wr).alloc (Nat.le_refl _) _)) wr.heap.size (by simp [Act.eval]) (Blok.new wr _ _) (by omega) (by have := HKx.out.lt; simp; omega) ?_; intro g cap w3 h1 h2 h3 h4)
   have HB3 : Hid (Below w.heap.size w w3) := Zh ((HBx.out.alloc HBx.out.size _).grown h2 (Nat.le_trans HBx.out.size (by simp)) (fun i hi => Nat.le_of_succ_le (HO.out.lt i hi).1))
   have H1 := Zh h1
   clear h1 h2 h3 h4
   go_wp2
   try rw [Exit.noGoto_ret]
   go_ret
   exact ⟨_, q + 1, rfl, by rw [HACC.out]; simp [hqa], by rw [HACC.out]; exact Zh (O.base H1.out), HB3.out⟩
theorem ziu (a : Option Addr) (n c : Nat) (l : List O.Pl) (k f n' : Int) (w : World) (h : QIn w a n c l) (hn : n <= 1000) :
  Calls Tryz.prog 175 #[.slice a n c, .agg #[.int .i64 1, .int .i64 k, .int .i64 f, .int .i64 n']] w fun e w' => ∃ v q, e = .returned v /\ (O.runTo 1 k n' l n).length = q /\ Hid (w'.ownsRow w.heap.size 111 3 v q (O.flat (O.runTo 1 k n' l n))) /\ Below w.heap.size w w' := by
 have HT := Zh h
 have HB0 := Zh (O.tk_below w 1 k f n')
 have HK0 := Zh (O.tk_is w 1 k f n')
 obtain ⟨W0, hW0⟩ : ∃ W, O.tk w 1 k f n' = W := ⟨_, rfl⟩
 rw [hW0] at HB0 HK0
 unfold O.tk at hW0
 clear h
 go_enter Tryz.func175, Tryz.ntmps175
 go_wp2_with fail
 go_step3
 go_wp2_with fail
 go_step3
 go_wp2_with fail
 clear hW0
 go_loopw [5, 10] (fun s5 s10 wx => ∃ (v : Value) (j q : Nat), v = s5 /\ s10 = .int .i64 j /\ j <= n /\ q <= j /\ Hid ((O.runTo 1 k n' l j).length = q) /\ Hid (wx.ownsRow (w.heap.size + 1) 111 3 v q (O.flat (O.runTo 1 k n' l j))) /\ Hid (Blok wx w.heap.size 195 #[.int .i64 1, .int .i64 k, .int .i64 f, .int .i64 n']) /\ Hid (Below w.heap.size w wx)) (fun _ i _ => n - (intOf i).toNat)
 case atStart => exact ⟨_, 0, 0, rfl, by go_num, by omega, by omega, Zh rfl, Zh (World.ownsRow_nil _ _ _ _), HK0, HB0⟩
 case round =>
  obtain ⟨v, j, q, rfl, rfl, hjn, hqj, HQ, HO, HKx, HBx⟩ := hrel
  by_cases hlt : j < n
  ·have dj : decide ((j : Int) < n) = true := by simp; omega
   obtain ⟨b, off, x, rfl, hbl, hx, p0, p1, p2⟩ := (HT.out.below HBx.out).at hlt
   have HX := Zh hx
   have j0 : (0 : Int) <= j := by omega
   have j1 : (j : Int) < n := by omega
   have TB := Zh (O.box_below wr x)
   have TK := Zh (O.box_is wr x)
   have HBt := Zh (HBx.out.trans (TB.out.mono HBx.out.size))
   have HOt := Zh (zab HO.out TB.out)
   have HKt := Zh (HKx.out.alloc (.cells #[.int .i64 x.f, .int .i64 x.n, .int .i64 x.s] 111))
   have hsn := O.runTo_next (what := 1) (k := k) (n := n') hx
   clear hx
   obtain ⟨acc, hacc⟩ : ∃ acc, O.runTo 1 k n' l j = acc := ⟨_, rfl⟩
   rw [hacc] at HQ HOt hsn
   have hqa : acc.length = q := HQ.out
   clear hacc
   go_upto_region 5 with fail
   obtain ⟨W, hW⟩ : ∃ V, wr.alloc (.cells #[.int .i64 x.f, .int .i64 x.n, .int .i64 x.s] 111) = V := ⟨_, rfl⟩
   have HOV : Hid (W.ownsRow (w.heap.size + 1) 111 3 v q (O.flat acc)) := Zh (by rw [<- hW]; exact HOt.out)
   have HBV : Hid (Below w.heap.size w W) := Zh (by rw [<- hW]; exact HBt.out)
   have HXV : Hid (O.Bx W wr.heap.size x) := Zh (by rw [<- hW]; exact TK.out)
   have HKV : Hid (Blok W w.heap.size 195 #[.int .i64 1, .int .i64 k, .int .i64 f, .int .i64 n']) := Zh (by rw [<- hW]; exact HKt.out)
   have HLT := Zh (HO.out)
   rw [hW]
   clear hW p0 p1 p2 TB TK HBt HOt HKt
   have k0 := Zv HKV.out 0 (.int .i64 1)
   have k1 := Zv HKV.out 1 (.int .i64 k)
   have k3 := Zv HKV.out 3 (.int .i64 n')
   by_cases hjk : (j : Int) = k
   ·have e1 : ((j : Int) == k) = true := by simpa using hjk
    have HS2 : Hid (O.runTo 1 k n' l (j + 1) = acc ++ [{ x with s := 1 }]) := Zh (by rw [hsn]; unfold O.turn; rw [if_pos hjk, if_pos rfl])
    clear hsn
    have t0 := HXV.out.b0
    have t1 := HXV.out.b1
    have t2 := HXV.out.b2
    have fz := Blok.frozen HXV.out 2
    have hne : ∀ g, v.ownBlock = some g -> g ≠ wr.heap.size := fun g hg => by have := (HLT.out.lt g hg).2; omega
    go_upto_region 12 with fail
    obtain ⟨V, hV⟩ : ∃ V, W.setCell ⟨wr.heap.size, 2, none⟩ (.int .i64 1) = V := ⟨_, rfl⟩
    have G := O.grown_set W wr.heap.size 2 (.int .i64 1)
    have HX2 := Zh (O.set2 HXV.out 1)
    rw [hV] at G HX2
    have HOV' : Hid (V.ownsRow (w.heap.size + 1) 111 3 v q (O.flat acc)) := Zh (HOV.out.kept G (by
     by_cases h0 : v.ownBlock = none
     ·exact .inl h0
     ·exact .inr (fun e => hne _ e rfl)))
    have HBV' : Hid (Below w.heap.size w V) := Zh (HBV.out.grown G HBV.out.size (fun i hi => by cases hi; exact HBx.out.size))
    have HKV' : Hid (Blok V w.heap.size 195 #[.int .i64 1, .int .i64 k, .int .i64 f, .int .i64 n']) := Zh (HKV.out.grown G (fun e => by have e2 := Option.some.inj e; have := HKx.out.lt; omega))
    clear HOV HBV HKV HXV t0 t1 t2 fz G hne k0 k1 k3
    obtain ⟨HOV, -⟩ : Hid (V.ownsRow (w.heap.size + 1) 111 3 v q (O.flat acc)) /\ True := ⟨HOV', trivial⟩
    obtain ⟨HBV, -⟩ : Hid (Below w.heap.size w V) /\ True := ⟨HBV', trivial⟩
    obtain ⟨HKV, -⟩ : Hid (Blok V w.heap.size 195 #[.int .i64 1, .int .i64 k, .int .i64 f, .int .i64 n']) /\ True := ⟨HKV', trivial⟩
    have t0 := HX2.out.b0
    have t1 := HX2.out.b1
    have t2 := HX2.out.b2
    rw [hV]
    clear hV
    go_wp2_with (at_builtin; refine zar rfl (.tmp 31) (.tmp 33) rfl (w.heap.size + 1) v q acc { x with s := 1 } (by simp [Act.eval]) (zab HOV.out ((Below.refl _ V).alloc (Nat.le_refl _) _)) V.heap.size (by simp [Act.eval]) (Blok.new V _ _) (by omega) (by have := HKV.out.lt; simp; omega) ?_; intro g cap w3 h1 h2 h3 h4)
    have HB3 : Hid (Below w.heap.size w w3) := Zh ((HBV.out.alloc HBV.out.size _).grown h2 (Nat.le_trans HBV.out.size (by simp)) (fun i hi => Nat.le_of_succ_le (HOV.out.lt i hi).1))
    have HK3 : Hid (Blok w3 w.heap.size 195 #[.int .i64 1, .int .i64 k, .int .i64 f, .int .i64 n']) := Zh ((HKV.out.alloc _).grown h2 (fun e => by have := (HOV.out.lt _ e.symm).1; omega))
    have H1 := Zh h1
    clear h1 h2 h3 h4
    go_wp2
    go_roundw
    case rel => exact ⟨_, j + 1, q + 1, rfl, by go_num, by omega, by omega, Zh (by rw [HS2.out]; simp [hqa]), by rw [HS2.out]; exact H1, HK3, HB3⟩
    case measure => simp [intOf] <;> omega
   ·have e1 : ((j : Int) == k) = false := by simpa using hjk
    have HS2 : Hid (O.runTo 1 k n' l (j + 1) = acc ++ [x]) := Zh (by rw [hsn, O.turn_ne hjk])
    clear hsn
    obtain ⟨V, hV⟩ : ∃ V, W = V := ⟨_, rfl⟩
    rw [hV] at HOV HBV HXV HKV k0 k1 k3 ⊢
    clear hV
    have t0 := HXV.out.b0
    have t1 := HXV.out.b1
    have t2 := HXV.out.b2
    go_wp2_with (at_builtin; refine zar rfl (.tmp 31) (.tmp 33) rfl (w.heap.size + 1) v q acc x (by simp [Act.eval]) (zab HOV.out ((Below.refl _ V).alloc (Nat.le_refl _) _)) V.heap.size (by simp [Act.eval]) (Blok.new V _ _) (by omega) (by have := HKV.out.lt; simp; omega) ?_; intro g cap w3 h1 h2 h3 h4)
    have HB3 : Hid (Below w.heap.size w w3) := Zh ((HBV.out.alloc HBV.out.size _).grown h2 (Nat.le_trans HBV.out.size (by simp)) (fun i hi => Nat.le_of_succ_le (HOV.out.lt i hi).1))
    have HK3 : Hid (Blok w3 w.heap.size 195 #[.int .i64 1, .int .i64 k, .int .i64 f, .int .i64 n']) := Zh ((HKV.out.alloc _).grown h2 (fun e => by have := (HOV.out.lt _ e.symm).1; omega))
    have H1 := Zh h1
    clear h1 h2 h3 h4
    go_wp2
    go_roundw
    case rel => exact ⟨_, j + 1, q + 1, rfl, by go_num, by omega, by omega, Zh (by rw [HS2.out]; simp [hqa]), by rw [HS2.out]; exact H1, HK3, HB3⟩
    case measure => simp [intOf] <;> omega
  ·have dj : decide ((j : Int) < n) = false := by simp; omega
   obtain rfl : j = n := by omega
   have k0 := Zv HKx.out 0 (.int .i64 1)
   have k2 := Zv HKx.out 2 (.int .i64 f)
   have k3 := Zv HKx.out 3 (.int .i64 n')
   go_wp2
   try rw [Exit.noGoto_ret]
   go_ret
   exact ⟨v, q, rfl, HQ.out, Zh (O.base HO.out), HBx.out⟩
theorem ziv (a : Option Addr) (n c : Nat) (l : List O.Pl) (k f n' : Int) (w : World) (h : QIn w a n c l) (hn : n <= 1000) :
  Calls Tryz.prog 175 #[.slice a n c, .agg #[.int .i64 2, .int .i64 k, .int .i64 f, .int .i64 n']] w fun e w' => ∃ v q, e = .returned v /\ (O.runTo 2 k n' l n).length = q /\ Hid (w'.ownsRow w.heap.size 111 3 v q (O.flat (O.runTo 2 k n' l n))) /\ Below w.heap.size w w' := by
 have HT := Zh h
 have HB0 := Zh (O.tk_below w 2 k f n')
 have HK0 := Zh (O.tk_is w 2 k f n')
 obtain ⟨W0, hW0⟩ : ∃ W, O.tk w 2 k f n' = W := ⟨_, rfl⟩
 rw [hW0] at HB0 HK0
 unfold O.tk at hW0
 clear h
 go_enter Tryz.func175, Tryz.ntmps175
 go_wp2_with fail
 go_step3
 go_wp2_with fail
 go_step3
 go_wp2_with fail
 clear hW0
 go_loopw [5, 10] (fun s5 s10 wx => ∃ (v : Value) (j q : Nat), v = s5 /\ s10 = .int .i64 j /\ j <= n /\ q <= j /\ Hid ((O.runTo 2 k n' l j).length = q) /\ Hid (wx.ownsRow (w.heap.size + 1) 111 3 v q (O.flat (O.runTo 2 k n' l j))) /\ Hid (Blok wx w.heap.size 195 #[.int .i64 2, .int .i64 k, .int .i64 f, .int .i64 n']) /\ Hid (Below w.heap.size w wx)) (fun _ i _ => n - (intOf i).toNat)
 case atStart => exact ⟨_, 0, 0, rfl, by go_num, by omega, by omega, Zh rfl, Zh (World.ownsRow_nil _ _ _ _), HK0, HB0⟩
 case round =>
  obtain ⟨v, j, q, rfl, rfl, hjn, hqj, HQ, HO, HKx, HBx⟩ := hrel
  by_cases hlt : j < n
  ·have dj : decide ((j : Int) < n) = true := by simp; omega
   obtain ⟨b, off, x, rfl, hbl, hx, p0, p1, p2⟩ := (HT.out.below HBx.out).at hlt
   have HX := Zh hx
   have j0 : (0 : Int) <= j := by omega
   have j1 : (j : Int) < n := by omega
   have TB := Zh (O.box_below wr x)
   have TK := Zh (O.box_is wr x)
   have HBt := Zh (HBx.out.trans (TB.out.mono HBx.out.size))
   have HOt := Zh (zab HO.out TB.out)
   have HKt := Zh (HKx.out.alloc (.cells #[.int .i64 x.f, .int .i64 x.n, .int .i64 x.s] 111))
   have hsn := O.runTo_next (what := 2) (k := k) (n := n') hx
   clear hx
   obtain ⟨acc, hacc⟩ : ∃ acc, O.runTo 2 k n' l j = acc := ⟨_, rfl⟩
   rw [hacc] at HQ HOt hsn
   have hqa : acc.length = q := HQ.out
   clear hacc
   go_upto_region 5 with fail
   obtain ⟨W, hW⟩ : ∃ V, wr.alloc (.cells #[.int .i64 x.f, .int .i64 x.n, .int .i64 x.s] 111) = V := ⟨_, rfl⟩
   have HOV : Hid (W.ownsRow (w.heap.size + 1) 111 3 v q (O.flat acc)) := Zh (by rw [<- hW]; exact HOt.out)
   have HBV : Hid (Below w.heap.size w W) := Zh (by rw [<- hW]; exact HBt.out)
   have HXV : Hid (O.Bx W wr.heap.size x) := Zh (by rw [<- hW]; exact TK.out)
   have HKV : Hid (Blok W w.heap.size 195 #[.int .i64 2, .int .i64 k, .int .i64 f, .int .i64 n']) := Zh (by rw [<- hW]; exact HKt.out)
   have HLT := Zh (HO.out)
   rw [hW]
   clear hW p0 p1 p2 TB TK HBt HOt HKt
   have k0 := Zv HKV.out 0 (.int .i64 2)
   have k1 := Zv HKV.out 1 (.int .i64 k)
   have k3 := Zv HKV.out 3 (.int .i64 n')
   by_cases hjk : (j : Int) = k
   ·have e1 : ((j : Int) == k) = true := by simpa using hjk
    have HS2 : Hid (O.runTo 2 k n' l (j + 1) = acc ++ [{ x with n := n' }]) := Zh (by rw [hsn]; unfold O.turn; rw [if_pos hjk, if_neg (by decide), if_pos rfl])
    clear hsn
    have t0 := HXV.out.b0
    have t1 := HXV.out.b1
    have t2 := HXV.out.b2
    have fz := Blok.frozen HXV.out 1
    have hne : ∀ g, v.ownBlock = some g -> g ≠ wr.heap.size := fun g hg => by have := (HLT.out.lt g hg).2; omega
    go_upto_region 12 with fail
    obtain ⟨V, hV⟩ : ∃ V, W.setCell ⟨wr.heap.size, 1, none⟩ ((.int .i64 n')) = V := ⟨_, rfl⟩
    have G := O.grown_set W wr.heap.size 1 ((.int .i64 n'))
    have HX2 := Zh (O.set1 HXV.out n')
    rw [hV] at G HX2
    have HOV' : Hid (V.ownsRow (w.heap.size + 1) 111 3 v q (O.flat acc)) := Zh (HOV.out.kept G (by
     by_cases h0 : v.ownBlock = none
     ·exact .inl h0
     ·exact .inr (fun e => hne _ e rfl)))
    have HBV' : Hid (Below w.heap.size w V) := Zh (HBV.out.grown G HBV.out.size (fun i hi => by cases hi; exact HBx.out.size))
    have HKV' : Hid (Blok V w.heap.size 195 #[.int .i64 2, .int .i64 k, .int .i64 f, .int .i64 n']) := Zh (HKV.out.grown G (fun e => by have e2 := Option.some.inj e; have := HKx.out.lt; omega))
    clear HOV HBV HKV HXV t0 t1 t2 fz G hne k0 k1 k3
    obtain ⟨HOV, -⟩ : Hid (V.ownsRow (w.heap.size + 1) 111 3 v q (O.flat acc)) /\ True := ⟨HOV', trivial⟩
    obtain ⟨HBV, -⟩ : Hid (Below w.heap.size w V) /\ True := ⟨HBV', trivial⟩
    obtain ⟨HKV, -⟩ : Hid (Blok V w.heap.size 195 #[.int .i64 2, .int .i64 k, .int .i64 f, .int .i64 n']) /\ True := ⟨HKV', trivial⟩
    have t0 := HX2.out.b0
    have t1 := HX2.out.b1
    have t2 := HX2.out.b2
    rw [hV]
    clear hV
    go_wp2_with (at_builtin; refine zar rfl (.tmp 31) (.tmp 33) rfl (w.heap.size + 1) v q acc { x with n := n' } (by simp [Act.eval]) (zab HOV.out ((Below.refl _ V).alloc (Nat.le_refl _) _)) V.heap.size (by simp [Act.eval]) (Blok.new V _ _) (by omega) (by have := HKV.out.lt; simp; omega) ?_; intro g cap w3 h1 h2 h3 h4)
    have HB3 : Hid (Below w.heap.size w w3) := Zh ((HBV.out.alloc HBV.out.size _).grown h2 (Nat.le_trans HBV.out.size (by simp)) (fun i hi => Nat.le_of_succ_le (HOV.out.lt i hi).1))
    have HK3 : Hid (Blok w3 w.heap.size 195 #[.int .i64 2, .int .i64 k, .int .i64 f, .int .i64 n']) := Zh ((HKV.out.alloc _).grown h2 (fun e => by have := (HOV.out.lt _ e.symm).1; omega))
    have H1 := Zh h1
    clear h1 h2 h3 h4
    go_wp2
    go_roundw
    case rel => exact ⟨_, j + 1, q + 1, rfl, by go_num, by omega, by omega, Zh (by rw [HS2.out]; simp [hqa]), by rw [HS2.out]; exact H1, HK3, HB3⟩
    case measure => simp [intOf] <;> omega
   ·have e1 : ((j : Int) == k) = false := by simpa using hjk
    have HS2 : Hid (O.runTo 2 k n' l (j + 1) = acc ++ [x]) := Zh (by rw [hsn, O.turn_ne hjk])
    clear hsn
    obtain ⟨V, hV⟩ : ∃ V, W = V := ⟨_, rfl⟩
    rw [hV] at HOV HBV HXV HKV k0 k1 k3 ⊢
    clear hV
    have t0 := HXV.out.b0
    have t1 := HXV.out.b1
    have t2 := HXV.out.b2
    go_wp2_with (at_builtin; refine zar rfl (.tmp 31) (.tmp 33) rfl (w.heap.size + 1) v q acc x (by simp [Act.eval]) (zab HOV.out ((Below.refl _ V).alloc (Nat.le_refl _) _)) V.heap.size (by simp [Act.eval]) (Blok.new V _ _) (by omega) (by have := HKV.out.lt; simp; omega) ?_; intro g cap w3 h1 h2 h3 h4)
    have HB3 : Hid (Below w.heap.size w w3) := Zh ((HBV.out.alloc HBV.out.size _).grown h2 (Nat.le_trans HBV.out.size (by simp)) (fun i hi => Nat.le_of_succ_le (HOV.out.lt i hi).1))
    have HK3 : Hid (Blok w3 w.heap.size 195 #[.int .i64 2, .int .i64 k, .int .i64 f, .int .i64 n']) := Zh ((HKV.out.alloc _).grown h2 (fun e => by have := (HOV.out.lt _ e.symm).1; omega))
    have H1 := Zh h1
    clear h1 h2 h3 h4
    go_wp2
    go_roundw
    case rel => exact ⟨_, j + 1, q + 1, rfl, by go_num, by omega, by omega, Zh (by rw [HS2.out]; simp [hqa]), by rw [HS2.out]; exact H1, HK3, HB3⟩
    case measure => simp [intOf] <;> omega
  ·have dj : decide ((j : Int) < n) = false := by simp; omega
   obtain rfl : j = n := by omega
   have k0 := Zv HKx.out 0 (.int .i64 2)
   have k2 := Zv HKx.out 2 (.int .i64 f)
   have k3 := Zv HKx.out 3 (.int .i64 n')
   go_wp2
   try rw [Exit.noGoto_ret]
   go_ret
   exact ⟨v, q, rfl, HQ.out, Zh (O.base HO.out), HBx.out⟩
theorem ziw (a : Option Addr) (n c : Nat) (l : List O.Pl) (k f n' : Int) (w : World) (h : QIn w a n c l) (hn : n <= 1000) :
  Calls Tryz.prog 175 #[.slice a n c, .agg #[.int .i64 3, .int .i64 k, .int .i64 f, .int .i64 n']] w fun e w' => ∃ v q, e = .returned v /\ (O.runTo 3 k n' l n).length = q /\ Hid (w'.ownsRow w.heap.size 111 3 v q (O.flat (O.runTo 3 k n' l n))) /\ Below w.heap.size w w' := by
 have HT := Zh h
 have HB0 := Zh (O.tk_below w 3 k f n')
 have HK0 := Zh (O.tk_is w 3 k f n')
 obtain ⟨W0, hW0⟩ : ∃ W, O.tk w 3 k f n' = W := ⟨_, rfl⟩
 rw [hW0] at HB0 HK0
 unfold O.tk at hW0
 clear h
 go_enter Tryz.func175, Tryz.ntmps175
 go_wp2_with fail
 go_step3
 go_wp2_with fail
 go_step3
 go_wp2_with fail
 clear hW0
 go_loopw [5, 10] (fun s5 s10 wx => ∃ (v : Value) (j q : Nat), v = s5 /\ s10 = .int .i64 j /\ j <= n /\ q <= j /\ Hid ((O.runTo 3 k n' l j).length = q) /\ Hid (wx.ownsRow (w.heap.size + 1) 111 3 v q (O.flat (O.runTo 3 k n' l j))) /\ Hid (Blok wx w.heap.size 195 #[.int .i64 3, .int .i64 k, .int .i64 f, .int .i64 n']) /\ Hid (Below w.heap.size w wx)) (fun _ i _ => n - (intOf i).toNat)
 case atStart => exact ⟨_, 0, 0, rfl, by go_num, by omega, by omega, Zh rfl, Zh (World.ownsRow_nil _ _ _ _), HK0, HB0⟩
 case round =>
  obtain ⟨v, j, q, rfl, rfl, hjn, hqj, HQ, HO, HKx, HBx⟩ := hrel
  by_cases hlt : j < n
  ·have dj : decide ((j : Int) < n) = true := by simp; omega
   obtain ⟨b, off, x, rfl, hbl, hx, p0, p1, p2⟩ := (HT.out.below HBx.out).at hlt
   have HX := Zh hx
   have j0 : (0 : Int) <= j := by omega
   have j1 : (j : Int) < n := by omega
   have TB := Zh (O.box_below wr x)
   have TK := Zh (O.box_is wr x)
   have HBt := Zh (HBx.out.trans (TB.out.mono HBx.out.size))
   have HOt := Zh (zab HO.out TB.out)
   have HKt := Zh (HKx.out.alloc (.cells #[.int .i64 x.f, .int .i64 x.n, .int .i64 x.s] 111))
   have hsn := O.runTo_next (what := 3) (k := k) (n := n') hx
   clear hx
   obtain ⟨acc, hacc⟩ : ∃ acc, O.runTo 3 k n' l j = acc := ⟨_, rfl⟩
   rw [hacc] at HQ HOt hsn
   have hqa : acc.length = q := HQ.out
   clear hacc
   go_upto_region 5 with fail
   obtain ⟨W, hW⟩ : ∃ V, wr.alloc (.cells #[.int .i64 x.f, .int .i64 x.n, .int .i64 x.s] 111) = V := ⟨_, rfl⟩
   have HOV : Hid (W.ownsRow (w.heap.size + 1) 111 3 v q (O.flat acc)) := Zh (by rw [<- hW]; exact HOt.out)
   have HBV : Hid (Below w.heap.size w W) := Zh (by rw [<- hW]; exact HBt.out)
   have HXV : Hid (O.Bx W wr.heap.size x) := Zh (by rw [<- hW]; exact TK.out)
   have HKV : Hid (Blok W w.heap.size 195 #[.int .i64 3, .int .i64 k, .int .i64 f, .int .i64 n']) := Zh (by rw [<- hW]; exact HKt.out)
   have HLT := Zh (HO.out)
   rw [hW]
   clear hW p0 p1 p2 TB TK HBt HOt HKt
   have k0 := Zv HKV.out 0 (.int .i64 3)
   have k1 := Zv HKV.out 1 (.int .i64 k)
   have k3 := Zv HKV.out 3 (.int .i64 n')
   by_cases hjk : (j : Int) = k
   ·have e1 : ((j : Int) == k) = true := by simpa using hjk
    have HS2 : Hid (O.runTo 3 k n' l (j + 1) = acc) := Zh (by rw [hsn]; unfold O.turn; rw [if_pos hjk, if_neg (by decide), if_neg (by decide), if_pos rfl, List.append_nil])
    clear hsn
    go_wp2
    go_roundw
    case rel => exact ⟨_, j + 1, q, rfl, by go_num, by omega, by omega, Zh (by rw [HS2.out]; exact hqa), by rw [HS2.out]; exact HOV, HKV, HBV⟩
    case measure => simp [intOf] <;> omega
   ·have e1 : ((j : Int) == k) = false := by simpa using hjk
    have HS2 : Hid (O.runTo 3 k n' l (j + 1) = acc ++ [x]) := Zh (by rw [hsn, O.turn_ne hjk])
    clear hsn
    obtain ⟨V, hV⟩ : ∃ V, W = V := ⟨_, rfl⟩
    rw [hV] at HOV HBV HXV HKV k0 k1 k3 ⊢
    clear hV
    have t0 := HXV.out.b0
    have t1 := HXV.out.b1
    have t2 := HXV.out.b2
    go_wp2_with (at_builtin; refine zar rfl (.tmp 31) (.tmp 33) rfl (w.heap.size + 1) v q acc x (by simp [Act.eval]) (zab HOV.out ((Below.refl _ V).alloc (Nat.le_refl _) _)) V.heap.size (by simp [Act.eval]) (Blok.new V _ _) (by omega) (by have := HKV.out.lt; simp; omega) ?_; intro g cap w3 h1 h2 h3 h4)
    have HB3 : Hid (Below w.heap.size w w3) := Zh ((HBV.out.alloc HBV.out.size _).grown h2 (Nat.le_trans HBV.out.size (by simp)) (fun i hi => Nat.le_of_succ_le (HOV.out.lt i hi).1))
    have HK3 : Hid (Blok w3 w.heap.size 195 #[.int .i64 3, .int .i64 k, .int .i64 f, .int .i64 n']) := Zh ((HKV.out.alloc _).grown h2 (fun e => by have := (HOV.out.lt _ e.symm).1; omega))
    have H1 := Zh h1
    clear h1 h2 h3 h4
    go_wp2
    go_roundw
    case rel => exact ⟨_, j + 1, q + 1, rfl, by go_num, by omega, by omega, Zh (by rw [HS2.out]; simp [hqa]), by rw [HS2.out]; exact H1, HK3, HB3⟩
    case measure => simp [intOf] <;> omega
  ·have dj : decide ((j : Int) < n) = false := by simp; omega
   obtain rfl : j = n := by omega
   have k0 := Zv HKx.out 0 (.int .i64 3)
   have k2 := Zv HKx.out 2 (.int .i64 f)
   have k3 := Zv HKx.out 3 (.int .i64 n')
   go_wp2
   try rw [Exit.noGoto_ret]
   go_ret
   exact ⟨v, q, rfl, HQ.out, Zh (O.base HO.out), HBx.out⟩
end Go.Proofs.YtijkbflimbffmaaGreat
namespace Go.Proofs.YtijkbflimbffmaaGreat
open Go.RowKit
theorem zde {w : World} {B B' k n : Nat} {t : TypeId} {v : Value} {xs : List Value} (h : w.ownsRow B t k v n xs) (hb : B' <= B) : w.ownsRow B' t k v n xs :=
 ⟨h.1, h.2.imp id fun ⟨q, cap, cur, h1, h2, h3⟩ => ⟨q, cap, cur, h1, Nat.le_trans hb h2, h3⟩⟩
end Go.Proofs.YtijkbflimbffmaaGreat
namespace Go.Proofs.YtijkbflimbffmaaGreat
set_option maxHeartbeats 400000
set_option maxRecDepth 100000
open Go.RowKit
theorem zht (a : Option Addr) (n c : Nat) (l : List L.T3) (w : World) (hn : n <= 1000) (hd : RIn w a n c l) :
  Calls Tryz.prog 73 #[.slice a n c] w fun e w' => ∃ v, e = .returned v /\ Hid (w'.ownsRow w.heap.size 77 3 v n (L.flat l)) /\ Below w.heap.size w w' := by
 have HD := Zh hd
 cases a with
 | none =>
  obtain ⟨rfl, rfl⟩ := hd.2.2.1 rfl
  obtain rfl : l = [] := List.eq_nil_of_length_eq_zero hd.1
  clear hd
  have he : ∀ w : World, (binOp .eql 30 (.slice none 0 0) (.slice none 0 0)).run Tryz.prog w = .ok (.bool true) w := fun _ => by kernel_rfl
  go_enter Tryz.func73, Tryz.ntmps73
  go_wp2
  go_ret
  exact ⟨_, rfl, Zh (World.ownsRow_nil _ _ _ _), Below.refl _ _⟩
 | some x =>
  clear hd
  have he : ∀ w : World, (binOp .eql 30 (.slice (some x) n c) (.slice none 0 0)).run Tryz.prog w = .ok (.bool false) w := fun _ => by kernel_rfl
  go_enter Tryz.func73, Tryz.ntmps73
  go_wp2_with (at_builtin; refine zb6 (α := L.T3) rfl _ _ 30 77 rfl _ 24 Tryz.underlying30 zbh rfl (by decide) w.heap.size _ 0 [] rfl (L.own_nil (Blok.new w 77 #[]) (Nat.le_refl _)) (some x) n c l rfl (HD.out.below ((Below.refl _ w).alloc (Nat.le_refl _) _)) (by omega) (by simp) ?_; intro v' w2 hown' hgrow)
  go_ret
  rw [Nat.zero_add] at hown'
  have h2 : w2.ownsRow w.heap.size 77 (L.Rec.k L.T3) v' n (L.flat l) := by simpa using hown'
  exact ⟨v', rfl, Zh h2, ((Below.refl _ w).alloc (Nat.le_refl _) _).grown hgrow (by simp) (fun k ek => by cases ek; exact Nat.le_refl _)⟩
structure Y.OwnR (w : World) (H : Nat) (s : Y.St) (A : Y.A9) : Prop where
 rp : w.ownsRow H 111 3 (.slice A.ap A.np A.cp) A.np (O.flat s.ps)
 rl : w.ownsRow H 60 5 (.slice A.al A.nl A.cl) A.nl (L.flat s.l)
 rh : w.ownsRow H 77 3 (.slice A.ah A.nh A.ch) A.nh (L.flat s.h)
 np : s.ps.length = A.np
 nl : s.l.length = A.nl
 nh : s.h.length = A.nh
theorem Y.OwnR.below {w w' : World} {H : Nat} {s : Y.St} {A : Y.A9} (h : Y.OwnR w H s A) (hb : Below w.heap.size w w') : Y.OwnR w' H s A :=
 ⟨zab h.rp hb, zab h.rl hb, zab h.rh hb, h.np, h.nl, h.nh⟩
theorem Y.OwnR.far {w w' : World} {H g : Nat} {s : Y.St} {A : Y.A9} (h : Y.OwnR w H s A) (hg : w.grownBy w' (some g)) (hH : g < H) : Y.OwnR w' H s A := by
 have hn : ∀ {e : TypeId} {k n : Nat} {v : Value} {xs : List Value}, w.ownsRow H e k v n xs -> v.ownBlock ≠ some g := fun hr e => by have := (hr.lt g e).1; omega
 exact ⟨h.rp.kept hg (.inr (hn h.rp)), h.rl.kept hg (.inr (hn h.rl)), h.rh.kept hg (.inr (hn h.rh)), h.np, h.nl, h.nh⟩
theorem Y.OwnR.i {w : World} {H : Nat} {s : Y.St} {A : Y.A9} (h : Y.OwnR w H s A) : Y.SIn w A s := by
 obtain ⟨a1, c1, e1, q1⟩ := zbq h.rp h.np
 obtain ⟨a2, c2, e2, q2⟩ := zcn h.rl h.nl
 obtain ⟨a3, c3, e3, q3⟩ := zdl h.rh h.nh
 simp only [Value.slice.injEq, true_and] at e1 e2 e3
 obtain ⟨e1, f1⟩ := e1
 obtain ⟨e2, f2⟩ := e2
 obtain ⟨e3, f3⟩ := e3
 exact ⟨by rw [e1, f1]; exact q1, by rw [e2, f2]; exact q2, by rw [e3, f3]; exact q3⟩
theorem Y.OwnR.up {w : World} {H : Nat} {s : Y.St} {A : Y.A9} (h : Y.OwnR w H s A) : Y.Up H A := ⟨fun q hq => (h.rp.lt q.block (by rw [hq]; rfl)).1, fun q hq => (h.rl.lt q.block (by rw [hq]; rfl)).1, fun q hq => (h.rh.lt q.block (by rw [hq]; rfl)).1⟩
theorem zd9 {w : World} {B k n : Nat} {t : TypeId} {v : Value} {xs : List Value} (h : w.ownsRow B t k v n xs) : ∃ a c, v = .slice a n c := by
 rcases h.2 with ⟨h0, h1⟩ | ⟨q, cap, cur, h1, _⟩
 ·subst h1; exact ⟨none, 0, h0⟩
 ·exact ⟨_, cap, h1⟩
theorem Y.OwnR.far' {w w' : World} {H g : Nat} {s : Y.St} {A : Y.A9} {t : TypeId} {cs : Array Value} (h : Y.OwnR w H s A) (hg : w.grownBy w' (some g)) (hk : Blok w g t cs) (h2 : t ≠ 111) (h3 : t ≠ 60) (h4 : t ≠ 77) : Y.OwnR w' H s A :=
 ⟨h.rp.kept hg (.inr fun e => za4 h.rp hk h2 e rfl), h.rl.kept hg (.inr fun e => za4 h.rl hk h3 e rfl), h.rh.kept hg (.inr fun e => za4 h.rh hk h4 e rfl), h.np, h.nl, h.nh⟩
theorem Y.set16 {w : World} {g : Nat} {u0 u1 u2 u3 u4 u5 u6 u7 u8 u9 u10 u11 u12 u13 u14 u15 : Value} (h : Blok w g 32 #[u0, u1, u2, u3, u4, u5, u6, u7, u8, u9, u10, u11, u12, u13, u14, u15]) (s : Y.St) (b1 : Option Addr) (np d1 : Nat) (b2 : Option Addr) (nl d2 : Nat) (b3 : Option Addr) (nh d3 : Nat) :
  Blok ((((((((((((((((w.setCell ⟨g, 0, none⟩ (.int .i64 s.d.b)).setCell ⟨g, 1, none⟩ (.int .i64 s.d.k)).setCell ⟨g, 2, none⟩ (.int .i64 s.d.c)).setCell ⟨g, 3, none⟩ (.int .i64 s.d.j)).setCell ⟨g, 4, none⟩ (.int .i64 s.d.lo)).setCell ⟨g, 5, none⟩ (.int .i64 s.d.hi)).setCell ⟨g, 6, none⟩ (.int .i64 s.d.dy)).setCell ⟨g, 7, none⟩ (.int .i64 s.d.bl)).setCell ⟨g, 8, none⟩ (.int .i64 s.p.q)).setCell ⟨g, 9, none⟩ (.int .i64 s.p.i)).setCell ⟨g, 10, none⟩ (.int .i64 s.p.h)).setCell ⟨g, 11, none⟩ (.bool s.p.pair)).setCell ⟨g, 12, none⟩ (.int .i64 s.now)).setCell ⟨g, 13, none⟩ (.slice b1 np d1)).setCell ⟨g, 14, none⟩ (.slice b2 nl d2)).setCell ⟨g, 15, none⟩ (.slice b3 nh d3)) g 32 #[.int .i64 s.d.b, .int .i64 s.d.k, .int .i64 s.d.c, .int .i64 s.d.j, .int .i64 s.d.lo, .int .i64 s.d.hi, .int .i64 s.d.dy, .int .i64 s.d.bl, .int .i64 s.p.q, .int .i64 s.p.i, .int .i64 s.p.h, .bool s.p.pair, .int .i64 s.now, .slice b1 np d1, .slice b2 nl d2, .slice b3 nh d3] /\ w.grownBy ((((((((((((((((w.setCell ⟨g, 0, none⟩ (.int .i64 s.d.b)).setCell ⟨g, 1, none⟩ (.int .i64 s.d.k)).setCell ⟨g, 2, none⟩ (.int .i64 s.d.c)).setCell ⟨g, 3, none⟩ (.int .i64 s.d.j)).setCell ⟨g, 4, none⟩ (.int .i64 s.d.lo)).setCell ⟨g, 5, none⟩ (.int .i64 s.d.hi)).setCell ⟨g, 6, none⟩ (.int .i64 s.d.dy)).setCell ⟨g, 7, none⟩ (.int .i64 s.d.bl)).setCell ⟨g, 8, none⟩ (.int .i64 s.p.q)).setCell ⟨g, 9, none⟩ (.int .i64 s.p.i)).setCell ⟨g, 10, none⟩ (.int .i64 s.p.h)).setCell ⟨g, 11, none⟩ (.bool s.p.pair)).setCell ⟨g, 12, none⟩ (.int .i64 s.now)).setCell ⟨g, 13, none⟩ (.slice b1 np d1)).setCell ⟨g, 14, none⟩ (.slice b2 nl d2)).setCell ⟨g, 15, none⟩ (.slice b3 nh d3)) (some g) := by
 constructor
 ·have := (((((((((((((((h.set 0 (.int .i64 s.d.b)).set 1 (.int .i64 s.d.k)).set 2 (.int .i64 s.d.c)).set 3 (.int .i64 s.d.j)).set 4 (.int .i64 s.d.lo)).set 5 (.int .i64 s.d.hi)).set 6 (.int .i64 s.d.dy)).set 7 (.int .i64 s.d.bl)).set 8 (.int .i64 s.p.q)).set 9 (.int .i64 s.p.i)).set 10 (.int .i64 s.p.h)).set 11 (.bool s.p.pair)).set 12 (.int .i64 s.now)).set 13 (.slice b1 np d1)).set 14 (.slice b2 nl d2)).set 15 (.slice b3 nh d3)
  simpa using this
 ·exact (((((((((((((((grown_set w g 0 _).trans (grown_set _ g 1 _)).trans (grown_set _ g 2 _)).trans (grown_set _ g 3 _)).trans (grown_set _ g 4 _)).trans (grown_set _ g 5 _)).trans (grown_set _ g 6 _)).trans (grown_set _ g 7 _)).trans (grown_set _ g 8 _)).trans (grown_set _ g 9 _)).trans (grown_set _ g 10 _)).trans (grown_set _ g 11 _)).trans (grown_set _ g 12 _)).trans (grown_set _ g 13 _)).trans (grown_set _ g 14 _)).trans (grown_set _ g 15 _)
theorem zmn {fn : Func} {p : Tmp} (h : fn.results = #[.cell p 32]) {tmps : Array Value} {V : World} (g : Nat) (s : Y.St) (b1 : Option Addr) (np d1 : Nat) (b2 : Option Addr) (nl d2 : Nat) (b3 : Option Addr) (nh d3 : Nat)
  (hp : tmps.getD p undef = .pointer (some ⟨g, 0, none⟩)) (hg : Blok V g 32 #[.int .i64 s.d.b, .int .i64 s.d.k, .int .i64 s.d.c, .int .i64 s.d.j, .int .i64 s.d.lo, .int .i64 s.d.hi, .int .i64 s.d.dy, .int .i64 s.d.bl, .int .i64 s.p.q, .int .i64 s.p.i, .int .i64 s.p.h, .bool s.p.pair, .int .i64 s.now, .slice b1 np d1, .slice b2 nl d2, .slice b3 nh d3]) :
  (results fn tmps).run Tryz.prog V = .ok (.agg #[.int .i64 s.d.b, .int .i64 s.d.k, .int .i64 s.d.c, .int .i64 s.d.j, .int .i64 s.d.lo, .int .i64 s.d.hi, .int .i64 s.d.dy, .int .i64 s.d.bl, .int .i64 s.p.q, .int .i64 s.p.i, .int .i64 s.p.h, .bool s.p.pair, .int .i64 s.now, .slice b1 np d1, .slice b2 nl d2, .slice b3 nh d3]) V := by
 have hp' : tmps[p]?.getD undef = .pointer (some ⟨g, 0, none⟩) := by simpa using hp
 have hl := run_loadVar_row (P := Tryz.prog) V g 32 32 #[.int .i64 s.d.b, .int .i64 s.d.k, .int .i64 s.d.c, .int .i64 s.d.j, .int .i64 s.d.lo, .int .i64 s.d.hi, .int .i64 s.d.dy, .int .i64 s.d.bl, .int .i64 s.p.q, .int .i64 s.p.i, .int .i64 s.p.h, .bool s.p.pair, .int .i64 s.now, .slice b1 np d1, .slice b2 nl d2, .slice b3 nh d3] (0, 0) _ hg Tryz.underlying32 rfl (by kernel_rfl)
 simp [results, h, hp', asAddr, hl]
theorem zkz (s : Y.St) (np nl nh : Nat) (w w6 : World) (zb : Nat) (b1 : Option Addr) (d1 : Nat) (b2 : Option Addr) (d2 : Nat) (b3 : Option Addr) (d3 : Nat) (ap al ah : Option Addr) (cp cl ch : Nat) (hsz : w.heap.size < zb) (hp : s.ps.length = np) (hl : s.l.length = nl) (hh : s.h.length = nh)
  (R1 : w6.ownsRow w.heap.size 111 3 (.slice b1 np d1) np (O.flat s.ps)) (R2 : w6.ownsRow w.heap.size 60 5 (.slice b2 nl d2) nl (L.flat s.l)) (R3 : w6.ownsRow w.heap.size 77 3 (.slice b3 nh d3) nh (L.flat s.h))
  (KS : Blok w6 w.heap.size 32 #[.int .i64 s.d.b, .int .i64 s.d.k, .int .i64 s.d.c, .int .i64 s.d.j, .int .i64 s.d.lo, .int .i64 s.d.hi, .int .i64 s.d.dy, .int .i64 s.d.bl, .int .i64 s.p.q, .int .i64 s.p.i, .int .i64 s.p.h, .bool s.p.pair, .int .i64 s.now, .slice ap np cp, .slice al nl cl, .slice ah nh ch]) (KZ : Blok w6 zb 32 #[.int .i64 0, .int .i64 0, .int .i64 0, .int .i64 0, .int .i64 0, .int .i64 0, .int .i64 0, .int .i64 0, .int .i64 0, .int .i64 0, .int .i64 0, .bool false, .int .i64 0, .slice none 0 0, .slice none 0 0, .slice none 0 0]) (HB : Below w.heap.size w w6) :
  ∃ (b1' : Option Addr) (d1' : Nat) (b2' : Option Addr) (d2' : Nat) (b3' : Option Addr) (d3' : Nat), Hid (Blok (((w6.setCell ⟨w.heap.size, 13, none⟩ (.slice b1 np d1)).setCell ⟨w.heap.size, 14, none⟩ (.slice b2 nl d2)).setCell ⟨w.heap.size, 15, none⟩ (.slice b3 nh d3)) w.heap.size 32 #[.int .i64 s.d.b, .int .i64 s.d.k, .int .i64 s.d.c, .int .i64 s.d.j, .int .i64 s.d.lo, .int .i64 s.d.hi, .int .i64 s.d.dy, .int .i64 s.d.bl, .int .i64 s.p.q, .int .i64 s.p.i, .int .i64 s.p.h, .bool s.p.pair, .int .i64 s.now, .slice b1' np d1', .slice b2' nl d2', .slice b3' nh d3']) /\ Hid (Blok (((w6.setCell ⟨w.heap.size, 13, none⟩ (.slice b1 np d1)).setCell ⟨w.heap.size, 14, none⟩ (.slice b2 nl d2)).setCell ⟨w.heap.size, 15, none⟩ (.slice b3 nh d3)) zb 32 #[.int .i64 0, .int .i64 0, .int .i64 0, .int .i64 0, .int .i64 0, .int .i64 0, .int .i64 0, .int .i64 0, .int .i64 0, .int .i64 0, .int .i64 0, .bool false, .int .i64 0, .slice none 0 0, .slice none 0 0, .slice none 0 0]) /\ Hid (Y.OwnR (((w6.setCell ⟨w.heap.size, 13, none⟩ (.slice b1 np d1)).setCell ⟨w.heap.size, 14, none⟩ (.slice b2 nl d2)).setCell ⟨w.heap.size, 15, none⟩ (.slice b3 nh d3)) w.heap.size s ⟨b1', np, d1', b2', nl, d2', b3', nh, d3'⟩) /\ Hid (Below w.heap.size w (((w6.setCell ⟨w.heap.size, 13, none⟩ (.slice b1 np d1)).setCell ⟨w.heap.size, 14, none⟩ (.slice b2 nl d2)).setCell ⟨w.heap.size, 15, none⟩ (.slice b3 nh d3))) := by
 have gst : w6.grownBy (((w6.setCell ⟨w.heap.size, 13, none⟩ (.slice b1 np d1)).setCell ⟨w.heap.size, 14, none⟩ (.slice b2 nl d2)).setCell ⟨w.heap.size, 15, none⟩ (.slice b3 nh d3)) (some w.heap.size) := ((grown_set _ _ _ _).trans (grown_set _ _ _ _)).trans (grown_set _ _ _ _)
 exact ⟨b1, d1, b2, d2, b3, d3, Zh (by have := ((KS.set 13 (.slice b1 np d1)).set 14 (.slice b2 nl d2)).set 15 (.slice b3 nh d3); simpa using this), Zh (KZ.grown gst (by simp; omega)),
  Zh ⟨R1.kept gst (.inr fun e => za4 R1 KS (by decide) e rfl), R2.kept gst (.inr fun e => za4 R2 KS (by decide) e rfl), R3.kept gst (.inr fun e => za4 R3 KS (by decide) e rfl), hp, hl, hh⟩, Zh (HB.grown gst HB.size (fun q hq => by cases hq; exact Nat.le_refl _))⟩
end Go.Proofs.YtijkbflimbffmaaGreat
