/-
  lease.places, for both its types: the iterator that it hands back hands on, rising, the places of those that are as is asked.
-/
import Derived.Test.YtbnhaoimdponkaaLList
import Derived.RangeFuncBox
import Derived.RangeFuncNested
import Derived.RangeFuncBound
import Derived.RangeFuncCalls
import Derived.RangeFuncLeaves
import Derived.Shelf.Abstract
import Derived.Shelf.RegionOpen
import Derived.OwnWalkIn
import Derived.TacticsInMore
import Derived.LoopNIn
import Derived.LoopIn
namespace Go.Proofs.Ytbnhaoimdponkaa
open Go.RowKit Go.Shelf
attribute [local go_sem] Oper.semAt_some

abbrev encL {n : Nat} (x : Fin n) : Array Value := #[.int .i64 (x.val : Int)]
/-- A value that hands places on, in whatever world that lies behind w. -/
def Gives (F : FuncId) (lb : Array Value) (H X m : Nat) (ys : List (Fin m)) (w : World) : Prop :=
  ∀ n, 4 ≤ n → SeqStopsK Fence.wide n Try.prog F lb (fun x : Fin m => encL x) (KpL H X) (fun l => l = ys) (fun pre => pre <+: ys) (m + 1) w
set_option maxRecDepth 100000 in
set_option maxHeartbeats 400000 in
theorem had1_in (n r Bl Bf H X : Nat) (hn : 4 ≤ n) (a : Option Addr) (m c : Nat) (l : List L.T3) (g : FuncId) (hE : Enters Try.prog g) (lb : Array Value) (p : L.T3 → Bool) (J Jx : List (Fin l.length) → World → Prop)
    (hJ : ∀ W W' pre, Below W.heap.size W W' → J pre W → J pre W')
    (hY : ∀ pre x W, J pre W → pre.length < l.length + 1 → YieldAt Fence.wide (n - 1) Try.prog r (encL x) W fun e W' =>
      (e = .returned (.bool true) ∧ J (pre ++ [x]) W' ∧ KpL H X W W') ∨ (e = .returned (.bool false) ∧ Jx (pre ++ [x]) W'))
    (W : World) (hBl : Blok W Bl 67 #[.slice a m c]) (hBf : Blok W Bf 70 #[.func (.func g) #[] lb]) (hr : RIn W a m c l) (hA : Asks H X g lb p W)
    (hH : H ≤ W.heap.size) (hBfH : Bf < H ∧ Bf ≠ X) (haH : Far H X a l) (h0 : J [] W) :
    CallsIn Fence.wide n Try.prog 54 #[.func (.yield r) #[] #[], .pointer (some ⟨Bl, 0, none⟩), .pointer (some ⟨Bf, 0, none⟩)] W fun e W' => (∃ v, e = .returned v) ∧
      ((∃ ys, ys = L.pl p l ∧ J ys W') ∨ (∃ pre, pre <+: L.pl p l ∧ Jx pre W')) := by
  have hf1 : Fence.wide.fn 54 := trivial
  have hro : Fence.wide.round = none := rfl
  have hfg : Fence.wide.fn g := trivial
  have HBf := Lib.hid hBf
  have HR := Lib.hid hr
  have HA := Lib.hid hA
  have c0 : W.cell? ⟨Bl, 0, none⟩ = some (.slice a m c) := Blok.cell hBl 0
  have h1 : 1 ≤ n := by omega
  have h2 : 1 ≤ n - 1 := by omega
  have h3 : 1 ≤ n - 1 - 1 := by omega
  have hlm : l.length = m := hr.1
  have hmx : m ≤ 9223372036854775807 := by have := hr.2.1; unfold maxLen at this; omega
  clear hBl hBf hr hA
  refine callsIn_of_wp Try.func54 rfl hf1 ?_ hro
  simp only [Try.ntmps54, List.size_toArray, List.length_cons, List.length_nil, Nat.reduceAdd, Nat.reduceSub, Array.replicate_succ, Array.replicate_zero, List.push_toArray, List.append_toArray, List.nil_append, List.cons_append]
  gi_wp2_with fail
  gi_loopw [8] (fun i wr => ∃ k : Nat, i = .int .i64 k ∧ k ≤ m ∧ Hid (J (L.plTo p l k) wr) ∧ Hid (KpL H X W wr)) (fun i _ => m - (intOf i).toNat)
  case atStart => exact ⟨0, rfl, by omega, Lib.hid (by rw [L.plTo_zero]; exact h0), Lib.hid (KpL.r _ _ _)⟩
  case round =>
    obtain ⟨k, rfl, hk, HJ, HK⟩ := hrel
    by_cases hlt : k < m
    · have dk : decide ((k : Int) < m) = true := by simp; omega
      obtain ⟨b, off, x, hab, hbl, hx, p0, p1, p2⟩ := (HK.out.rin HR.out haH).at3 hlt
      subst hab
      have k0 : (0 : Int) ≤ k := by omega
      have k1 : (k : Int) < m := by omega
      have hkl : k < l.length := by omega
      have hxe : l[k]'hkl = x := (List.getElem?_eq_some_iff.1 hx).2
      have TB : Hid (Below wr.heap.size wr (wr.alloc (.cells #[.int .i64 x.a, .int .i64 x.b, .int .i64 x.x] 66))) := Lib.hid ((Below.refl _ wr).alloc (Nat.le_refl _) _)
      have TK : Hid (Blok (wr.alloc (.cells #[.int .i64 x.a, .int .i64 x.b, .int .i64 x.x] 66)) wr.heap.size 66 #[.int .i64 x.a, .int .i64 x.b, .int .i64 x.x]) := Lib.hid (Blok.new _ _ _)
      have hHw : H ≤ wr.heap.size := Nat.le_trans hH HK.out.1.size
      have HJt := Lib.hid (hJ _ _ _ TB.out HJ.out)
      have HKt := Lib.hid (HK.out.t (KpL.of_below TB.out hHw))
      obtain ⟨V, hV⟩ : ∃ V, wr.alloc (.cells #[.int .i64 x.a, .int .i64 x.b, .int .i64 x.x] 66) = V := ⟨_, rfl⟩
      rw [hV] at TB TK HJt HKt
      have hfb : V.cell? ⟨Bf, 0, none⟩ = some (.func (.func g) #[] lb) := Blok.cell (HKt.out.blok HBf.out hBfH.1 hBfH.2) 0
      have t0 : V.cell? ⟨wr.heap.size, 0, none⟩ = some (.int .i64 x.a) := Blok.cell TK.out 0
      have t1 : V.cell? ⟨wr.heap.size, 1, none⟩ = some (.int .i64 x.b) := Blok.cell TK.out 1
      have t2 : V.cell? ⟨wr.heap.size, 2, none⟩ = some (.int .i64 x.x) := Blok.cell TK.out 2
      have hsV : H ≤ V.heap.size := Nat.le_trans hH HKt.out.1.size
      obtain ⟨u, hu⟩ : ∃ u, p x = u := ⟨_, rfl⟩
      have ca := HA.out V HKt.out x
      rw [hu] at ca
      unfold L.val3 at ca
      have he := hE (#[.agg #[.int .i64 x.a, .int .i64 x.b, .int .i64 x.x]] ++ lb) V
      have HX := Lib.hid hxe
      have HU := Lib.hid hu
      have HaH := Lib.hid haH
      have HBfH := Lib.hid hBfH
      clear hx hxe hu TB TK HK HJ haH hBfH
      gi_wp2_with fail
      refine (callsIn_wide.2 ca).mono ?_
      rintro e w2 ⟨rfl, hb2⟩
      have HJ2 := Lib.hid (hJ _ _ _ hb2 HJt.out)
      have HK2 := Lib.hid (HKt.out.t (KpL.of_below hb2 hsV))
      clear hb2 ca he t0 t1 t2 hfb HJt HKt
      cases u with
      | true =>
        have hp : p (l[k]'hkl) = true := by rw [HX.out, HU.out]
        have HS := Lib.hid (L.plTo_yes (p := p) hkl hp)
        have hlen : (L.plTo p l k).length < l.length + 1 := by have := L.plTo_len p l k; omega
        obtain ⟨fn, tmps, assign, body, hy, hR⟩ := hY (L.plTo p l k) ⟨k, hkl⟩ w2 HJ2.out hlen
        dsimp only [encL] at hy
        clear hlen hp
        gi_wp2
        refine hR.mono ?_
        rintro e3 W3 (⟨rfl, hJ3, hk3⟩ | ⟨rfl, hx3⟩)
        · have HJ3 := Lib.hid hJ3
          have HK3 := Lib.hid (HK2.out.t hk3)
          clear hJ3 hk3 hR hy
          gi_wp2
          go_roundw
          case rel => exact ⟨k + 1, by go_num, by omega, Lib.hid (by rw [HS.out]; exact HJ3.out), HK3⟩
          case measure => simp [intOf] <;> omega
        · have HX3 := Lib.hid hx3
          clear hx3 hR hy
          gi_wp2
          refine bodyPost_ret (results_none rfl _ _ _) rfl ?_
          exact ⟨⟨_, rfl⟩, .inr ⟨_, by rw [← HS.out]; exact L.plTo_prefix _ _ _, HX3.out⟩⟩
      | false =>
        have hp : p (l[k]'hkl) = false := by rw [HX.out, HU.out]
        have HS := Lib.hid (L.plTo_no (p := p) hkl hp)
        clear hp
        gi_wp2
        refine ⟨by simp, ?_⟩
        gi_wp2
        go_roundw
        case rel => exact ⟨k + 1, by go_num, by omega, Lib.hid (by rw [HS.out]; exact HJ2.out), HK2⟩
        case measure => simp [intOf] <;> omega
    · have dk : decide ((k : Int) < m) = false := by simp; omega
      have HE : Hid (L.plTo p l k = L.pl p l) := Lib.hid (L.plTo_all (by omega))
      gi_wp2
      go_end0
      exact ⟨⟨_, rfl⟩, .inl ⟨_, HE.out, HJ.out⟩⟩
theorem had_stops (Bl Bf H X : Nat) (a : Option Addr) (m c : Nat) (l : List L.T3) (g : FuncId) (hE : Enters Try.prog g) (lb : Array Value) (p : L.T3 → Bool) (w : World) (hBl : Blok w Bl 67 #[.slice a m c]) (hBf : Blok w Bf 70 #[.func (.func g) #[] lb]) (hr : RIn w a m c l) (hA : Asks H X g lb p w)
    (hH : H ≤ w.heap.size) (hBfH : Bf < H ∧ Bf ≠ X) (haH : Far H X a l) : Gives 54 #[.pointer (some ⟨Bl, 0, none⟩), .pointer (some ⟨Bf, 0, none⟩)] H X l.length (L.pl p l) w := by
  intro n hn r J Jx W hW hJ _ hY h0
  exact had1_in n r Bl Bf H X hn a m c l g hE lb p J Jx (fun W1 W2 pre hb hj => hJ pre W1 W2 none hj (L.below_none hb) (fun r e => by cases e)) hY W (hBl.below hW hBl.lt) (hBf.below hW hBf.lt) (hr.below hW) (hA.on (KpL.of_below hW hH)) (Nat.le_trans hH hW.size) hBfH haH h0
set_option maxHeartbeats 400000 in
theorem had_make (a : Option Addr) (m c : Nat) (g : FuncId) (lb : Array Value) (w : World) :
    Calls Try.prog 31 #[.slice a m c, .func (.func g) #[] lb] w fun e w' => e = .returned (.func (.func 54) #[] #[.pointer (some ⟨w.heap.size, 0, none⟩), .pointer (some ⟨w.heap.size + 1, 0, none⟩)]) ∧ w' = (w.alloc (.cells #[.slice a m c] 67)).alloc (.cells #[.func (.func g) #[] lb] 70) := by
  go_enter Try.func31, Try.ntmps31
  go_wp2
  go_ret
  exact ⟨rfl, rfl⟩
/-- **places**: it hands back what gives the places. -/
theorem had_any (X : Nat) (a : Option Addr) (m c : Nat) (l : List L.T3) (g : FuncId) (hE : Enters Try.prog g) (lb : Array Value) (p : L.T3 → Bool) (w : World) (hr : RIn w a m c l) (hA : Asks w.heap.size X g lb p w)
    (hX : X ≠ w.heap.size ∧ X ≠ w.heap.size + 1) (haH : l = [] ∨ ∀ x, a = some x → x.block ≠ X) :
    Calls Try.prog 31 #[.slice a m c, .func (.func g) #[] lb] w fun e w' => ∃ bl, e = .returned (.func (.func 54) #[] bl) ∧ Gives 54 bl (w.heap.size + 2) X l.length (L.pl p l) w' ∧ Below w.heap.size w w' ∧ w'.heap.size = w.heap.size + 2 := by
  refine (had_make a m c g lb w).mono ?_
  rintro e w' ⟨rfl, rfl⟩
  have hb : Below w.heap.size w ((w.alloc (.cells #[.slice a m c] 67)).alloc (.cells #[.func (.func g) #[] lb] 70)) := ((Below.refl _ w).alloc (Nat.le_refl _) _).alloc (by simp) _
  have h1 := (Blok.new w 67 #[.slice a m c]).alloc (.cells #[.func (.func g) #[] lb] 70)
  have h2 := Blok.new (w.alloc (.cells #[.slice a m c] 67)) 70 #[.func (.func g) #[] lb]
  rw [World.size_alloc] at h2
  refine ⟨_, rfl, had_stops w.heap.size (w.heap.size + 1) (w.heap.size + 2) X a m c l g hE lb p _ h1 h2 (hr.below hb) ((hA.on (KpL.of_below hb (Nat.le_refl _))).mono (by omega)) (by simp) ⟨by omega, fun e => hX.2 e.symm⟩ (hr.far (by omega) haH), hb, by simp⟩
set_option maxRecDepth 100000 in
set_option maxHeartbeats 400000 in
theorem kept1_in (n r Bl Bf H X : Nat) (hn : 4 ≤ n) (a : Option Addr) (m c : Nat) (l : List L.T3) (g : FuncId) (hE : Enters Try.prog g) (lb : Array Value) (p : L.T3 → Bool) (J Jx : List (Fin l.length) → World → Prop)
    (hJ : ∀ W W' pre, Below W.heap.size W W' → J pre W → J pre W')
    (hY : ∀ pre x W, J pre W → pre.length < l.length + 1 → YieldAt Fence.wide (n - 1) Try.prog r (encL x) W fun e W' =>
      (e = .returned (.bool true) ∧ J (pre ++ [x]) W' ∧ KpL H X W W') ∨ (e = .returned (.bool false) ∧ Jx (pre ++ [x]) W'))
    (W : World) (hBl : Blok W Bl 77 #[.slice a m c]) (hBf : Blok W Bf 89 #[.func (.func g) #[] lb]) (hr : RIn W a m c l) (hA : Asks H X g lb p W)
    (hH : H ≤ W.heap.size) (hBfH : Bf < H ∧ Bf ≠ X) (haH : Far H X a l) (h0 : J [] W) :
    CallsIn Fence.wide n Try.prog 62 #[.func (.yield r) #[] #[], .pointer (some ⟨Bl, 0, none⟩), .pointer (some ⟨Bf, 0, none⟩)] W fun e W' => (∃ v, e = .returned v) ∧
      ((∃ ys, ys = L.pl p l ∧ J ys W') ∨ (∃ pre, pre <+: L.pl p l ∧ Jx pre W')) := by
  have hf1 : Fence.wide.fn 62 := trivial
  have hro : Fence.wide.round = none := rfl
  have hfg : Fence.wide.fn g := trivial
  have HBf := Lib.hid hBf
  have HR := Lib.hid hr
  have HA := Lib.hid hA
  have c0 : W.cell? ⟨Bl, 0, none⟩ = some (.slice a m c) := Blok.cell hBl 0
  have h1 : 1 ≤ n := by omega
  have h2 : 1 ≤ n - 1 := by omega
  have h3 : 1 ≤ n - 1 - 1 := by omega
  have hlm : l.length = m := hr.1
  have hmx : m ≤ 9223372036854775807 := by have := hr.2.1; unfold maxLen at this; omega
  clear hBl hBf hr hA
  refine callsIn_of_wp Try.func62 rfl hf1 ?_ hro
  simp only [Try.ntmps62, List.size_toArray, List.length_cons, List.length_nil, Nat.reduceAdd, Nat.reduceSub, Array.replicate_succ, Array.replicate_zero, List.push_toArray, List.append_toArray, List.nil_append, List.cons_append]
  gi_wp2_with fail
  gi_loopw [8] (fun i wr => ∃ k : Nat, i = .int .i64 k ∧ k ≤ m ∧ Hid (J (L.plTo p l k) wr) ∧ Hid (KpL H X W wr)) (fun i _ => m - (intOf i).toNat)
  case atStart => exact ⟨0, rfl, by omega, Lib.hid (by rw [L.plTo_zero]; exact h0), Lib.hid (KpL.r _ _ _)⟩
  case round =>
    obtain ⟨k, rfl, hk, HJ, HK⟩ := hrel
    by_cases hlt : k < m
    · have dk : decide ((k : Int) < m) = true := by simp; omega
      obtain ⟨b, off, x, hab, hbl, hx, p0, p1, p2⟩ := (HK.out.rin HR.out haH).at3 hlt
      subst hab
      have k0 : (0 : Int) ≤ k := by omega
      have k1 : (k : Int) < m := by omega
      have hkl : k < l.length := by omega
      have hxe : l[k]'hkl = x := (List.getElem?_eq_some_iff.1 hx).2
      have TB : Hid (Below wr.heap.size wr (wr.alloc (.cells #[.int .i64 x.a, .int .i64 x.b, .int .i64 x.x] 80))) := Lib.hid ((Below.refl _ wr).alloc (Nat.le_refl _) _)
      have TK : Hid (Blok (wr.alloc (.cells #[.int .i64 x.a, .int .i64 x.b, .int .i64 x.x] 80)) wr.heap.size 80 #[.int .i64 x.a, .int .i64 x.b, .int .i64 x.x]) := Lib.hid (Blok.new _ _ _)
      have hHw : H ≤ wr.heap.size := Nat.le_trans hH HK.out.1.size
      have HJt := Lib.hid (hJ _ _ _ TB.out HJ.out)
      have HKt := Lib.hid (HK.out.t (KpL.of_below TB.out hHw))
      obtain ⟨V, hV⟩ : ∃ V, wr.alloc (.cells #[.int .i64 x.a, .int .i64 x.b, .int .i64 x.x] 80) = V := ⟨_, rfl⟩
      rw [hV] at TB TK HJt HKt
      have hfb : V.cell? ⟨Bf, 0, none⟩ = some (.func (.func g) #[] lb) := Blok.cell (HKt.out.blok HBf.out hBfH.1 hBfH.2) 0
      have t0 : V.cell? ⟨wr.heap.size, 0, none⟩ = some (.int .i64 x.a) := Blok.cell TK.out 0
      have t1 : V.cell? ⟨wr.heap.size, 1, none⟩ = some (.int .i64 x.b) := Blok.cell TK.out 1
      have t2 : V.cell? ⟨wr.heap.size, 2, none⟩ = some (.int .i64 x.x) := Blok.cell TK.out 2
      have hsV : H ≤ V.heap.size := Nat.le_trans hH HKt.out.1.size
      obtain ⟨u, hu⟩ : ∃ u, p x = u := ⟨_, rfl⟩
      have ca := HA.out V HKt.out x
      rw [hu] at ca
      unfold L.val3 at ca
      have he := hE (#[.agg #[.int .i64 x.a, .int .i64 x.b, .int .i64 x.x]] ++ lb) V
      have HX := Lib.hid hxe
      have HU := Lib.hid hu
      have HaH := Lib.hid haH
      have HBfH := Lib.hid hBfH
      clear hx hxe hu TB TK HK HJ haH hBfH
      gi_wp2_with fail
      refine (callsIn_wide.2 ca).mono ?_
      rintro e w2 ⟨rfl, hb2⟩
      have HJ2 := Lib.hid (hJ _ _ _ hb2 HJt.out)
      have HK2 := Lib.hid (HKt.out.t (KpL.of_below hb2 hsV))
      clear hb2 ca he t0 t1 t2 hfb HJt HKt
      cases u with
      | true =>
        have hp : p (l[k]'hkl) = true := by rw [HX.out, HU.out]
        have HS := Lib.hid (L.plTo_yes (p := p) hkl hp)
        have hlen : (L.plTo p l k).length < l.length + 1 := by have := L.plTo_len p l k; omega
        obtain ⟨fn, tmps, assign, body, hy, hR⟩ := hY (L.plTo p l k) ⟨k, hkl⟩ w2 HJ2.out hlen
        dsimp only [encL] at hy
        clear hlen hp
        gi_wp2
        refine hR.mono ?_
        rintro e3 W3 (⟨rfl, hJ3, hk3⟩ | ⟨rfl, hx3⟩)
        · have HJ3 := Lib.hid hJ3
          have HK3 := Lib.hid (HK2.out.t hk3)
          clear hJ3 hk3 hR hy
          gi_wp2
          go_roundw
          case rel => exact ⟨k + 1, by go_num, by omega, Lib.hid (by rw [HS.out]; exact HJ3.out), HK3⟩
          case measure => simp [intOf] <;> omega
        · have HX3 := Lib.hid hx3
          clear hx3 hR hy
          gi_wp2
          refine bodyPost_ret (results_none rfl _ _ _) rfl ?_
          exact ⟨⟨_, rfl⟩, .inr ⟨_, by rw [← HS.out]; exact L.plTo_prefix _ _ _, HX3.out⟩⟩
      | false =>
        have hp : p (l[k]'hkl) = false := by rw [HX.out, HU.out]
        have HS := Lib.hid (L.plTo_no (p := p) hkl hp)
        clear hp
        gi_wp2
        refine ⟨by simp, ?_⟩
        gi_wp2
        go_roundw
        case rel => exact ⟨k + 1, by go_num, by omega, Lib.hid (by rw [HS.out]; exact HJ2.out), HK2⟩
        case measure => simp [intOf] <;> omega
    · have dk : decide ((k : Int) < m) = false := by simp; omega
      have HE : Hid (L.plTo p l k = L.pl p l) := Lib.hid (L.plTo_all (by omega))
      gi_wp2
      go_end0
      exact ⟨⟨_, rfl⟩, .inl ⟨_, HE.out, HJ.out⟩⟩
theorem kept_stops (Bl Bf H X : Nat) (a : Option Addr) (m c : Nat) (l : List L.T3) (g : FuncId) (hE : Enters Try.prog g) (lb : Array Value) (p : L.T3 → Bool) (w : World) (hBl : Blok w Bl 77 #[.slice a m c]) (hBf : Blok w Bf 89 #[.func (.func g) #[] lb]) (hr : RIn w a m c l) (hA : Asks H X g lb p w)
    (hH : H ≤ w.heap.size) (hBfH : Bf < H ∧ Bf ≠ X) (haH : Far H X a l) : Gives 62 #[.pointer (some ⟨Bl, 0, none⟩), .pointer (some ⟨Bf, 0, none⟩)] H X l.length (L.pl p l) w := by
  intro n hn r J Jx W hW hJ _ hY h0
  exact kept1_in n r Bl Bf H X hn a m c l g hE lb p J Jx (fun W1 W2 pre hb hj => hJ pre W1 W2 none hj (L.below_none hb) (fun r e => by cases e)) hY W (hBl.below hW hBl.lt) (hBf.below hW hBf.lt) (hr.below hW) (hA.on (KpL.of_below hW hH)) (Nat.le_trans hH hW.size) hBfH haH h0
set_option maxHeartbeats 400000 in
theorem kept_make (a : Option Addr) (m c : Nat) (g : FuncId) (lb : Array Value) (w : World) :
    Calls Try.prog 49 #[.slice a m c, .func (.func g) #[] lb] w fun e w' => e = .returned (.func (.func 62) #[] #[.pointer (some ⟨w.heap.size, 0, none⟩), .pointer (some ⟨w.heap.size + 1, 0, none⟩)]) ∧ w' = (w.alloc (.cells #[.slice a m c] 77)).alloc (.cells #[.func (.func g) #[] lb] 89) := by
  go_enter Try.func49, Try.ntmps49
  go_wp2
  go_ret
  exact ⟨rfl, rfl⟩
/-- **places**: it hands back what gives the places. -/
theorem kept_any (X : Nat) (a : Option Addr) (m c : Nat) (l : List L.T3) (g : FuncId) (hE : Enters Try.prog g) (lb : Array Value) (p : L.T3 → Bool) (w : World) (hr : RIn w a m c l) (hA : Asks w.heap.size X g lb p w)
    (hX : X ≠ w.heap.size ∧ X ≠ w.heap.size + 1) (haH : l = [] ∨ ∀ x, a = some x → x.block ≠ X) :
    Calls Try.prog 49 #[.slice a m c, .func (.func g) #[] lb] w fun e w' => ∃ bl, e = .returned (.func (.func 62) #[] bl) ∧ Gives 62 bl (w.heap.size + 2) X l.length (L.pl p l) w' ∧ Below w.heap.size w w' ∧ w'.heap.size = w.heap.size + 2 := by
  refine (kept_make a m c g lb w).mono ?_
  rintro e w' ⟨rfl, rfl⟩
  have hb : Below w.heap.size w ((w.alloc (.cells #[.slice a m c] 77)).alloc (.cells #[.func (.func g) #[] lb] 89)) := ((Below.refl _ w).alloc (Nat.le_refl _) _).alloc (by simp) _
  have h1 := (Blok.new w 77 #[.slice a m c]).alloc (.cells #[.func (.func g) #[] lb] 89)
  have h2 := Blok.new (w.alloc (.cells #[.slice a m c] 77)) 89 #[.func (.func g) #[] lb]
  rw [World.size_alloc] at h2
  refine ⟨_, rfl, kept_stops w.heap.size (w.heap.size + 1) (w.heap.size + 2) X a m c l g hE lb p _ h1 h2 (hr.below hb) ((hA.on (KpL.of_below hb (Nat.le_refl _))).mono (by omega)) (by simp) ⟨by omega, fun e => hX.2 e.symm⟩ (hr.far (by omega) haH), hb, by simp⟩
end Go.Proofs.Ytbnhaoimdponkaa
