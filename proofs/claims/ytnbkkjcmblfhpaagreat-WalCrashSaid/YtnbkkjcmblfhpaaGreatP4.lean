import Derived.Lib.QuietBelow
import Derived.RangeFuncBox
import Derived.RangeFuncNested
import Derived.RangeFuncBound
import Derived.RangeFuncCalls
import Derived.RangeFuncLeaves
import Derived.Shelf.Abstract
import Derived.Shelf.RegionOpen
import Derived.OwnWalkIn
import Derived.TacticsInMore
import Derived.LoopNIn
import Derived.LoopIn
import Derived.Laws.BitsLemmas
import Derived.Deep.RegionWith
import Derived.WalkMore
import Derived.Lib.RowBridge
import Derived.Test.YtnbkkjcmblfhpaaGreatP0
import Derived.Test.YtnbkkjcmblfhpaaGreatP1
import Derived.Test.YtnbkkjcmblfhpaaGreatP3
namespace Go.Proofs.YtnbkkjcmblfhpaaGreat
set_option maxHeartbeats 1000000
set_option maxRecDepth 100000
def U.may (n u : Int) : Bool := decide (0 <= n /\ n <= 8 /\ 0 <= u /\ u < 2 ^ n.toNat)
def U.bit (u : Int) (i : Nat) : Bool := decide (u / 2 ^ i % 2 = 1)
def U.num (b : Bool) : Int := if b then 1 else 0
def U.all (n u : Int) : List (Nat × Bool) := if U.may n u then (List.range n.toNat).map fun i => (i, U.bit u i) else []
def U.at' (n u i : Int) : Int := if U.may n u && decide (0 <= i) && decide (i < n) then U.num (U.bit u i.toNat) else -1
def U.off (n u i : Int) : Bool := decide (U.at' n u i = 0)
def U.take (n u i : Int) : Int := if U.off n u i then u + 2 ^ i.toNat else u
def U.free (n u : Int) : List Int := (U.all n u).filterMap fun p => if p.2 then none else some (p.1 : Int)
def U.first (n u : Int) : Int := (U.free n u).headD (-1)
theorem U.may_iff {n u : Int} : U.may n u = true ↔ 0 <= n /\ n <= 8 /\ 0 <= u /\ u < 2 ^ n.toNat := by simp [U.may]
theorem U.may_cases {n u : Int} (h : U.may n u = true) : ∃ (m : Nat) (v : Nat), n = m /\ u = v /\ m <= 8 /\ v < 2 ^ m /\ v < 256 := by
 obtain ⟨h0, h1, h2, h3⟩ := U.may_iff.1 h
 have hp : (2 : Int) ^ n.toNat = ((2 ^ n.toNat : Nat) : Int) := by norm_cast
 have hle : 2 ^ n.toNat <= 2 ^ 8 := Nat.pow_le_pow_right (by decide) (by omega)
 exact ⟨n.toNat, u.toNat, by omega, by omega, by omega, by omega, by omega⟩
theorem U.all_no {n u : Int} (h : U.may n u = false) : U.all n u = [] := by simp [U.all, h]
theorem U.all_yes {n u : Int} (h : U.may n u = true) : U.all n u = (List.range n.toNat).map fun i => (i, U.bit u i) := by simp [U.all, h]
theorem U.all_len {n u : Int} (h : U.may n u = true) : (U.all n u).length = n.toNat := by simp [U.all_yes h]
theorem U.all_le (n u : Int) : (U.all n u).length <= 8 := by
 cases h : U.may n u with
 | false => simp [U.all_no h]
 | true => have := (U.may_iff.1 h); rw [U.all_len h]; omega
theorem U.all_take {n u : Int} (h : U.may n u = true) {k : Nat} (hk : k < n.toNat) : (U.all n u).take (k + 1) = (U.all n u).take k ++ [(k, U.bit u k)] := by
 have hl : k < (U.all n u).length := by rw [U.all_len h]; exact hk
 rw [List.take_succ_eq_append_getElem hl]
 simp [U.all_yes h]
theorem U.at_prefix {n u i : Int} {pre : List (Nat × Bool)} {k : Nat} {b : Bool} (h : pre ++ [(k, b)] <+: U.all n u) (hne : ∀ p ∈ pre, (p.1 : Int) ≠ i) (hi : (k : Int) = i) : U.at' n u i = U.num b := by
 cases hm : U.may n u with
 | false => rw [U.all_no hm] at h; simp at h
 | true =>
  rw [U.all_yes hm] at h
  have hg : ((List.range n.toNat).map fun i => (i, U.bit u i))[pre.length]? = some (k, b) := by
   obtain ⟨t, ht⟩ := h
   rw [<- ht]; simp
  simp at hg
  obtain ⟨j, hl, h1, h2⟩ := hg
  have e : j = pre.length := by
   have := List.getElem?_eq_some_iff.1 hl
   simpa using this.2.symm
  subst hi
  have hn := U.may_iff.1 hm
  have hk : pre.length < n.toNat := by
   have := (List.getElem?_eq_some_iff.1 hl).1
   simpa using this
  simp only [U.at', hm]
  rw [if_pos (by simp; omega)]
  rw [<- h2, <- h1]; simp
theorem U.at_none {n u i : Int} (hne : ∀ p ∈ U.all n u, (p.1 : Int) ≠ i) : U.at' n u i = -1 := by
 cases hm : U.may n u with
 | false => simp [U.at', hm]
 | true =>
  simp only [U.at', hm]
  rw [if_neg]
  intro hh
  simp at hh
  refine hne (i.toNat, U.bit u i.toNat) ?_ (by have := hh.1; show ((i.toNat : Nat) : Int) = i; omega)
  rw [U.all_yes hm]
  exact List.mem_map.2 ⟨i.toNat, List.mem_range.2 (by omega), rfl⟩
open Go.RowKit
def ubox (w : World) (n u : Int) : World := w.alloc (.cells #[.int .i64 n, .int .i64 u] 327)
theorem zbf (w : World) (n u : Int) : Below w.heap.size w (ubox w n u) := (Below.refl _ w).alloc (Nat.le_refl _) _
theorem ze5 (w : World) (n u : Int) : (ubox w n u).heap.size = w.heap.size + 1 := by simp [ubox]
theorem zbw (w : World) (n u : Int) : Blok (ubox w n u) w.heap.size 327 #[.int .i64 n, .int .i64 u] := Blok.new w _ _
theorem u0 {w : World} {g : Nat} {n u : Int} (h : Blok w g 327 #[.int .i64 n, .int .i64 u]) : w.cell? ⟨g, 0, none⟩ = some (.int .i64 n) := h.cell 0
theorem u1 {w : World} {g : Nat} {n u : Int} (h : Blok w g 327 #[.int .i64 n, .int .i64 u]) : w.cell? ⟨g, 1, none⟩ = some (.int .i64 u) := h.cell 1
theorem U.shl_of {m : Nat} (h : m <= 8) : wrap64 (2 ^ m) = 2 ^ m := by
 have h1 : 2 ^ m <= 2 ^ 8 := Nat.pow_le_pow_right (by decide) h
 have e : ((2 : Int) ^ m) = ((2 ^ m : Nat) : Int) := by simp
 rw [e]
 generalize 2 ^ m = q at h1
 exact IntWalk.wrap64_in _ (by omega)
theorem zey (n u : Int) (b : Bool) (w : World) (h : U.may n u = b) : Calls Tryz.prog 359 #[.agg #[.int .i64 n, .int .i64 u]] w fun e w' => e = .returned (.bool b) /\ Below w.heap.size w w' := by
 have HB := Zh (zbf w n u)
 have HH := Zh h
 have k0 := fun d os => cell_regrown (u0 (zbw w n u)) d os
 have k1 := fun d os => cell_regrown (u1 (zbw w n u)) d os
 unfold ubox at k0 k1
 clear h
 by_cases h0 : 0 <= n
 ·by_cases h1 : n <= 8
  ·obtain ⟨m, rfl⟩ := Int.eq_ofNat_of_zero_le h0
   have HM : Hid (U.may m u = (decide (0 <= u) && decide (u < wrap64 (2 ^ m)))) := Zh (by
    rw [U.shl_of (by omega)]
    unfold U.may
    simp [h1])
   clear h0
   by_cases g0 : 0 <= u
   ·have G0 : Hid (U.may m u = decide (u < wrap64 (2 ^ m))) := Zh (by rw [HM.out]; simp [g0])
    go_enter Tryz.func359, Tryz.ntmps359
    go_wp2_with fail
    refine wp_region_quiet_below (by kernel_rfl) (by kernel_rfl) ?_
    repeat (go_big_quiet_step (fail))
    refine wpQuiet_nil ?_
    intro _ hw'
    obtain ⟨⟨dq, osq⟩, hw''⟩ := hw'
    subst hw''
    go_wp2
    go_ret
    exact ⟨by rw [<- HH.out]; rw [G0.out]; rfl, HB.out.trans ((below_regrown _ dq osq).mono HB.out.size)⟩
   ·have G0 : Hid (U.may m u = false) := Zh (by rw [HM.out]; simp [g0])
    have g1 : decide (0 <= u) = false := decide_eq_false g0
    go_enter Tryz.func359, Tryz.ntmps359
    go_wp2_with fail
    refine wp_region_quiet_below (by kernel_rfl) (by kernel_rfl) ?_
    repeat (go_big_quiet_step (fail))
    refine wpQuiet_nil ?_
    intro _ hw'
    obtain ⟨⟨dq, osq⟩, hw''⟩ := hw'
    subst hw''
    go_wp2
    go_ret
    exact ⟨by rw [<- HH.out]; rw [G0.out]; rfl, HB.out.trans ((below_regrown _ dq osq).mono HB.out.size)⟩
  ·have G0 : Hid (U.may n u = false) := Zh (by unfold U.may; simp; omega)
   have g1 : decide (n <= 8) = false := decide_eq_false h1
   clear h1
   go_enter Tryz.func359, Tryz.ntmps359
   go_wp2_with fail
   refine wp_region_quiet_below (by kernel_rfl) (by kernel_rfl) ?_
   repeat (go_big_quiet_step (fail))
   refine wpQuiet_nil ?_
   intro _ hw'
   obtain ⟨⟨dq, osq⟩, hw''⟩ := hw'
   subst hw''
   go_wp2
   go_ret
   exact ⟨by rw [<- HH.out]; rw [G0.out]; rfl, HB.out.trans ((below_regrown _ dq osq).mono HB.out.size)⟩
 ·have G0 : Hid (U.may n u = false) := Zh (by unfold U.may; simp; omega)
  have g1 : decide (0 <= n) = false := decide_eq_false h0
  clear h0
  go_enter Tryz.func359, Tryz.ntmps359
  go_wp2_with fail
  refine wp_region_quiet_below (by kernel_rfl) (by kernel_rfl) ?_
  repeat (go_big_quiet_step (fail))
  refine wpQuiet_nil ?_
  intro _ hw'
  obtain ⟨⟨dq, osq⟩, hw''⟩ := hw'
  subst hw''
  go_wp2
  go_ret
  exact ⟨by rw [<- HH.out]; rw [G0.out]; rfl, HB.out.trans ((below_regrown _ dq osq).mono HB.out.size)⟩
open Go.RowKit Go.Shelf
attribute [local go_sem] Oper.semAt_some
abbrev encU (x : Nat × Bool) : Array Value := #[.int .i64 (x.1 : Int), .int .i64 (U.num x.2)]
def KpU (H Bn : Nat) (W W' : World) : Prop := Below H W W' /\ W'.heap[Bn]? = W.heap[Bn]?
theorem KpU.t {H Bn : Nat} {A B C : World} (h : KpU H Bn A B) (k : KpU H Bn B C) : KpU H Bn A C := ⟨h.1.trans k.1, k.2.trans h.2⟩
theorem KpU.r (H Bn : Nat) (W : World) : KpU H Bn W W := ⟨Below.refl _ _, rfl⟩
theorem U.bit_of {u : Int} {k : Nat} (h0 : 0 <= u) (h1 : u < 256) : bits .and .i64 (u / 2 ^ k) 1 = U.num (U.bit u k) := by
 obtain ⟨v, rfl⟩ := Int.eq_ofNat_of_zero_le h0
 have h2 : v / 2 ^ k <= v := Nat.div_le_self _ _
 have e : ((v : Int) / 2 ^ k) = ((v / 2 ^ k : Nat) : Int) := by simp
 have h3 : bits .and .i64 ((v / 2 ^ k : Nat) : Int) ((1 : Nat) : Int) = ((v / 2 ^ k &&& 1 : Nat) : Int) := (bits_nat .i64 63 (by decide) (fun n h0 h1 => by rw [IntKind.wrap_i64]; omega) (v / 2 ^ k) 1 (by omega) (by decide)).1
 unfold U.bit
 rw [e]
 have h4 : bits .and .i64 ((v / 2 ^ k : Nat) : Int) 1 = ((v / 2 ^ k % 2 : Nat) : Int) := by rw [<- Nat.and_one_is_mod]; exact h3
 rw [h4]
 unfold U.num
 split
 ·rename_i hh; simp at hh; omega
 ·rename_i hh; simp at hh; omega
theorem zjs (n l Bn H : Nat) (hn : 3 <= n) (m u : Int) (J Jx : List (Nat × Bool) -> World -> Prop)
  (hJ : ∀ W W' pre, Below W.heap.size W W' -> J pre W -> J pre W')
  (hY : ∀ pre x W, J pre W -> pre.length < 9 -> YieldAt Fence.wide (n - 1) Tryz.prog l (encU x) W fun e W' =>
   (e = .returned (.bool true) /\ J (pre ++ [x]) W' /\ KpU H Bn W W') \/ (e = .returned (.bool false) /\ Jx (pre ++ [x]) W'))
  (W : World) (hBn : Blok W Bn 327 #[.int .i64 m, .int .i64 u]) (h0 : J [] W) :
  CallsIn Fence.wide n Tryz.prog 358 #[.func (.yield l) #[] #[], .pointer (some ⟨Bn, 0, none⟩)] W fun e W' => (∃ v, e = .returned v) /\
   ((∃ ys, ys = U.all m u /\ J ys W') \/ (∃ pre, pre <+: U.all m u /\ Jx pre W')) := by
 have hf31 : Fence.wide.fn 358 := trivial
 have hf21 : Fence.wide.fn 359 := trivial
 have hro : Fence.wide.round = none := rfl
 have HBn := Zh hBn
 have c0 := u0 hBn
 have c1 := u1 hBn
 have h1 : 1 <= n := by omega
 have h2 : 1 <= n - 1 := by omega
 refine callsIn_of_wp Tryz.func358 rfl hf31 ?_ hro
 simp only [Tryz.ntmps358, List.size_toArray, List.length_cons, List.length_nil, Nat.reduceAdd, Nat.reduceSub, Array.replicate_succ, Array.replicate_zero, List.push_toArray, List.append_toArray, List.nil_append, List.cons_append]
 cases hm : U.may m u with
 | false =>
  have HM := Zh hm
  have hc := zey m u false W hm
  clear hm
  gi_wp2_with fail
  refine (callsIn_wide.2 hc).mono ?_
  rintro e w1 ⟨rfl, hb⟩
  have HJ1 := Zh (hJ _ _ _ hb h0)
  gi_wp2
  refine bodyPost_ret (results_none rfl _ _ _) rfl ?_
  exact ⟨⟨_, rfl⟩, .inl ⟨[], (U.all_no HM.out).symm, HJ1.out⟩⟩
 | true =>
  have HM := Zh hm
  have hc := zey m u true W hm
  obtain ⟨M, V, rfl, rfl, hM8, -, hV⟩ := U.may_cases hm
  clear hm
  gi_wp2_with fail
  refine (callsIn_wide.2 hc).mono ?_
  rintro e w1 ⟨rfl, hb⟩
  have HJ1 := Zh (hJ _ _ _ hb h0)
  have HB1 := Zk HBn hb
  have HW1 := Zh hb
  clear c0 c1 hb
  have c0 := u0 HB1.out
  have c1 := u1 HB1.out
  gi_wp2_with fail
  gi_loopw [9] (fun i wr => ∃ k : Nat, i = .int .i64 k /\ k <= M /\ Hid (J ((U.all M V).take k) wr /\ Blok wr Bn 327 #[.int .i64 M, .int .i64 V])) (fun i _ => M - (intOf i).toNat)
  case atStart => exact ⟨0, rfl, by omega, Zh ⟨by simpa using HJ1.out, HB1.out⟩⟩
  case round =>
   obtain ⟨k, rfl, hk, HK⟩ := hrel
   by_cases hlt : k < M
   ·have d1 := u1 HK.out.2
    have hlen : ((U.all M V).take k).length < 9 := by have := U.all_le M V; simp; omega
    obtain ⟨fn, tmps, assign, body, hy, hR⟩ := hY ((U.all M V).take k) (k, U.bit V k) wr HK.out.1 hlen
    dsimp only [encU] at hy
    have hbit := U.bit_of (u := V) (k := k) (by omega) (by omega)
    clear hlen
    gi_wp2
    refine hR.mono ?_
    rintro e3 W3 (⟨rfl, hJ3, hk3⟩ | ⟨rfl, hx3⟩)
    ·have HB3 := Zh (show Blok W3 Bn _ _ from hk3.2.trans HK.out.2)
     have HJ3 := Zh hJ3
     clear hJ3 hk3 hbit d1
     gi_wp2
     go_roundw
     case rel => exact ⟨k + 1, by go_num, by omega, Zh ⟨by rw [U.all_take HM.out (by simpa using hlt)]; exact HJ3.out, HB3.out⟩⟩
     case measure => simp [intOf]; omega
    ·have HX := Zh hx3
     clear hx3 hbit d1
     gi_wp2
     refine bodyPost_ret (results_none rfl _ _ _) rfl ?_
     exact ⟨⟨_, rfl⟩, .inr ⟨_, by rw [<- U.all_take HM.out (by simpa using hlt)]; exact List.take_prefix _ _, HX.out⟩⟩
   ·have hd : decide (k < M) = false := decide_eq_false hlt
    have HE : Hid (k = M) := Zh (by omega)
    clear hlt hk
    gi_wp2
    go_end0
    exact ⟨⟨_, rfl⟩, .inl ⟨_, rfl, by have := HK.out.1; rwa [HE.out, List.take_of_length_le (by rw [U.all_len HM.out]; simp)] at this⟩⟩
theorem zhx (n : Nat) (m u : Int) (w : World) :
  CallsIn Fence.wide n Tryz.prog 337 #[.agg #[.int .i64 m, .int .i64 u]] w fun e w' => e = .returned (.func (.func 358) #[] #[.pointer (some ⟨w.heap.size, 0, none⟩)]) /\ w' = ubox w m u := by
 have hf29 : Fence.wide.fn 337 := trivial
 refine callsIn_of_wp Tryz.func337 rfl hf29 ?_ rfl
 simp only [Tryz.ntmps337, List.size_toArray, List.length_cons, List.length_nil, Nat.reduceAdd, Nat.reduceSub, Array.replicate_succ, Array.replicate_zero, List.push_toArray, List.append_toArray, List.nil_append, List.cons_append]
 gi_wp2
 go_ret
 exact ⟨rfl, rfl⟩
theorem zfx {w w' : World} (h : Below w.heap.size w w') : w.grownBy w' none := ⟨h.os, h.tape, h.output, h.size, fun k hk _ => h.block k hk⟩
theorem zeg (n H Bn : Nat) (hn : 3 <= n) (m u : Int) (w : World) (hBn : Blok w Bn 327 #[.int .i64 m, .int .i64 u]) :
  SeqStopsK Fence.wide n Tryz.prog 358 #[.pointer (some ⟨Bn, 0, none⟩)] encU (KpU H Bn) (fun ys => ys = U.all m u) (fun pre => pre <+: U.all m u) 9 w := fun l J Jx W hW hJ _ hY h0 =>
 zjs n l Bn H hn m u J Jx (fun W1 W2 pre hb hj => hJ pre W1 W2 none hj (zfx hb) (fun r e => by cases e)) hY W (hBn.below hW hBn.lt) h0
open Go.RowKit Go.Shelf
attribute [local go_sem] Oper.semAt_some
def zju (xs : List (Nat × Bool)) : Int := xs.foldl (fun _ x => U.num x.2) 0
theorem zei (xs : List (Nat × Bool)) (k : Nat) (b : Bool) : zju (xs ++ [(k, b)]) = U.num b := by simp [zju]
theorem zgq {H Bn : Nat} {w : World} (hH : H <= w.heap.size) (hB : Bn < w.heap.size) (W : World) (l : Nat) (o o' : Obj) (hl : w.heap.size <= l) (hW : W.heap[l]? = some o) : KpU H Bn W (W.putObj l o') :=
 ⟨(Below.refl _ W).grown (grownBy_putObj' W l o') (by have := (Array.getElem?_eq_some_iff.1 hW).1; omega) (fun k e => by cases e; omega), (grownBy_putObj' W l o').block _ (by have := (Array.getElem?_eq_some_iff.1 hW).1; omega) (fun e => by cases e; omega)⟩
open Go.RowKit Go.Shelf
attribute [local go_sem] Oper.semAt_some
def zmv (i : Int) (pre : List (Nat × Bool)) : Prop := ∃ (pre' : List (Nat × Bool)) (k : Nat) (b : Bool), pre = pre' ++ [(k, b)] /\ (∀ p ∈ pre', (p.1 : Int) ≠ i) /\ (k : Int) = i
theorem zjw (n : Nat) (hn : 5 <= n) (m u i : Int) (w : World) :
  CallsIn Fence.wide n Tryz.prog 394 #[.agg #[.int .i64 m, .int .i64 u], .int .i64 i] w fun e w' => e = .returned (.int .i64 (U.at' m u i)) /\ Below w.heap.size w w' := by
 have h1 : 1 <= n := by omega
 have hro : Fence.wide.round = none := rfl
 have hf23 : Fence.wide.fn 394 := trivial
 have hf29 : Fence.wide.fn 337 := trivial
 have hf31 : Fence.wide.fn 358 := trivial
 refine callsIn_of_wp_marks Tryz.func394 rfl hf23 ?_ hro
 simp only [Tryz.ntmps394, List.size_toArray, List.length_cons, List.length_nil, Nat.reduceAdd, Nat.reduceSub, Array.replicate_succ, Array.replicate_zero, List.push_toArray, List.append_toArray, List.nil_append, List.cons_append]
 gi_wp2_with (gi_at_call 337; refine (zhx (n - 1) m u _).mono ?_; rintro e w' ⟨rfl, rfl⟩; unfold ubox)
 obtain ⟨w5, hw5⟩ : ∃ w5, ((((w.alloc (.cells #[.int .i64 m, .int .i64 u] 327)).alloc (.cells #[.int .i64 i] 3)).alloc (.cells #[.int .i64 0] 3)).alloc (.cells #[.int .i64 m, .int .i64 u] 327)) = w5 := ⟨_, rfl⟩
 have hb : Below w.heap.size w w5 := by rw [<- hw5]; exact ((((Below.refl _ w).alloc (Nat.le_refl _) _).alloc (by simp) _).alloc (by simp; omega) _).alloc (by simp; omega) _
 have hsz : w5.heap.size = w.heap.size + 4 := by rw [<- hw5]; simp
 have b0 : Boxed w5 (w.heap.size + 1) 3 (.int .i64 i) := by
  rw [<- hw5]; have := ((Boxed.new (w.alloc (.cells #[.int .i64 m, .int .i64 u] 327)) 3 (.int .i64 i)).alloc (.cells #[.int .i64 0] 3)).alloc (.cells #[.int .i64 m, .int .i64 u] 327)
  rwa [World.size_alloc] at this
 have b1 : Boxed w5 (w.heap.size + 2) 3 (.int .i64 0) := by
  rw [<- hw5]; have := (Boxed.new ((w.alloc (.cells #[.int .i64 m, .int .i64 u] 327)).alloc (.cells #[.int .i64 i] 3)) 3 (.int .i64 0)).alloc (.cells #[.int .i64 m, .int .i64 u] 327)
  simpa [World.size_alloc] using this
 have b2 : Blok w5 (w.heap.size + 3) 327 #[.int .i64 m, .int .i64 u] := by
  rw [<- hw5]; have := Blok.new (((w.alloc (.cells #[.int .i64 m, .int .i64 u] 327)).alloc (.cells #[.int .i64 i] 3)).alloc (.cells #[.int .i64 0] 3)) 327 #[.int .i64 m, .int .i64 u]
  simpa [World.size_alloc] using this
 rw [hw5]
 clear hw5
 refine wpIn_rangeFunc_ownG hro h1 (gf := 358) (lb := #[.pointer (some ⟨w.heap.size + 3, 0, none⟩)]) rfl hf31 (enters_of Tryz.func358 (by kernel_rfl) rfl)
  (zeg (n - 1) w.heap.size (w.heap.size + 3) (by omega) m u w5 b2) KpU.t (fun W l o o' hl hW _ _ => zgq (w := w5) (by omega) (by omega) W l o o' hl hW) (Below.refl _ _) (fun _ => rfl)
  (fun pre W => (∀ p ∈ pre, (p.1 : Int) ≠ i) /\ Boxed W (w.heap.size + 1) 3 (.int .i64 i) /\ Boxed W (w.heap.size + 2) 3 (.int .i64 0) /\ Below w.heap.size w W)
  (fun c pre W => c = .ret /\ zmv i pre /\ Boxed W (w.heap.size + 2) 3 (.int .i64 (zju pre)) /\ Below w.heap.size w W)
  (OwnFrom.and (ownFrom_pure _ _) (OwnFrom.and (Own.from (boxed_own _ _ (fun _ => .int .i64 i)) _) (OwnFrom.and (Own.from (boxed_own _ _ (fun _ => .int .i64 0)) _) (ownFrom_below (Nat.le_refl _) (by omega)))))
  (fun c => OwnFrom.and (ownFrom_pure _ _) (OwnFrom.and (ownFrom_pure _ _) (OwnFrom.and (Own.from (boxed_own _ _ (fun pre => .int .i64 (zju pre))) _) (ownFrom_below (Nat.le_refl _) (by omega)))))
  ⟨by simp, b0, b1, hb⟩
  (fun x => { tmps := #[.agg #[.int .i64 m, .int .i64 u], .int .i64 i, .pointer (some ⟨w.heap.size, 0, none⟩), .pointer (some ⟨w.heap.size + 1, 0, none⟩), .pointer (some ⟨w.heap.size + 1 + 1, 0, none⟩), .int .i64 x.1, .int .i64 (U.num x.2), .agg #[.int .i64 m, .int .i64 u], .func (.func 358) #[] #[.pointer (some ⟨w.heap.size + 1 + 1 + 1, 0, none⟩)], .int .i64 x.1, .int .i64 (U.num x.2), undef, undef, undef, undef], defers := [] }) ?assign ?body ?done ?stop
 case assign =>
  intro l x W K hK
  gi_wp2
  exact hK
 case body =>
  rintro l pre ⟨k, b⟩ W ⟨hne, hbi, hbx, hB⟩ hlt
  have c0 := hbi.cell
  have c1 : W.cell? ⟨w.heap.size + 1 + 1, 0, none⟩ = _ := hbx.cell
  have f1 : W.frozen? ⟨w.heap.size + 1 + 1, 0, none⟩ = false := hbx.frozen
  have HX := Zh hbx
  have HI := Zh hbi
  have HN := Zh hne
  have HB := Zh hB
  clear hne hbx hbi hB hlt b0 b1 b2
  by_cases hk : (k : Int) = i
  ·have g : ((k : Int) == i) = true := by simpa using hk
   have HK := Zh hk
   clear hk
   gi_wp2
   refine ⟨(KeepsOthers.setCell _ _ _).from _, rfl, ⟨pre, k, b, rfl, HN.out, HK.out⟩, ?_, HB.out.setCell (p := ⟨w.heap.size + 2, 0, none⟩) (by simp) _⟩
   rw [zei]; exact HX.out.set _
  ·have g : ((k : Int) == i) = false := by simpa using hk
   have HK := Zh hk
   clear hk
   gi_wp2
   refine ⟨KeepsFrom.refl _ _, KpU.r _ _ _, ?_, HI.out, HX.out, HB.out⟩
   intro p hp
   rcases List.mem_append.1 hp with hp | hp
   ·exact HN.out p hp
   ·simp only [List.mem_singleton] at hp; rw [hp]; exact HK.out
 case done =>
  rintro D ys W hD rfl ⟨hne, -, hbx, hB⟩ hK
  have c1 : W.cell? ⟨w.heap.size + 1 + 1, 0, none⟩ = _ := hbx.cell
  have f1 : W.frozen? ⟨w.heap.size + 1 + 1, 0, none⟩ = false := hbx.frozen
  have HF := Zh (U.at_none hne)
  have HX := Zh hbx
  clear hne hbx b0 b1 b2
  gi_wp2
  have hK' := (KeepsOthers.setCell W ⟨w.heap.size + 2, 0, none⟩ (.int .i64 (-1))).same D _ hK rfl
  refine ⟨by simp, .inl ⟨_, _, rfl, run_takeDeferred hK', ?_⟩⟩
  have d1 := (cell_kept (HX.out.set (.int .i64 (-1))).cell (grownBy_putObj' _ D (.deferred none)) (fun r e => by cases e; exact ⟨_, hK', rfl⟩))
  refine ⟨.int .i64 (-1), ?_, ?_⟩
  ·simp [results, Tryz.f394, go_sem, d1]
  ·exact ⟨by rw [HF.out], (hB.setCell (p := ⟨w.heap.size + 2, 0, none⟩) (by simp) _).trans (belowK_b (w := w) (Nat.le_refl _) _ D _ _ (by omega) hK' rfl rfl)⟩
 case stop =>
  rintro D c pre W hD hP ⟨rfl, ⟨pre', k, b, rfl, hne, hk⟩, b1, hB⟩ hK
  have HN := Zh (U.at_prefix hP hne hk)
  rw [zei] at b1
  gi_wp2
  refine ⟨by simp, .inl ⟨_, _, rfl, run_takeDeferred hK, ?_⟩⟩
  have c1 := (cell_kept b1.cell (grownBy_putObj' _ D (.deferred none)) (fun r e => by cases e; exact ⟨_, hK, rfl⟩))
  refine ⟨.int .i64 (U.num b), ?_, ?_⟩
  ·simp [results, Tryz.f394, go_sem, c1]
  ·exact ⟨by rw [HN.out], hB.trans (belowK_b (w := w) (Nat.le_refl _) W D _ _ (by omega) hK rfl rfl)⟩
theorem ze6 (m u i f : Int) (w : World) (h : U.at' m u i = f) : Calls Tryz.prog 394 #[.agg #[.int .i64 m, .int .i64 u], .int .i64 i] w fun e w' => e = .returned (.int .i64 f) /\ Below w.heap.size w w' := by
 subst h; exact (callsIn_wide (n := 5)).1 (zjw 5 (by omega) m u i w)
open Go.RowKit
theorem zb5 {fn : Func} {p u : Tmp} (h : fn.results = #[.cell p 327, .tmp u]) {tmps : Array Value} {w : World} (g : Nat) (a b : Int) {x : Value}
  (hp : tmps.getD p undef = .pointer (some ⟨g, 0, none⟩)) (hu : tmps.getD u undef = x) (hg : Blok w g 327 #[.int .i64 a, .int .i64 b]) :
  (results fn tmps).run Tryz.prog w = .ok (.tuple #[.agg #[.int .i64 a, .int .i64 b], x]) w := by
 have hp' : tmps[p]?.getD undef = .pointer (some ⟨g, 0, none⟩) := by simpa using hp
 have hu' : tmps[u]?.getD undef = x := by simpa using hu
 have hl := run_loadVar_row (P := Tryz.prog) w g 327 327 #[.int .i64 a, .int .i64 b] (0, 0) _ hg Tryz.underlying327 rfl (by kernel_rfl)
 simp [results, h, hp', hu', asAddr, hl, Result.andThen]
theorem zbs {w W : World} (g : Nat) (hg : w.heap.size <= g) {u v : Value} (hk : Blok W g 327 #[u, v]) (hB : Below w.heap.size w W) (a b : Int) :
  Blok ((W.setCell ⟨g, 0, none⟩ (.int .i64 a)).setCell ⟨g, 1, none⟩ (.int .i64 b)) g 327 #[.int .i64 a, .int .i64 b] /\
  Below w.heap.size w ((W.setCell ⟨g, 0, none⟩ (.int .i64 a)).setCell ⟨g, 1, none⟩ (.int .i64 b)) := by
 refine ⟨?_, (hB.setCell (p := ⟨g, 0, none⟩) hg _).setCell (p := ⟨g, 1, none⟩) hg _⟩
 have := (hk.set 0 (.int .i64 a)).set 1 (.int .i64 b)
 simpa using this
def zg6 (w : World) (n u : Int) : World := ubox (ubox w n u) 0 0
theorem zce (w : World) (n u : Int) : Below w.heap.size w (zg6 w n u) := (zbf w n u).trans ((zbf _ 0 0).mono (zbf w n u).size)
theorem zhz (w : World) (n u : Int) : Blok (zg6 w n u) w.heap.size 327 #[.int .i64 n, .int .i64 u] := (zbw w n u).alloc _
theorem zfy (w : World) (n u : Int) : Blok (zg6 w n u) (w.heap.size + 1) 327 #[.int .i64 0, .int .i64 0] := by
 have := zbw (ubox w n u) 0 0
 rwa [ze5] at this
theorem zle (n u i must : Int) (w : World) (h : U.at' n u i ≠ must) : Calls Tryz.prog 386 #[.agg #[.int .i64 n, .int .i64 u], .int .i64 i, .int .i64 must] w fun e w' => e = .returned (.tuple #[.agg #[.int .i64 n, .int .i64 u], .bool false]) /\ Below w.heap.size w w' := by
 have HB := Zh (zce w n u)
 have HU := Zh (zhz w n u)
 have HR := Zh (zfy w n u)
 obtain ⟨t, ht⟩ : ∃ t, U.at' n u i = t := ⟨_, rfl⟩
 have hc := ze6 n u i t (zg6 w n u) ht
 have g : (t != must) = true := by rw [ht] at h; simpa using h
 clear h ht
 go_enter Tryz.func386, Tryz.ntmps386
 go_wp2_with fail
 refine hc.mono ?_
 rintro e w1 ⟨rfl, hb1⟩
 have hu := HU.out.below hb1 HU.out.lt
 have hs := HR.out.below hb1 HR.out.lt
 have c0 := u0 hu
 have c1 := u1 hu
 have d0 := u0 hs
 have d1 := u1 hs
 have f0 := hs.frozen 0
 have f1 := hs.frozen 1
 have HFP := Zh (zbs (w := w) (w.heap.size + 1) (by omega) hs (HB.out.trans (hb1.mono HB.out.size)) n u)
 clear hb1 hu hs
 go_wp2
 refine bodyPost_ret (zb5 rfl (w.heap.size + 1) n u (by kernel_rfl) rfl HFP.out.1) rfl ?_
 exact ⟨rfl, HFP.out.2⟩
def U.newN (n : Int) : Int := if U.may n 0 then n else 0
end Go.Proofs.YtnbkkjcmblfhpaaGreat
namespace Go.Proofs.YtnbkkjcmblfhpaaGreat
end Go.Proofs.YtnbkkjcmblfhpaaGreat
namespace Go.Proofs.YtnbkkjcmblfhpaaGreat
open Go.RowKit
namespace L
def use1 (N at' u : Int) (x : T3) : Int := if x.a = at' then U.take N u x.b else u
def uses (N at' u : Int) (l : List T3) : Int := l.foldl (use1 N at') u
end L
namespace L
end L
open Go.RowKit
instance : L.Rec Int := ⟨1, fun x => [x], fun _ => rfl, by decide⟩
namespace L
def sorted' (l : List Ls) : List Int := (l.map (·.a)).mergeSort fun x y => decide (x <= y)
def busy (l : List Ls) : List Int := Lib.compact (sorted' l)
end L
end Go.Proofs.YtnbkkjcmblfhpaaGreat
