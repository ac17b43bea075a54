import Derived.Test.YtonejangijkdmaaGreatBK
import Derived.Lib.QuietBelow
import Derived.RangeFuncBox
import Derived.RangeFuncNested
import Derived.RangeFuncBound
import Derived.RangeFuncCalls
import Derived.RangeFuncLeaves
import Derived.Shelf.Abstract
import Derived.Shelf.RegionOpen
import Derived.OwnWalkIn
import Derived.TacticsInMore
import Derived.LoopNIn
import Derived.LoopIn
import Derived.Laws.BitsLemmas
import Derived.Deep.RegionWith
import Derived.WalkMore
namespace Go.Proofs.YtonejangijkdmaaGreat
set_option maxHeartbeats 1000000
set_option maxRecDepth 100000
def U.may (n u : Int) : Bool := decide (0 <= n /\ n <= 8 /\ 0 <= u /\ u < 2 ^ n.toNat)
def U.bit (u : Int) (i : Nat) : Bool := decide (u / 2 ^ i % 2 = 1)
def U.num (b : Bool) : Int := if b then 1 else 0
theorem U.num_t : U.num true = 1 := rfl
theorem U.num_f : U.num false = 0 := rfl
def U.all (n u : Int) : List (Nat × Bool) := if U.may n u then (List.range n.toNat).map fun i => (i, U.bit u i) else []
def U.at' (n u i : Int) : Int := if U.may n u && decide (0 <= i) && decide (i < n) then U.num (U.bit u i.toNat) else -1
def U.has (n u i : Int) : Bool := decide (U.at' n u i = 1)
def U.off (n u i : Int) : Bool := decide (U.at' n u i = 0)
def U.take (n u i : Int) : Int := if U.off n u i then u + 2 ^ i.toNat else u
def U.give (n u i : Int) : Int := if U.has n u i then u - 2 ^ i.toNat else u
def U.free (n u : Int) : List Int := (U.all n u).filterMap fun p => if p.2 then none else some (p.1 : Int)
def U.first (n u : Int) : Int := (U.free n u).headD (-1)
def U.count (n u : Int) : Int := ((U.all n u).map fun p => U.num p.2).sum
theorem U.may_iff {n u : Int} : U.may n u = true ↔ 0 <= n /\ n <= 8 /\ 0 <= u /\ u < 2 ^ n.toNat := by simp [U.may]
theorem U.may_cases {n u : Int} (h : U.may n u = true) : ∃ (m : Nat) (v : Nat), n = m /\ u = v /\ m <= 8 /\ v < 2 ^ m /\ v < 256 := by
 obtain ⟨h0, h1, h2, h3⟩ := U.may_iff.1 h
 have hp : (2 : Int) ^ n.toNat = ((2 ^ n.toNat : Nat) : Int) := by norm_cast
 have hle : 2 ^ n.toNat <= 2 ^ 8 := Nat.pow_le_pow_right (by decide) (by omega)
 exact ⟨n.toNat, u.toNat, by omega, by omega, by omega, by omega, by omega⟩
theorem U.all_no {n u : Int} (h : U.may n u = false) : U.all n u = [] := by simp [U.all, h]
theorem U.all_yes {n u : Int} (h : U.may n u = true) : U.all n u = (List.range n.toNat).map fun i => (i, U.bit u i) := by simp [U.all, h]
theorem U.all_len {n u : Int} (h : U.may n u = true) : (U.all n u).length = n.toNat := by simp [U.all_yes h]
theorem U.all_le (n u : Int) : (U.all n u).length <= 8 := by
 cases h : U.may n u with
 | false => simp [U.all_no h]
 | true => have := (U.may_iff.1 h); rw [U.all_len h]; omega
theorem U.all_take {n u : Int} (h : U.may n u = true) {k : Nat} (hk : k < n.toNat) : (U.all n u).take (k + 1) = (U.all n u).take k ++ [(k, U.bit u k)] := by
 have hl : k < (U.all n u).length := by rw [U.all_len h]; exact hk
 rw [List.take_succ_eq_append_getElem hl]
 simp [U.all_yes h]
theorem U.at_prefix {n u i : Int} {pre : List (Nat × Bool)} {k : Nat} {b : Bool} (h : pre ++ [(k, b)] <+: U.all n u) (hne : ∀ p ∈ pre, (p.1 : Int) ≠ i) (hi : (k : Int) = i) : U.at' n u i = U.num b := by
 cases hm : U.may n u with
 | false => rw [U.all_no hm] at h; simp at h
 | true =>
  rw [U.all_yes hm] at h
  have hg : ((List.range n.toNat).map fun i => (i, U.bit u i))[pre.length]? = some (k, b) := by
   obtain ⟨t, ht⟩ := h
   rw [<- ht]; simp
  simp at hg
  obtain ⟨j, hl, h1, h2⟩ := hg
  have e : j = pre.length := by
   have := List.getElem?_eq_some_iff.1 hl
   simpa using this.2.symm
  subst hi
  have hn := U.may_iff.1 hm
  have hk : pre.length < n.toNat := by
   have := (List.getElem?_eq_some_iff.1 hl).1
   simpa using this
  simp only [U.at', hm]
  rw [if_pos (by simp; omega)]
  rw [<- h2, <- h1]; simp
theorem U.at_none {n u i : Int} (hne : ∀ p ∈ U.all n u, (p.1 : Int) ≠ i) : U.at' n u i = -1 := by
 cases hm : U.may n u with
 | false => simp [U.at', hm]
 | true =>
  simp only [U.at', hm]
  rw [if_neg]
  intro hh
  simp at hh
  refine hne (i.toNat, U.bit u i.toNat) ?_ (by have := hh.1; show ((i.toNat : Nat) : Int) = i; omega)
  rw [U.all_yes hm]
  exact List.mem_map.2 ⟨i.toNat, List.mem_range.2 (by omega), rfl⟩
theorem U.free_prefix {n u : Int} {pre : List (Nat × Bool)} {k : Nat} (h : pre ++ [(k, false)] <+: U.all n u) (hne : ∀ p ∈ pre, p.2 = true) : U.first n u = k := by
 obtain ⟨t, ht⟩ := h
 have h0 : (pre.filterMap fun p => if p.2 then none else some (p.1 : Int)) = [] := by
  rw [List.filterMap_eq_nil_iff]
  intro p hp
  simp [hne p hp]
 unfold U.first U.free
 rw [<- ht]
 simp [h0]
theorem U.first_none {n u : Int} (hne : ∀ p ∈ U.all n u, p.2 = true) : U.first n u = -1 := by
 have h0 : U.free n u = [] := by
  unfold U.free
  rw [List.filterMap_eq_nil_iff]
  intro p hp
  simp [hne p hp]
 simp [U.first, h0]
open Go.RowKit
def ubox (w : World) (n u : Int) : World := w.alloc (.cells #[.int .i64 n, .int .i64 u] 163)
theorem zbf (w : World) (n u : Int) : Below w.heap.size w (ubox w n u) := (Below.refl _ w).alloc (Nat.le_refl _) _
theorem ze5 (w : World) (n u : Int) : (ubox w n u).heap.size = w.heap.size + 1 := by simp [ubox]
theorem zbw (w : World) (n u : Int) : Blok (ubox w n u) w.heap.size 163 #[.int .i64 n, .int .i64 u] := Blok.new w _ _
theorem u0 {w : World} {g : Nat} {n u : Int} (h : Blok w g 163 #[.int .i64 n, .int .i64 u]) : w.cell? ⟨g, 0, none⟩ = some (.int .i64 n) := h.cell 0
theorem u1 {w : World} {g : Nat} {n u : Int} (h : Blok w g 163 #[.int .i64 n, .int .i64 u]) : w.cell? ⟨g, 1, none⟩ = some (.int .i64 u) := h.cell 1
theorem U.shl_of {m : Nat} (h : m <= 8) : wrap64 (2 ^ m) = 2 ^ m := by
 have h1 : 2 ^ m <= 2 ^ 8 := Nat.pow_le_pow_right (by decide) h
 have e : ((2 : Int) ^ m) = ((2 ^ m : Nat) : Int) := by simp
 rw [e]
 generalize 2 ^ m = q at h1
 exact IntWalk.wrap64_in _ (by omega)
theorem zey (n u : Int) (b : Bool) (w : World) (h : U.may n u = b) : Calls Tryz.prog 232 #[.agg #[.int .i64 n, .int .i64 u]] w fun e w' => e = .returned (.bool b) /\ Below w.heap.size w w' := by
 have HB := Zh (zbf w n u)
 have HH := Zh h
 have k0 := fun d os => cell_regrown (u0 (zbw w n u)) d os
 have k1 := fun d os => cell_regrown (u1 (zbw w n u)) d os
 unfold ubox at k0 k1
 clear h
 by_cases h0 : 0 <= n
 ·by_cases h1 : n <= 8
  ·obtain ⟨m, rfl⟩ := Int.eq_ofNat_of_zero_le h0
   have HM : Hid (U.may m u = (decide (0 <= u) && decide (u < wrap64 (2 ^ m)))) := Zh (by
    rw [U.shl_of (by omega)]
    unfold U.may
    simp [h1])
   clear h0
   by_cases g0 : 0 <= u
   ·have G0 : Hid (U.may m u = decide (u < wrap64 (2 ^ m))) := Zh (by rw [HM.out]; simp [g0])
    go_enter Tryz.func232, Tryz.ntmps232
    go_wp2_with fail
    refine wp_region_quiet_below (by kernel_rfl) (by kernel_rfl) ?_
    repeat (go_big_quiet_step (fail))
    refine wpQuiet_nil ?_
    intro _ hw'
    obtain ⟨⟨dq, osq⟩, hw''⟩ := hw'
    subst hw''
    go_wp2
    go_ret
    exact ⟨by rw [<- HH.out]; rw [G0.out]; rfl, HB.out.trans ((below_regrown _ dq osq).mono HB.out.size)⟩
   ·have G0 : Hid (U.may m u = false) := Zh (by rw [HM.out]; simp [g0])
    have g1 : decide (0 <= u) = false := decide_eq_false g0
    go_enter Tryz.func232, Tryz.ntmps232
    go_wp2_with fail
    refine wp_region_quiet_below (by kernel_rfl) (by kernel_rfl) ?_
    repeat (go_big_quiet_step (fail))
    refine wpQuiet_nil ?_
    intro _ hw'
    obtain ⟨⟨dq, osq⟩, hw''⟩ := hw'
    subst hw''
    go_wp2
    go_ret
    exact ⟨by rw [<- HH.out]; rw [G0.out]; rfl, HB.out.trans ((below_regrown _ dq osq).mono HB.out.size)⟩
  ·have G0 : Hid (U.may n u = false) := Zh (by unfold U.may; simp; omega)
   have g1 : decide (n <= 8) = false := decide_eq_false h1
   clear h1
   go_enter Tryz.func232, Tryz.ntmps232
   go_wp2_with fail
   refine wp_region_quiet_below (by kernel_rfl) (by kernel_rfl) ?_
   repeat (go_big_quiet_step (fail))
   refine wpQuiet_nil ?_
   intro _ hw'
   obtain ⟨⟨dq, osq⟩, hw''⟩ := hw'
   subst hw''
   go_wp2
   go_ret
   exact ⟨by rw [<- HH.out]; rw [G0.out]; rfl, HB.out.trans ((below_regrown _ dq osq).mono HB.out.size)⟩
 ·have G0 : Hid (U.may n u = false) := Zh (by unfold U.may; simp; omega)
  have g1 : decide (0 <= n) = false := decide_eq_false h0
  clear h0
  go_enter Tryz.func232, Tryz.ntmps232
  go_wp2_with fail
  refine wp_region_quiet_below (by kernel_rfl) (by kernel_rfl) ?_
  repeat (go_big_quiet_step (fail))
  refine wpQuiet_nil ?_
  intro _ hw'
  obtain ⟨⟨dq, osq⟩, hw''⟩ := hw'
  subst hw''
  go_wp2
  go_ret
  exact ⟨by rw [<- HH.out]; rw [G0.out]; rfl, HB.out.trans ((below_regrown _ dq osq).mono HB.out.size)⟩
open Go.RowKit Go.Shelf
attribute [local go_sem] Oper.semAt_some
abbrev encU (x : Nat × Bool) : Array Value := #[.int .i64 (x.1 : Int), .int .i64 (U.num x.2)]
def KpU (H Bn : Nat) (W W' : World) : Prop := Below H W W' /\ W'.heap[Bn]? = W.heap[Bn]?
theorem KpU.t {H Bn : Nat} {A B C : World} (h : KpU H Bn A B) (k : KpU H Bn B C) : KpU H Bn A C := ⟨h.1.trans k.1, k.2.trans h.2⟩
theorem KpU.r (H Bn : Nat) (W : World) : KpU H Bn W W := ⟨Below.refl _ _, rfl⟩
theorem U.bit_of {u : Int} {k : Nat} (h0 : 0 <= u) (h1 : u < 256) : bits .and .i64 (u / 2 ^ k) 1 = U.num (U.bit u k) := by
 obtain ⟨v, rfl⟩ := Int.eq_ofNat_of_zero_le h0
 have h2 : v / 2 ^ k <= v := Nat.div_le_self _ _
 have e : ((v : Int) / 2 ^ k) = ((v / 2 ^ k : Nat) : Int) := by simp
 have h3 : bits .and .i64 ((v / 2 ^ k : Nat) : Int) ((1 : Nat) : Int) = ((v / 2 ^ k &&& 1 : Nat) : Int) := (bits_nat .i64 63 (by decide) (fun n h0 h1 => by rw [IntKind.wrap_i64]; omega) (v / 2 ^ k) 1 (by omega) (by decide)).1
 unfold U.bit
 rw [e]
 have h4 : bits .and .i64 ((v / 2 ^ k : Nat) : Int) 1 = ((v / 2 ^ k % 2 : Nat) : Int) := by rw [<- Nat.and_one_is_mod]; exact h3
 rw [h4]
 unfold U.num
 split
 ·rename_i hh; simp at hh; omega
 ·rename_i hh; simp at hh; omega
theorem zjs (n l Bn H : Nat) (hn : 3 <= n) (m u : Int) (J Jx : List (Nat × Bool) -> World -> Prop)
  (hJ : ∀ W W' pre, Below W.heap.size W W' -> J pre W -> J pre W')
  (hY : ∀ pre x W, J pre W -> pre.length < 9 -> YieldAt Fence.wide (n - 1) Tryz.prog l (encU x) W fun e W' =>
   (e = .returned (.bool true) /\ J (pre ++ [x]) W' /\ KpU H Bn W W') \/ (e = .returned (.bool false) /\ Jx (pre ++ [x]) W'))
  (W : World) (hBn : Blok W Bn 163 #[.int .i64 m, .int .i64 u]) (h0 : J [] W) :
  CallsIn Fence.wide n Tryz.prog 231 #[.func (.yield l) #[] #[], .pointer (some ⟨Bn, 0, none⟩)] W fun e W' => (∃ v, e = .returned v) /\
   ((∃ ys, ys = U.all m u /\ J ys W') \/ (∃ pre, pre <+: U.all m u /\ Jx pre W')) := by
 have hf31 : Fence.wide.fn 231 := trivial
 have hf21 : Fence.wide.fn 232 := trivial
 have hro : Fence.wide.round = none := rfl
 have HBn := Zh hBn
 have c0 := u0 hBn
 have c1 := u1 hBn
 have h1 : 1 <= n := by omega
 have h2 : 1 <= n - 1 := by omega
 refine callsIn_of_wp Tryz.func231 rfl hf31 ?_ hro
 simp only [Tryz.ntmps231, List.size_toArray, List.length_cons, List.length_nil, Nat.reduceAdd, Nat.reduceSub, Array.replicate_succ, Array.replicate_zero, List.push_toArray, List.append_toArray, List.nil_append, List.cons_append]
 cases hm : U.may m u with
 | false =>
  have HM := Zh hm
  have hc := zey m u false W hm
  clear hm
  gi_wp2_with fail
  refine (callsIn_wide.2 hc).mono ?_
  rintro e w1 ⟨rfl, hb⟩
  have HJ1 := Zh (hJ _ _ _ hb h0)
  gi_wp2
  refine bodyPost_ret (results_none rfl _ _ _) rfl ?_
  exact ⟨⟨_, rfl⟩, .inl ⟨[], (U.all_no HM.out).symm, HJ1.out⟩⟩
 | true =>
  have HM := Zh hm
  have hc := zey m u true W hm
  obtain ⟨M, V, rfl, rfl, hM8, -, hV⟩ := U.may_cases hm
  clear hm
  gi_wp2_with fail
  refine (callsIn_wide.2 hc).mono ?_
  rintro e w1 ⟨rfl, hb⟩
  have HJ1 := Zh (hJ _ _ _ hb h0)
  have HB1 := Zk HBn hb
  have HW1 := Zh hb
  clear c0 c1 hb
  have c0 := u0 HB1.out
  have c1 := u1 HB1.out
  gi_wp2_with fail
  gi_loopw [9] (fun i wr => ∃ k : Nat, i = .int .i64 k /\ k <= M /\ Hid (J ((U.all M V).take k) wr /\ Blok wr Bn 163 #[.int .i64 M, .int .i64 V])) (fun i _ => M - (intOf i).toNat)
  case atStart => exact ⟨0, rfl, by omega, Zh ⟨by simpa using HJ1.out, HB1.out⟩⟩
  case round =>
   obtain ⟨k, rfl, hk, HK⟩ := hrel
   by_cases hlt : k < M
   ·have d1 := u1 HK.out.2
    have hlen : ((U.all M V).take k).length < 9 := by have := U.all_le M V; simp; omega
    obtain ⟨fn, tmps, assign, body, hy, hR⟩ := hY ((U.all M V).take k) (k, U.bit V k) wr HK.out.1 hlen
    dsimp only [encU] at hy
    have hbit := U.bit_of (u := V) (k := k) (by omega) (by omega)
    clear hlen
    gi_wp2
    refine hR.mono ?_
    rintro e3 W3 (⟨rfl, hJ3, hk3⟩ | ⟨rfl, hx3⟩)
    ·have HB3 := Zh (show Blok W3 Bn _ _ from hk3.2.trans HK.out.2)
     have HJ3 := Zh hJ3
     clear hJ3 hk3 hbit d1
     gi_wp2
     go_roundw
     case rel => exact ⟨k + 1, by go_num, by omega, Zh ⟨by rw [U.all_take HM.out (by simpa using hlt)]; exact HJ3.out, HB3.out⟩⟩
     case measure => simp [intOf]; omega
    ·have HX := Zh hx3
     clear hx3 hbit d1
     gi_wp2
     refine bodyPost_ret (results_none rfl _ _ _) rfl ?_
     exact ⟨⟨_, rfl⟩, .inr ⟨_, by rw [<- U.all_take HM.out (by simpa using hlt)]; exact List.take_prefix _ _, HX.out⟩⟩
   ·have hd : decide (k < M) = false := decide_eq_false hlt
    have HE : Hid (k = M) := Zh (by omega)
    clear hlt hk
    gi_wp2
    go_end0
    exact ⟨⟨_, rfl⟩, .inl ⟨_, rfl, by have := HK.out.1; rwa [HE.out, List.take_of_length_le (by rw [U.all_len HM.out]; simp)] at this⟩⟩
theorem zhx (n : Nat) (m u : Int) (w : World) :
  CallsIn Fence.wide n Tryz.prog 209 #[.agg #[.int .i64 m, .int .i64 u]] w fun e w' => e = .returned (.func (.func 231) #[] #[.pointer (some ⟨w.heap.size, 0, none⟩)]) /\ w' = ubox w m u := by
 have hf29 : Fence.wide.fn 209 := trivial
 refine callsIn_of_wp Tryz.func209 rfl hf29 ?_ rfl
 simp only [Tryz.ntmps209, List.size_toArray, List.length_cons, List.length_nil, Nat.reduceAdd, Nat.reduceSub, Array.replicate_succ, Array.replicate_zero, List.push_toArray, List.append_toArray, List.nil_append, List.cons_append]
 gi_wp2
 go_ret
 exact ⟨rfl, rfl⟩
theorem zfx {w w' : World} (h : Below w.heap.size w w') : w.grownBy w' none := ⟨h.os, h.tape, h.output, h.size, fun k hk _ => h.block k hk⟩
theorem zeg (n H Bn : Nat) (hn : 3 <= n) (m u : Int) (w : World) (hBn : Blok w Bn 163 #[.int .i64 m, .int .i64 u]) :
  SeqStopsK Fence.wide n Tryz.prog 231 #[.pointer (some ⟨Bn, 0, none⟩)] encU (KpU H Bn) (fun ys => ys = U.all m u) (fun pre => pre <+: U.all m u) 9 w := fun l J Jx W hW hJ _ hY h0 =>
 zjs n l Bn H hn m u J Jx (fun W1 W2 pre hb hj => hJ pre W1 W2 none hj (zfx hb) (fun r e => by cases e)) hY W (hBn.below hW hBn.lt) h0
open Go.RowKit Go.Shelf
attribute [local go_sem] Oper.semAt_some
def zjt (xs : List (Nat × Bool)) : Int := xs.foldl (fun _ x => (x.1 : Int)) 0
theorem zeh (xs : List (Nat × Bool)) (k : Nat) (b : Bool) : zjt (xs ++ [(k, b)]) = k := by simp [zjt]
def zju (xs : List (Nat × Bool)) : Int := xs.foldl (fun _ x => U.num x.2) 0
theorem zei (xs : List (Nat × Bool)) (k : Nat) (b : Bool) : zju (xs ++ [(k, b)]) = U.num b := by simp [zju]
theorem zgq {H Bn : Nat} {w : World} (hH : H <= w.heap.size) (hB : Bn < w.heap.size) (W : World) (l : Nat) (o o' : Obj) (hl : w.heap.size <= l) (hW : W.heap[l]? = some o) : KpU H Bn W (W.putObj l o') :=
 ⟨(Below.refl _ W).grown (grownBy_putObj' W l o') (by have := (Array.getElem?_eq_some_iff.1 hW).1; omega) (fun k e => by cases e; omega), (grownBy_putObj' W l o').block _ (by have := (Array.getElem?_eq_some_iff.1 hW).1; omega) (fun e => by cases e; omega)⟩
def zmu (pre : List (Nat × Bool)) : Prop := ∃ pre' k, pre = pre' ++ [(k, false)] /\ ∀ p ∈ pre', p.2 = true
theorem zjv (n : Nat) (hn : 5 <= n) (m u : Int) (w : World) :
  CallsIn Fence.wide n Tryz.prog 188 #[.agg #[.int .i64 m, .int .i64 u]] w fun e w' => e = .returned (.int .i64 (U.first m u)) /\ Below w.heap.size w w' := by
 have h1 : 1 <= n := by omega
 have hro : Fence.wide.round = none := rfl
 have hf23 : Fence.wide.fn 188 := trivial
 have hf29 : Fence.wide.fn 209 := trivial
 have hf31 : Fence.wide.fn 231 := trivial
 refine callsIn_of_wp_marks Tryz.func188 rfl hf23 ?_ hro
 simp only [Tryz.ntmps188, List.size_toArray, List.length_cons, List.length_nil, Nat.reduceAdd, Nat.reduceSub, Array.replicate_succ, Array.replicate_zero, List.push_toArray, List.append_toArray, List.nil_append, List.cons_append]
 gi_wp2_with (gi_at_call 209; refine (zhx (n - 1) m u _).mono ?_; rintro e w' ⟨rfl, rfl⟩; unfold ubox)
 obtain ⟨w5, hw5⟩ : ∃ w5, (((w.alloc (.cells #[.int .i64 m, .int .i64 u] 163)).alloc (.cells #[.int .i64 0] 3)).alloc (.cells #[.int .i64 m, .int .i64 u] 163)) = w5 := ⟨_, rfl⟩
 have hb : Below w.heap.size w w5 := by rw [<- hw5]; exact (((Below.refl _ w).alloc (Nat.le_refl _) _).alloc (by simp) _).alloc (by simp; omega) _
 have hsz : w5.heap.size = w.heap.size + 3 := by rw [<- hw5]; simp
 have b1 : Boxed w5 (w.heap.size + 1) 3 (.int .i64 0) := by
  rw [<- hw5]; have := (Boxed.new (w.alloc (.cells #[.int .i64 m, .int .i64 u] 163)) 3 (.int .i64 0)).alloc (.cells #[.int .i64 m, .int .i64 u] 163)
  rwa [World.size_alloc] at this
 have b2 : Blok w5 (w.heap.size + 2) 163 #[.int .i64 m, .int .i64 u] := by
  rw [<- hw5]; have := Blok.new ((w.alloc (.cells #[.int .i64 m, .int .i64 u] 163)).alloc (.cells #[.int .i64 0] 3)) 163 #[.int .i64 m, .int .i64 u]
  simpa [World.size_alloc] using this
 rw [hw5]
 clear hw5
 refine wpIn_rangeFunc_ownG hro h1 (gf := 231) (lb := #[.pointer (some ⟨w.heap.size + 2, 0, none⟩)]) rfl hf31 (enters_of Tryz.func231 (by kernel_rfl) rfl)
  (zeg (n - 1) w.heap.size (w.heap.size + 2) (by omega) m u w5 b2) KpU.t (fun W l o o' hl hW _ _ => zgq (w := w5) (by omega) (by omega) W l o o' hl hW) (Below.refl _ _) (fun _ => rfl)
  (fun pre W => (∀ p ∈ pre, p.2 = true) /\ Boxed W (w.heap.size + 1) 3 (.int .i64 0) /\ Below w.heap.size w W)
  (fun c pre W => c = .ret /\ zmu pre /\ Boxed W (w.heap.size + 1) 3 (.int .i64 (zjt pre)) /\ Below w.heap.size w W)
  (OwnFrom.and (ownFrom_pure _ _) (OwnFrom.and (Own.from (boxed_own _ _ (fun _ => .int .i64 0)) _) (ownFrom_below (Nat.le_refl _) (by omega))))
  (fun c => OwnFrom.and (ownFrom_pure _ _) (OwnFrom.and (ownFrom_pure _ _) (OwnFrom.and (Own.from (boxed_own _ _ (fun pre => .int .i64 (zjt pre))) _) (ownFrom_below (Nat.le_refl _) (by omega)))))
  ⟨by simp, b1, hb⟩
  (fun x => { tmps := #[.agg #[.int .i64 m, .int .i64 u], .pointer (some ⟨w.heap.size, 0, none⟩), .pointer (some ⟨w.heap.size + 1, 0, none⟩), .int .i64 x.1, .int .i64 (U.num x.2), .agg #[.int .i64 m, .int .i64 u], .func (.func 231) #[] #[.pointer (some ⟨w.heap.size + 1 + 1, 0, none⟩)], .int .i64 x.1, .int .i64 (U.num x.2), undef, undef, undef], defers := [] }) ?assign ?body ?done ?stop
 case assign =>
  intro l x W K hK
  gi_wp2
  exact hK
 case body =>
  rintro l pre ⟨k, b⟩ W ⟨hne, hbx, hB⟩ hlt
  have c1 := hbx.cell
  have f1 := hbx.frozen
  have HX := Zh hbx
  have HN := Zh hne
  have HB := Zh hB
  clear hne hbx hB hlt b1 b2
  cases b
  ·simp only [U.num_f]
   gi_wp2
   refine ⟨(KeepsOthers.setCell _ _ _).from _, rfl, ⟨pre, k, rfl, HN.out⟩, ?_, HB.out.setCell (p := ⟨w.heap.size + 1, 0, none⟩) (by simp) _⟩
   rw [zeh]; exact HX.out.set _
  ·simp only [U.num_t]
   gi_wp2
   refine ⟨KeepsFrom.refl _ _, KpU.r _ _ _, ?_, HX.out, HB.out⟩
   intro p hp
   rcases List.mem_append.1 hp with hp | hp
   ·exact HN.out p hp
   ·simp only [List.mem_singleton] at hp; rw [hp]
 case done =>
  rintro D ys W hD rfl ⟨hne, hbx, hB⟩ hK
  have c1 := hbx.cell
  have f1 := hbx.frozen
  have HF := Zh (U.first_none hne)
  have HX := Zh hbx
  clear hne hbx b1 b2
  gi_wp2
  have hK' := (KeepsOthers.setCell W ⟨w.heap.size + 1, 0, none⟩ (.int .i64 (-1))).same D _ hK rfl
  refine ⟨by simp, .inl ⟨_, _, rfl, run_takeDeferred hK', ?_⟩⟩
  have d1 := (cell_kept (HX.out.set (.int .i64 (-1))).cell (grownBy_putObj' _ D (.deferred none)) (fun r e => by cases e; exact ⟨_, hK', rfl⟩))
  refine ⟨.int .i64 (-1), ?_, ?_⟩
  ·simp [results, Tryz.f188, go_sem, d1]
  ·exact ⟨by rw [HF.out], (hB.setCell (p := ⟨w.heap.size + 1, 0, none⟩) (by simp) _).trans (belowK_b (w := w) (Nat.le_refl _) _ D _ _ (by omega) hK' rfl rfl)⟩
 case stop =>
  rintro D c pre W hD hP ⟨rfl, ⟨pre', k, rfl, hne⟩, b1, hB⟩ hK
  have HN := Zh (U.free_prefix hP hne)
  rw [zeh] at b1
  gi_wp2
  refine ⟨by simp, .inl ⟨_, _, rfl, run_takeDeferred hK, ?_⟩⟩
  have c1 := (cell_kept b1.cell (grownBy_putObj' _ D (.deferred none)) (fun r e => by cases e; exact ⟨_, hK, rfl⟩))
  refine ⟨.int .i64 (k : Int), ?_, ?_⟩
  ·simp [results, Tryz.f188, go_sem, c1]
  ·exact ⟨by rw [HN.out], hB.trans (belowK_b (w := w) (Nat.le_refl _) W D _ _ (by omega) hK rfl rfl)⟩
theorem zhy (m u f : Int) (w : World) (h : U.first m u = f) : Calls Tryz.prog 188 #[.agg #[.int .i64 m, .int .i64 u]] w fun e w' => e = .returned (.int .i64 f) /\ Below w.heap.size w w' := by
 subst h; exact (callsIn_wide (n := 5)).1 (zjv 5 (by omega) m u w)
open Go.RowKit Go.Shelf
attribute [local go_sem] Oper.semAt_some
def zmv (i : Int) (pre : List (Nat × Bool)) : Prop := ∃ (pre' : List (Nat × Bool)) (k : Nat) (b : Bool), pre = pre' ++ [(k, b)] /\ (∀ p ∈ pre', (p.1 : Int) ≠ i) /\ (k : Int) = i
theorem zjw (n : Nat) (hn : 5 <= n) (m u i : Int) (w : World) :
  CallsIn Fence.wide n Tryz.prog 267 #[.agg #[.int .i64 m, .int .i64 u], .int .i64 i] w fun e w' => e = .returned (.int .i64 (U.at' m u i)) /\ Below w.heap.size w w' := by
 have h1 : 1 <= n := by omega
 have hro : Fence.wide.round = none := rfl
 have hf23 : Fence.wide.fn 267 := trivial
 have hf29 : Fence.wide.fn 209 := trivial
 have hf31 : Fence.wide.fn 231 := trivial
 refine callsIn_of_wp_marks Tryz.func267 rfl hf23 ?_ hro
 simp only [Tryz.ntmps267, List.size_toArray, List.length_cons, List.length_nil, Nat.reduceAdd, Nat.reduceSub, Array.replicate_succ, Array.replicate_zero, List.push_toArray, List.append_toArray, List.nil_append, List.cons_append]
 gi_wp2_with (gi_at_call 209; refine (zhx (n - 1) m u _).mono ?_; rintro e w' ⟨rfl, rfl⟩; unfold ubox)
 obtain ⟨w5, hw5⟩ : ∃ w5, ((((w.alloc (.cells #[.int .i64 m, .int .i64 u] 163)).alloc (.cells #[.int .i64 i] 3)).alloc (.cells #[.int .i64 0] 3)).alloc (.cells #[.int .i64 m, .int .i64 u] 163)) = w5 := ⟨_, rfl⟩
 have hb : Below w.heap.size w w5 := by rw [<- hw5]; exact ((((Below.refl _ w).alloc (Nat.le_refl _) _).alloc (by simp) _).alloc (by simp; omega) _).alloc (by simp; omega) _
 have hsz : w5.heap.size = w.heap.size + 4 := by rw [<- hw5]; simp
 have b0 : Boxed w5 (w.heap.size + 1) 3 (.int .i64 i) := by
  rw [<- hw5]; have := ((Boxed.new (w.alloc (.cells #[.int .i64 m, .int .i64 u] 163)) 3 (.int .i64 i)).alloc (.cells #[.int .i64 0] 3)).alloc (.cells #[.int .i64 m, .int .i64 u] 163)
  rwa [World.size_alloc] at this
 have b1 : Boxed w5 (w.heap.size + 2) 3 (.int .i64 0) := by
  rw [<- hw5]; have := (Boxed.new ((w.alloc (.cells #[.int .i64 m, .int .i64 u] 163)).alloc (.cells #[.int .i64 i] 3)) 3 (.int .i64 0)).alloc (.cells #[.int .i64 m, .int .i64 u] 163)
  simpa [World.size_alloc] using this
 have b2 : Blok w5 (w.heap.size + 3) 163 #[.int .i64 m, .int .i64 u] := by
  rw [<- hw5]; have := Blok.new (((w.alloc (.cells #[.int .i64 m, .int .i64 u] 163)).alloc (.cells #[.int .i64 i] 3)).alloc (.cells #[.int .i64 0] 3)) 163 #[.int .i64 m, .int .i64 u]
  simpa [World.size_alloc] using this
 rw [hw5]
 clear hw5
 refine wpIn_rangeFunc_ownG hro h1 (gf := 231) (lb := #[.pointer (some ⟨w.heap.size + 3, 0, none⟩)]) rfl hf31 (enters_of Tryz.func231 (by kernel_rfl) rfl)
  (zeg (n - 1) w.heap.size (w.heap.size + 3) (by omega) m u w5 b2) KpU.t (fun W l o o' hl hW _ _ => zgq (w := w5) (by omega) (by omega) W l o o' hl hW) (Below.refl _ _) (fun _ => rfl)
  (fun pre W => (∀ p ∈ pre, (p.1 : Int) ≠ i) /\ Boxed W (w.heap.size + 1) 3 (.int .i64 i) /\ Boxed W (w.heap.size + 2) 3 (.int .i64 0) /\ Below w.heap.size w W)
  (fun c pre W => c = .ret /\ zmv i pre /\ Boxed W (w.heap.size + 2) 3 (.int .i64 (zju pre)) /\ Below w.heap.size w W)
  (OwnFrom.and (ownFrom_pure _ _) (OwnFrom.and (Own.from (boxed_own _ _ (fun _ => .int .i64 i)) _) (OwnFrom.and (Own.from (boxed_own _ _ (fun _ => .int .i64 0)) _) (ownFrom_below (Nat.le_refl _) (by omega)))))
  (fun c => OwnFrom.and (ownFrom_pure _ _) (OwnFrom.and (ownFrom_pure _ _) (OwnFrom.and (Own.from (boxed_own _ _ (fun pre => .int .i64 (zju pre))) _) (ownFrom_below (Nat.le_refl _) (by omega)))))
  ⟨by simp, b0, b1, hb⟩
  (fun x => { tmps := #[.agg #[.int .i64 m, .int .i64 u], .int .i64 i, .pointer (some ⟨w.heap.size, 0, none⟩), .pointer (some ⟨w.heap.size + 1, 0, none⟩), .pointer (some ⟨w.heap.size + 1 + 1, 0, none⟩), .int .i64 x.1, .int .i64 (U.num x.2), .agg #[.int .i64 m, .int .i64 u], .func (.func 231) #[] #[.pointer (some ⟨w.heap.size + 1 + 1 + 1, 0, none⟩)], .int .i64 x.1, .int .i64 (U.num x.2), undef, undef, undef, undef], defers := [] }) ?assign ?body ?done ?stop
 case assign =>
  intro l x W K hK
  gi_wp2
  exact hK
 case body =>
  rintro l pre ⟨k, b⟩ W ⟨hne, hbi, hbx, hB⟩ hlt
  have c0 := hbi.cell
  have c1 : W.cell? ⟨w.heap.size + 1 + 1, 0, none⟩ = _ := hbx.cell
  have f1 : W.frozen? ⟨w.heap.size + 1 + 1, 0, none⟩ = false := hbx.frozen
  have HX := Zh hbx
  have HI := Zh hbi
  have HN := Zh hne
  have HB := Zh hB
  clear hne hbx hbi hB hlt b0 b1 b2
  by_cases hk : (k : Int) = i
  ·have g : ((k : Int) == i) = true := by simpa using hk
   have HK := Zh hk
   clear hk
   gi_wp2
   refine ⟨(KeepsOthers.setCell _ _ _).from _, rfl, ⟨pre, k, b, rfl, HN.out, HK.out⟩, ?_, HB.out.setCell (p := ⟨w.heap.size + 2, 0, none⟩) (by simp) _⟩
   rw [zei]; exact HX.out.set _
  ·have g : ((k : Int) == i) = false := by simpa using hk
   have HK := Zh hk
   clear hk
   gi_wp2
   refine ⟨KeepsFrom.refl _ _, KpU.r _ _ _, ?_, HI.out, HX.out, HB.out⟩
   intro p hp
   rcases List.mem_append.1 hp with hp | hp
   ·exact HN.out p hp
   ·simp only [List.mem_singleton] at hp; rw [hp]; exact HK.out
 case done =>
  rintro D ys W hD rfl ⟨hne, -, hbx, hB⟩ hK
  have c1 : W.cell? ⟨w.heap.size + 1 + 1, 0, none⟩ = _ := hbx.cell
  have f1 : W.frozen? ⟨w.heap.size + 1 + 1, 0, none⟩ = false := hbx.frozen
  have HF := Zh (U.at_none hne)
  have HX := Zh hbx
  clear hne hbx b0 b1 b2
  gi_wp2
  have hK' := (KeepsOthers.setCell W ⟨w.heap.size + 2, 0, none⟩ (.int .i64 (-1))).same D _ hK rfl
  refine ⟨by simp, .inl ⟨_, _, rfl, run_takeDeferred hK', ?_⟩⟩
  have d1 := (cell_kept (HX.out.set (.int .i64 (-1))).cell (grownBy_putObj' _ D (.deferred none)) (fun r e => by cases e; exact ⟨_, hK', rfl⟩))
  refine ⟨.int .i64 (-1), ?_, ?_⟩
  ·simp [results, Tryz.f267, go_sem, d1]
  ·exact ⟨by rw [HF.out], (hB.setCell (p := ⟨w.heap.size + 2, 0, none⟩) (by simp) _).trans (belowK_b (w := w) (Nat.le_refl _) _ D _ _ (by omega) hK' rfl rfl)⟩
 case stop =>
  rintro D c pre W hD hP ⟨rfl, ⟨pre', k, b, rfl, hne, hk⟩, b1, hB⟩ hK
  have HN := Zh (U.at_prefix hP hne hk)
  rw [zei] at b1
  gi_wp2
  refine ⟨by simp, .inl ⟨_, _, rfl, run_takeDeferred hK, ?_⟩⟩
  have c1 := (cell_kept b1.cell (grownBy_putObj' _ D (.deferred none)) (fun r e => by cases e; exact ⟨_, hK, rfl⟩))
  refine ⟨.int .i64 (U.num b), ?_, ?_⟩
  ·simp [results, Tryz.f267, go_sem, c1]
  ·exact ⟨by rw [HN.out], hB.trans (belowK_b (w := w) (Nat.le_refl _) W D _ _ (by omega) hK rfl rfl)⟩
theorem ze6 (m u i f : Int) (w : World) (h : U.at' m u i = f) : Calls Tryz.prog 267 #[.agg #[.int .i64 m, .int .i64 u], .int .i64 i] w fun e w' => e = .returned (.int .i64 f) /\ Below w.heap.size w w' := by
 subst h; exact (callsIn_wide (n := 5)).1 (zjw 5 (by omega) m u i w)
open Go.RowKit
theorem zb5 {fn : Func} {p u : Tmp} (h : fn.results = #[.cell p 163, .tmp u]) {tmps : Array Value} {w : World} (g : Nat) (a b : Int) {x : Value}
  (hp : tmps.getD p undef = .pointer (some ⟨g, 0, none⟩)) (hu : tmps.getD u undef = x) (hg : Blok w g 163 #[.int .i64 a, .int .i64 b]) :
  (results fn tmps).run Tryz.prog w = .ok (.tuple #[.agg #[.int .i64 a, .int .i64 b], x]) w := by
 have hp' : tmps[p]?.getD undef = .pointer (some ⟨g, 0, none⟩) := by simpa using hp
 have hu' : tmps[u]?.getD undef = x := by simpa using hu
 have hl := run_loadVar_row (P := Tryz.prog) w g 163 163 #[.int .i64 a, .int .i64 b] (0, 0) _ hg Tryz.underlying163 rfl (by kernel_rfl)
 simp [results, h, hp', hu', asAddr, hl, Result.andThen]
theorem zbs {w W : World} (g : Nat) (hg : w.heap.size <= g) {u v : Value} (hk : Blok W g 163 #[u, v]) (hB : Below w.heap.size w W) (a b : Int) :
  Blok ((W.setCell ⟨g, 0, none⟩ (.int .i64 a)).setCell ⟨g, 1, none⟩ (.int .i64 b)) g 163 #[.int .i64 a, .int .i64 b] /\
  Below w.heap.size w ((W.setCell ⟨g, 0, none⟩ (.int .i64 a)).setCell ⟨g, 1, none⟩ (.int .i64 b)) := by
 refine ⟨?_, (hB.setCell (p := ⟨g, 0, none⟩) hg _).setCell (p := ⟨g, 1, none⟩) hg _⟩
 have := (hk.set 0 (.int .i64 a)).set 1 (.int .i64 b)
 simpa using this
def zg6 (w : World) (n u : Int) : World := ubox (ubox w n u) 0 0
theorem zce (w : World) (n u : Int) : Below w.heap.size w (zg6 w n u) := (zbf w n u).trans ((zbf _ 0 0).mono (zbf w n u).size)
theorem zhz (w : World) (n u : Int) : Blok (zg6 w n u) w.heap.size 163 #[.int .i64 n, .int .i64 u] := (zbw w n u).alloc _
theorem zfy (w : World) (n u : Int) : Blok (zg6 w n u) (w.heap.size + 1) 163 #[.int .i64 0, .int .i64 0] := by
 have := zbw (ubox w n u) 0 0
 rwa [ze5] at this
theorem U.at_facts {n u i x : Int} (h : U.at' n u i = x) (hx : 0 <= x) : U.may n u = true /\ (∃ I : Nat, i = I /\ (I : Int) < n /\ I < 8 /\ U.num (U.bit u I) = x) := by
 unfold U.at' at h
 split at h
 ·rename_i hh
  simp at hh
  obtain ⟨⟨h1, h2⟩, h3⟩ := hh
  have := U.may_iff.1 h1
  refine ⟨h1, i.toNat, by omega, by omega, by omega, h⟩
 ·omega
theorem zle (n u i must : Int) (w : World) (h : U.at' n u i ≠ must) : Calls Tryz.prog 259 #[.agg #[.int .i64 n, .int .i64 u], .int .i64 i, .int .i64 must] w fun e w' => e = .returned (.tuple #[.agg #[.int .i64 n, .int .i64 u], .bool false]) /\ Below w.heap.size w w' := by
 have HB := Zh (zce w n u)
 have HU := Zh (zhz w n u)
 have HR := Zh (zfy w n u)
 obtain ⟨t, ht⟩ : ∃ t, U.at' n u i = t := ⟨_, rfl⟩
 have hc := ze6 n u i t (zg6 w n u) ht
 have g : (t != must) = true := by rw [ht] at h; simpa using h
 clear h ht
 go_enter Tryz.func259, Tryz.ntmps259
 go_wp2_with fail
 refine hc.mono ?_
 rintro e w1 ⟨rfl, hb1⟩
 have hu := HU.out.below hb1 HU.out.lt
 have hs := HR.out.below hb1 HR.out.lt
 have c0 := u0 hu
 have c1 := u1 hu
 have d0 := u0 hs
 have d1 := u1 hs
 have f0 := hs.frozen 0
 have f1 := hs.frozen 1
 have HFP := Zh (zbs (w := w) (w.heap.size + 1) (by omega) hs (HB.out.trans (hb1.mono HB.out.size)) n u)
 clear hb1 hu hs
 go_wp2
 refine bodyPost_ret (zb5 rfl (w.heap.size + 1) n u (by kernel_rfl) rfl HFP.out.1) rfl ?_
 exact ⟨rfl, HFP.out.2⟩
theorem zjx (n u must x : Int) (I : Nat) (w : World) (h : U.at' n u I = must) (hI : I < 8) (hx : bits .xor .i64 u (wrap64 (2 ^ I)) = x) : Calls Tryz.prog 259 #[.agg #[.int .i64 n, .int .i64 u], .int .i64 I, .int .i64 must] w fun e w' => e = .returned (.tuple #[.agg #[.int .i64 n, .int .i64 x], .bool true]) /\ Below w.heap.size w w' := by
 have HB := Zh (zce w n u)
 have HU := Zh (zhz w n u)
 have HR := Zh (zfy w n u)
 have hc := ze6 n u I must (zg6 w n u) h
 have HX := Zh hx
 clear h hx
 go_enter Tryz.func259, Tryz.ntmps259
 go_wp2_with fail
 refine hc.mono ?_
 rintro e w1 ⟨rfl, hb1⟩
 have hu := HU.out.below hb1 HU.out.lt
 have hs := HR.out.below hb1 HR.out.lt
 have c0 := u0 hu
 have c1 := u1 hu
 have f0 := hu.frozen 0
 have f1 := hu.frozen 1
 have HB1 := Zt HB hb1
 have HU1 := Zh hu
 have HR1 := Zh hs
 clear hb1 hu hs
 go_wp2_with fail
 go_region
 clear c0 c1 f0 f1
 rw [HX.out]
 obtain ⟨w2, hw2⟩ : ∃ w2, (w1.setCell ⟨w.heap.size, 1, none⟩ (.int .i64 x)).drew = w2 := ⟨_, rfl⟩
 have hu : Blok w2 w.heap.size 163 #[.int .i64 n, .int .i64 x] := by rw [<- hw2]; have := (HU1.out.set 1 (.int .i64 x)).drew; simpa using this
 have hs : Blok w2 (w.heap.size + 1) 163 #[.int .i64 0, .int .i64 0] := by rw [<- hw2]; exact (HR1.out.far (p := ⟨w.heap.size, 1, none⟩) (by simp) _).drew
 have hb : Below w.heap.size w w2 := by rw [<- hw2]; exact (HB1.out.setCell (p := ⟨w.heap.size, 1, none⟩) (by simp) _).drew
 rw [hw2]
 have c0 := u0 hu
 have c1 := u1 hu
 have f0 := hs.frozen 0
 have f1 := hs.frozen 1
 have d0 := u0 hs
 have d1 := u1 hs
 have HFP := Zh (zbs (w := w) (w.heap.size + 1) (by omega) hs hb n x)
 clear hw2 hu hs hb
 go_wp2
 refine bodyPost_ret (zb5 rfl (w.heap.size + 1) n x (by kernel_rfl) rfl HFP.out.1) rfl ?_
 exact ⟨rfl, HFP.out.2⟩
theorem U.xor_all : ∀ v, v < 256 -> ∀ i, i < 8 -> bits .xor .i64 (v : Nat) (wrap64 (2 ^ i)) = if U.bit (v : Nat) i then (v : Int) - 2 ^ i else v + 2 ^ i := by decide +kernel
theorem U.xor_of {n u : Int} {i : Nat} (h : U.may n u = true) (hi : i < 8) : bits .xor .i64 u (wrap64 (2 ^ i)) = if U.bit u i then u - 2 ^ i else u + 2 ^ i := by
 obtain ⟨m, v, rfl, rfl, -, -, hv⟩ := U.may_cases h
 exact U.xor_all v hv i hi
theorem zfz (n u i x : Int) (b : Bool) (w : World) (hb : U.off n u i = b) (hx : U.take n u i = x) : Calls Tryz.prog 259 #[.agg #[.int .i64 n, .int .i64 u], .int .i64 i, .int .i64 0] w fun e w' => e = .returned (.tuple #[.agg #[.int .i64 n, .int .i64 x], .bool b]) /\ Below w.heap.size w w' := by
 unfold U.take at hx
 rw [hb] at hx
 cases b
 ·have : U.at' n u i ≠ 0 := by unfold U.off at hb; simpa using hb
  subst hx
  exact zle n u i 0 w this
 ·have h0 : U.at' n u i = 0 := by unfold U.off at hb; simpa using hb
  obtain ⟨hm, I, rfl, h1, h2, h3⟩ := U.at_facts h0 (by omega)
  refine zjx n u 0 x I w h0 h2 ?_
  rw [U.xor_of hm h2]
  have hbit : U.bit u I = false := by cases h : U.bit u I with | false => rfl | true => rw [h] at h3; simp [U.num] at h3
  rw [hbit, <- hx]; simp
theorem zjy (n u i x : Int) (b : Bool) (w : World) (hb : U.off n u i = b) (hx : U.take n u i = x) : Calls Tryz.prog 233 #[.agg #[.int .i64 n, .int .i64 u], .int .i64 i] w fun e w' => e = .returned (.tuple #[.agg #[.int .i64 n, .int .i64 x], .bool b]) /\ Below w.heap.size w w' := by
 have HB := Zh (zce w n u)
 have HR := Zh (zfy w n u)
 have hc := zfz n u i x b (zg6 w n u) hb hx
 clear hb hx
 go_enter Tryz.func233, Tryz.ntmps233
 go_wp2_with fail
 refine hc.mono ?_
 rintro e w1 ⟨rfl, hb1⟩
 have hs := HR.out.below hb1 HR.out.lt
 have d0 := u0 hs
 have d1 := u1 hs
 have f0 := hs.frozen 0
 have f1 := hs.frozen 1
 have HFP := Zh (zbs (w := w) (w.heap.size + 1) (by omega) hs (HB.out.trans (hb1.mono HB.out.size)) n x)
 clear hb1 hs
 go_wp2
 refine bodyPost_ret (zb5 rfl (w.heap.size + 1) n x (by kernel_rfl) rfl HFP.out.1) rfl ?_
 exact ⟨rfl, HFP.out.2⟩
def U.newN (n : Int) : Int := if U.may n 0 then n else 0
theorem zlf (n x : Int) (b : Bool) (w : World) (hb : U.may n 0 = b) (hx : U.newN n = x) : Calls Tryz.prog 210 #[.int .i64 n] w fun e w' => e = .returned (.tuple #[.agg #[.int .i64 x, .int .i64 0], .bool b]) /\ Below w.heap.size w w' := by
 obtain ⟨wb, hwb⟩ : ∃ wb, ubox (ubox w 0 0) n 0 = wb := ⟨_, rfl⟩
 have HB : Hid (Below w.heap.size w wb) := Zh (by rw [<- hwb]; exact (zbf w 0 0).trans ((zbf _ n 0).mono (zbf w 0 0).size))
 have HR : Hid (Blok wb w.heap.size 163 #[.int .i64 0, .int .i64 0]) := Zh (by rw [<- hwb]; exact (zbw w 0 0).alloc _)
 have HU : Hid (Blok wb (w.heap.size + 1) 163 #[.int .i64 n, .int .i64 0]) := Zh (by rw [<- hwb]; have := zbw (ubox w 0 0) n 0; rwa [ze5] at this)
 have hc := zey n 0 b wb hb
 have HW := Zh hwb
 unfold U.newN at hx
 rw [hb] at hx
 clear hb hwb
 cases b
 ·have HX : Hid (x = 0) := Zh hx.symm
  clear hx
  go_enter Tryz.func210, Tryz.ntmps210
  go_wp2_with fail
  change Calls _ _ _ (ubox (ubox w 0 0) n 0) _
  rw [HW.out]
  refine hc.mono ?_
  rintro e w1 ⟨rfl, hb1⟩
  have hs := HR.out.below hb1 HR.out.lt
  have d0 := u0 hs
  have d1 := u1 hs
  have f0 := hs.frozen 0
  have f1 := hs.frozen 1
  have HFP := Zh (zbs (w := w) w.heap.size (by omega) hs (HB.out.trans (hb1.mono HB.out.size)) 0 0)
  clear hb1 hs
  go_wp2
  refine bodyPost_ret (zb5 rfl w.heap.size 0 0 (by kernel_rfl) rfl HFP.out.1) rfl ?_
  exact ⟨by rw [HX.out]; rfl, HFP.out.2⟩
 ·have HX : Hid (x = n) := Zh hx.symm
  clear hx
  go_enter Tryz.func210, Tryz.ntmps210
  go_wp2_with fail
  change Calls _ _ _ (ubox (ubox w 0 0) n 0) _
  rw [HW.out]
  refine hc.mono ?_
  rintro e w1 ⟨rfl, hb1⟩
  have hs := HR.out.below hb1 HR.out.lt
  have hu := HU.out.below hb1 HU.out.lt
  have c0 := u0 hu
  have c1 := u1 hu
  have d0 := u0 hs
  have d1 := u1 hs
  have f0 := hs.frozen 0
  have f1 := hs.frozen 1
  have HFP := Zh (zbs (w := w) w.heap.size (by omega) hs (HB.out.trans (hb1.mono HB.out.size)) n 0)
  clear hb1 hs hu
  go_wp2
  refine bodyPost_ret (zb5 rfl w.heap.size n 0 (by kernel_rfl) rfl HFP.out.1) rfl ?_
  exact ⟨by rw [HX.out]; rfl, HFP.out.2⟩
theorem U.case {n u : Int} (h : U.may n u = true) : ∃ m v : Nat, n = m /\ u = v /\ m < 9 /\ v < 2 ^ m := by
 obtain ⟨m, v, h1, h2, h3, h4, -⟩ := U.may_cases h
 exact ⟨m, v, h1, h2, by omega, h4⟩
theorem U.no {n u i : Int} (h : ¬ (U.may n u = true /\ 0 <= i /\ i < n)) : U.at' n u i = -1 := by
 unfold U.at'
 rw [if_neg]
 intro hh
 simp at hh
 exact h ⟨hh.1.1, hh.1.2, hh.2⟩
theorem U.off_in {n u i : Int} (h : U.off n u i = true) : U.may n u = true /\ 0 <= i /\ i < n := by
 refine Decidable.not_not.1 fun hh => ?_
 unfold U.off at h
 rw [U.no hh] at h
 cases h
theorem U.has_out {n u i : Int} (h : ¬ (U.may n u = true /\ 0 <= i /\ i < n)) : U.has n u i = false := by
 unfold U.has
 rw [U.no h]
 rfl
def U.backB (n u i : Int) : Bool :=
 !U.off n u i || (U.may n (U.take n u i) && U.has n (U.take n u i) i && (U.give n (U.take n u i) i == u) && !U.off n (U.take n u i) i && !U.has n u i && (U.count n (U.take n u i) == U.count n u + 1))
theorem U.back_all : ∀ m, m < 9 -> ∀ v, v < 2 ^ m -> ∀ i, i < m -> U.backB (m : Nat) (v : Nat) (i : Nat) = true := by decide +kernel
theorem U.back {n u i : Int} (h : U.off n u i = true) : U.may n (U.take n u i) = true /\ U.has n (U.take n u i) i = true /\ U.give n (U.take n u i) i = u /\ U.off n (U.take n u i) i = false /\ U.has n u i = false /\ U.count n (U.take n u i) = U.count n u + 1 := by
 obtain ⟨hm, h0, h1⟩ := U.off_in h
 obtain ⟨m, v, rfl, rfl, h2, h3⟩ := U.case hm
 obtain ⟨j, rfl⟩ := Int.eq_ofNat_of_zero_le h0
 have := U.back_all m h2 v h3 j (by omega)
 simp only [U.backB, h, Bool.not_true, Bool.false_or, Bool.and_eq_true, beq_iff_eq, Bool.not_eq_true'] at this
 obtain ⟨⟨⟨⟨⟨a, b⟩, c⟩, d⟩, e⟩, f⟩ := this
 exact ⟨a, b, c, d, e, f⟩
theorem U.rest_all : ∀ m, m < 9 -> ∀ v, v < 2 ^ m -> ∀ i, i < m -> ∀ k, k < m -> (!U.off (m : Nat) (v : Nat) (i : Nat) || (k == i) || (U.has (m : Nat) (U.take (m : Nat) (v : Nat) (i : Nat)) (k : Nat) == U.has (m : Nat) (v : Nat) (k : Nat))) = true := by decide +kernel
theorem U.rest {n u i k : Int} (h : U.off n u i = true) (hk : k ≠ i) : U.has n (U.take n u i) k = U.has n u k := by
 obtain ⟨hm, h0, h1⟩ := U.off_in h
 by_cases hr : 0 <= k /\ k < n
 ·obtain ⟨m, v, rfl, rfl, h2, h3⟩ := U.case hm
  obtain ⟨j, rfl⟩ := Int.eq_ofNat_of_zero_le h0
  obtain ⟨l, rfl⟩ := Int.eq_ofNat_of_zero_le hr.1
  have := U.rest_all m h2 v h3 j (by omega) l (by omega)
  have hne : (l == j) = false := by simp; intro e; exact hk (by rw [e])
  simpa [h, hne] using this
 ·rw [U.has_out (fun hh => hr ⟨hh.2.1, hh.2.2⟩), U.has_out (fun hh => hr ⟨hh.2.1, hh.2.2⟩)]
theorem U.stay {n u i : Int} (h : U.off n u i = false) : U.take n u i = u := by simp [U.take, h]
def U.freeB (n u : Int) : Bool :=
 (((U.free n u).length : Int) + U.count n u == n) && ((U.first n u == -1) == ((U.free n u).length == 0)) && (U.off n u (U.first n u) == decide (0 < (U.free n u).length)) &&
  (List.range (U.free n u).length).all fun k => (k == 0) || decide ((U.free n u).getD (k - 1) 0 < (U.free n u).getD k 0)
theorem U.freeB_all : ∀ m, m < 9 -> ∀ v, v < 2 ^ m -> U.freeB (m : Nat) (v : Nat) = true := by decide +kernel
theorem U.free_facts {n u : Int} (h : U.may n u = true) : ((U.free n u).length : Int) + U.count n u = n /\ ((U.first n u == -1) = ((U.free n u).length == 0)) /\ U.off n u (U.first n u) = decide (0 < (U.free n u).length) /\ ∀ k, 0 < k -> k < (U.free n u).length -> (U.free n u).getD (k - 1) 0 < (U.free n u).getD k 0 := by
 obtain ⟨m, v, rfl, rfl, h2, h3⟩ := U.case h
 have := U.freeB_all m h2 v h3
 simp only [U.freeB, Bool.and_eq_true, beq_iff_eq, List.all_eq_true, List.mem_range, Bool.or_eq_true, decide_eq_true_eq] at this
 obtain ⟨⟨⟨a, b⟩, c⟩, d⟩ := this
 refine ⟨a, b, c, fun k hk hl => ?_⟩
 rcases d k hl with e | e
 ·omega
 ·exact e
end Go.Proofs.YtonejangijkdmaaGreat
