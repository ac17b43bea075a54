/-
  Walks of moorings/bitmap.bits and of the iterator that it hands back: it hands on all blocks, rising, each with its bit; of a map that may not be none.
-/
import Derived.Test.YtbnhaoimdponkaaUMay
import Derived.RangeFuncBox
import Derived.RangeFuncNested
import Derived.RangeFuncBound
import Derived.RangeFuncCalls
import Derived.RangeFuncLeaves
import Derived.Shelf.Abstract
import Derived.Shelf.RegionOpen
import Derived.OwnWalkIn
import Derived.TacticsInMore
import Derived.LoopNIn
import Derived.LoopIn
import Derived.Laws.BitsLemmas
namespace Go.Proofs.Ytbnhaoimdponkaa
open Go.RowKit Go.Shelf
attribute [local go_sem] Oper.semAt_some

abbrev encU (x : Nat × Bool) : Array Value := #[.int .i64 (x.1 : Int), .int .i64 (U.num x.2)]

/-- What a round keeps: what lay below H; and the block Bn. -/
def KpU (H Bn : Nat) (W W' : World) : Prop := Below H W W' ∧ W'.heap[Bn]? = W.heap[Bn]?
theorem KpU.t {H Bn : Nat} {A B C : World} (h : KpU H Bn A B) (k : KpU H Bn B C) : KpU H Bn A C := ⟨h.1.trans k.1, k.2.trans h.2⟩
theorem KpU.r (H Bn : Nat) (W : World) : KpU H Bn W W := ⟨Below.refl _ _, rfl⟩

theorem U.bit_of {u : Int} {k : Nat} (h0 : 0 ≤ u) (h1 : u < 256) : bits .and .i64 (u / 2 ^ k) 1 = U.num (U.bit u k) := by
  obtain ⟨v, rfl⟩ := Int.eq_ofNat_of_zero_le h0
  have h2 : v / 2 ^ k ≤ v := Nat.div_le_self _ _
  have e : ((v : Int) / 2 ^ k) = ((v / 2 ^ k : Nat) : Int) := by simp
  have h3 : bits .and .i64 ((v / 2 ^ k : Nat) : Int) ((1 : Nat) : Int) = ((v / 2 ^ k &&& 1 : Nat) : Int) := (bits_nat .i64 63 (by decide) (fun n h0 h1 => by rw [IntKind.wrap_i64]; omega) (v / 2 ^ k) 1 (by omega) (by decide)).1
  unfold U.bit
  rw [e]
  have h4 : bits .and .i64 ((v / 2 ^ k : Nat) : Int) 1 = ((v / 2 ^ k % 2 : Nat) : Int) := by rw [← Nat.and_one_is_mod]; exact h3
  rw [h4]
  unfold U.num
  split
  · rename_i hh; simp at hh; omega
  · rename_i hh; simp at hh; omega

set_option maxHeartbeats 1000000 in
theorem bits1_in (n l Bn H : Nat) (hn : 3 ≤ n) (m u : Int) (J Jx : List (Nat × Bool) → World → Prop)
    (hJ : ∀ W W' pre, Below W.heap.size W W' → J pre W → J pre W')
    (hY : ∀ pre x W, J pre W → pre.length < 9 → YieldAt Fence.wide (n - 1) Try.prog l (encU x) W fun e W' =>
      (e = .returned (.bool true) ∧ J (pre ++ [x]) W' ∧ KpU H Bn W W') ∨ (e = .returned (.bool false) ∧ Jx (pre ++ [x]) W'))
    (W : World) (hBn : Blok W Bn 42 #[.int .i64 m, .int .i64 u]) (h0 : J [] W) :
    CallsIn Fence.wide n Try.prog 59 #[.func (.yield l) #[] #[], .pointer (some ⟨Bn, 0, none⟩)] W fun e W' => (∃ v, e = .returned v) ∧
      ((∃ ys, ys = U.all m u ∧ J ys W') ∨ (∃ pre, pre <+: U.all m u ∧ Jx pre W')) := by
  have hf31 : Fence.wide.fn 59 := trivial
  have hf21 : Fence.wide.fn 19 := trivial
  have hro : Fence.wide.round = none := rfl
  have HBn := Lib.hid hBn
  have c0 := u0 hBn
  have c1 := u1 hBn
  have h1 : 1 ≤ n := by omega
  have h2 : 1 ≤ n - 1 := by omega
  refine callsIn_of_wp Try.func59 rfl hf31 ?_ hro
  simp only [Try.ntmps59, List.size_toArray, List.length_cons, List.length_nil, Nat.reduceAdd, Nat.reduceSub, Array.replicate_succ, Array.replicate_zero, List.push_toArray, List.append_toArray, List.nil_append, List.cons_append]
  cases hm : U.may m u with
  | false =>
    have HM := Lib.hid hm
    have hc := umay_any m u false W hm
    clear hm
    gi_wp2_with fail
    refine (callsIn_wide.2 hc).mono ?_
    rintro e w1 ⟨rfl, hb⟩
    have HJ1 := Lib.hid (hJ _ _ _ hb h0)
    gi_wp2
    refine bodyPost_ret (results_none rfl _ _ _) rfl ?_
    exact ⟨⟨_, rfl⟩, .inl ⟨[], (U.all_no HM.out).symm, HJ1.out⟩⟩
  | true =>
    have HM := Lib.hid hm
    have hc := umay_any m u true W hm
    obtain ⟨M, V, rfl, rfl, hM8, -, hV⟩ := U.may_cases hm
    clear hm
    gi_wp2_with fail
    refine (callsIn_wide.2 hc).mono ?_
    rintro e w1 ⟨rfl, hb⟩
    have HJ1 := Lib.hid (hJ _ _ _ hb h0)
    have HB1 := Lib.hid (HBn.out.below hb HBn.out.lt)
    have HW1 := Lib.hid hb
    clear c0 c1 hb
    have c0 := u0 HB1.out
    have c1 := u1 HB1.out
    gi_wp2_with fail
    gi_loopw [9] (fun i wr => ∃ k : Nat, i = .int .i64 k ∧ k ≤ M ∧ Hid (J ((U.all M V).take k) wr ∧ Blok wr Bn 42 #[.int .i64 M, .int .i64 V])) (fun i _ => M - (intOf i).toNat)
    case atStart => exact ⟨0, rfl, by omega, Lib.hid ⟨by simpa using HJ1.out, HB1.out⟩⟩
    case round =>
      obtain ⟨k, rfl, hk, HK⟩ := hrel
      by_cases hlt : k < M
      · have d1 := u1 HK.out.2
        have hlen : ((U.all M V).take k).length < 9 := by have := U.all_le M V; simp; omega
        obtain ⟨fn, tmps, assign, body, hy, hR⟩ := hY ((U.all M V).take k) (k, U.bit V k) wr HK.out.1 hlen
        dsimp only [encU] at hy
        have hbit := U.bit_of (u := V) (k := k) (by omega) (by omega)
        clear hlen
        gi_wp2
        refine hR.mono ?_
        rintro e3 W3 (⟨rfl, hJ3, hk3⟩ | ⟨rfl, hx3⟩)
        · have HB3 := Lib.hid (show Blok W3 Bn _ _ from hk3.2.trans HK.out.2)
          have HJ3 := Lib.hid hJ3
          clear hJ3 hk3 hbit d1
          gi_wp2
          go_roundw
          case rel => exact ⟨k + 1, by go_num, by omega, Lib.hid ⟨by rw [U.all_take HM.out (by simpa using hlt)]; exact HJ3.out, HB3.out⟩⟩
          case measure => simp [intOf]; omega
        · have HX := Lib.hid hx3
          clear hx3 hbit d1
          gi_wp2
          refine bodyPost_ret (results_none rfl _ _ _) rfl ?_
          exact ⟨⟨_, rfl⟩, .inr ⟨_, by rw [← U.all_take HM.out (by simpa using hlt)]; exact List.take_prefix _ _, HX.out⟩⟩
      · have hd : decide (k < M) = false := decide_eq_false hlt
        have HE : Hid (k = M) := Lib.hid (by omega)
        clear hlt hk
        gi_wp2
        go_end0
        exact ⟨⟨_, rfl⟩, .inl ⟨_, rfl, by have := HK.out.1; rwa [HE.out, List.take_of_length_le (by rw [U.all_len HM.out]; simp)] at this⟩⟩
theorem bits_in (n : Nat) (m u : Int) (w : World) :
    CallsIn Fence.wide n Try.prog 44 #[.agg #[.int .i64 m, .int .i64 u]] w fun e w' => e = .returned (.func (.func 59) #[] #[.pointer (some ⟨w.heap.size, 0, none⟩)]) ∧ w' = ubox w m u := by
  have hf29 : Fence.wide.fn 44 := trivial
  refine callsIn_of_wp Try.func44 rfl hf29 ?_ rfl
  simp only [Try.ntmps44, List.size_toArray, List.length_cons, List.length_nil, Nat.reduceAdd, Nat.reduceSub, Array.replicate_succ, Array.replicate_zero, List.push_toArray, List.append_toArray, List.nil_append, List.cons_append]
  gi_wp2
  go_ret
  exact ⟨rfl, rfl⟩

theorem below_grown {w w' : World} (h : Below w.heap.size w w') : w.grownBy w' none := ⟨h.os, h.tape, h.output, h.size, fun k hk _ => h.block k hk⟩

theorem bits_stops (n H Bn : Nat) (hn : 3 ≤ n) (m u : Int) (w : World) (hBn : Blok w Bn 42 #[.int .i64 m, .int .i64 u]) :
    SeqStopsK Fence.wide n Try.prog 59 #[.pointer (some ⟨Bn, 0, none⟩)] encU (KpU H Bn) (fun ys => ys = U.all m u) (fun pre => pre <+: U.all m u) 9 w := fun l J Jx W hW hJ _ hY h0 =>
  bits1_in n l Bn H hn m u J Jx (fun W1 W2 pre hb hj => hJ pre W1 W2 none hj (below_grown hb) (fun r e => by cases e)) hY W (hBn.below hW hBn.lt) h0
end Go.Proofs.Ytbnhaoimdponkaa
