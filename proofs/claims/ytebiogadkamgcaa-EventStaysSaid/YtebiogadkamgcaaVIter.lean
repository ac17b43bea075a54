/-
  Walks of moorings/vari.numbers and of the iterator that it hands back: it hands on the numbers that stand one behind the other, each with the place behind it, till one is none. For every slice of bytes.
-/
import Derived.Test.YtebiogadkamgcaaVReadM
import Derived.Test.YtebiogadkamgcaaVGet
import Derived.RangeFuncBox
import Derived.RangeFuncNested
import Derived.RangeFuncBound
import Derived.RangeFuncCalls
import Derived.RangeFuncLeaves
import Derived.Shelf.Abstract
import Derived.Shelf.RegionOpen
import Derived.OwnWalkIn
import Derived.TacticsInMore
import Derived.LoopNIn
import Derived.LoopIn
namespace Go.Proofs.Ytebiogadkamgcaa
open Go.RowKit Go.Shelf
attribute [local go_sem] Oper.semAt_some

theorem Part.len {b l : List Int} {p : Nat} (h : Part b l p) : l.length ≤ p := by
  obtain ⟨h1, h2, h3⟩ := h
  have e : ∀ (l : List Int), (∀ n ∈ l, M.isn n) → l.length ≤ (l.flatMap M.put).length := by
    intro l
    induction l with
    | nil => simp
    | cons n l ih =>
      intro h
      have := ih (fun x hx => h x (by simp [hx]))
      have := put_pos (h n (by simp))
      rw [List.flatMap_cons, List.length_append, List.length_cons]; omega
  have := e l h2
  rw [← h3] at this
  simp at this; omega

theorem Part.over {b l : List Int} {p : Nat} (h : Part b l p) (hl : 400 < l.length) : M.read b = none :=
  read_none fun k hk => by
    obtain ⟨_, h2, h3⟩ := h
    obtain ⟨k1, k2, k3⟩ := all_some.1 hk
    have e : l.flatMap M.put ++ b.drop p = k.flatMap M.put := by rw [← h3, List.take_append_drop, k3]
    obtain ⟨t, rfl, _⟩ := flat_prefix l k _ h2 k2 e
    simp at k1; omega

/-- The place behind the last number that was handed on. -/
def lastE (xs : List (Int × Int)) : Int := xs.foldl (fun _ x => x.2) 0
theorem lastE_snoc (xs : List (Int × Int)) (x : Int × Int) : lastE (xs ++ [x]) = x.2 := by simp [lastE]

abbrev enc2 (x : Int × Int) : Array Value := #[.int .i64 x.1, .int .i64 x.2]

/-- All have come; a part has come. -/
def Seen (L : List Int) (xs : List (Int × Int)) : Prop := ∃ p : Nat, Part L (xs.map Prod.fst) p ∧ lastE xs = p ∧ M.head (L.drop p) = none
def SeenP (L : List Int) (xs : List (Int × Int)) : Prop := ∃ p : Nat, Part L (xs.map Prod.fst) p

/-- What a round keeps: what lay below H; and the block Bn. -/
def Kp (H Bn : Nat) (W W' : World) : Prop := Below H W W' ∧ W'.heap[Bn]? = W.heap[Bn]?
theorem Kp.t {H Bn : Nat} {A B C : World} (h : Kp H Bn A B) (k : Kp H Bn B C) : Kp H Bn A C := ⟨h.1.trans k.1, k.2.trans h.2⟩
theorem Kp.r (H Bn : Nat) (W : World) : Kp H Bn W W := ⟨Below.refl _ _, rfl⟩

def meas (len : Nat) (v : Value) : Nat := if intOf v < 0 then 0 else len + 1 - (intOf v).toNat
theorem meas_int (len : Nat) (q : Int) : meas len (.int .i64 q) = if q < 0 then 0 else len + 1 - q.toNat := rfl

/-- What the next number, and its place, are, at the head of a round. -/
def Next (L : List Int) (p : Nat) (x y : Value) : Prop :=
  (∃ (n : Int) (e : Nat), M.head (L.drop p) = some (n, e) ∧ x = .int .i64 n ∧ y = .int .i64 ((p : Int) + e)) ∨ (M.head (L.drop p) = none ∧ x = .int .i64 0 ∧ y = .int .i64 (-1))

theorem next_at (L : List Int) (p : Nat) : ∃ n q : Int, M.get L p = (n, q) ∧ Next L p (.int .i64 n) (.int .i64 q) := by
  cases hh : M.head (L.drop p) with
  | none => exact ⟨0, -1, get_none hh, .inr ⟨hh, rfl, rfl⟩⟩
  | some r => exact ⟨r.1, (p : Int) + r.2, get_some hh, .inl ⟨r.1, r.2, hh, rfl, rfl⟩⟩

theorem meas_next {L : List Int} {len p e : Nat} {l : List Int} {m : Int} {x y : Value} (hlen : L.length = len) (hby : ∀ c ∈ L, 0 ≤ c ∧ c ≤ 255) (hP : Part L l p) (hh : M.head (L.drop p) = some (m, e)) (hN : Next L (p + e) x y) :
    meas len y < meas len (.int .i64 ((p : Int) + e)) := by
  obtain ⟨hp', he0, hpl, _⟩ := hP.step hby hh
  have hpe := hp'.1
  have e1 : meas len (.int .i64 ((p : Int) + e)) = len + 1 - (p + e) := by
    rw [meas_int, if_neg (by omega)]
    omega
  rw [e1]
  rcases hN with ⟨m', e', hh', _, rfl⟩ | ⟨_, _, rfl⟩
  · obtain ⟨hp2, he2, _, _⟩ := hp'.step hby hh'
    have := hp2.1
    rw [meas_int, if_neg (by omega)]
    omega
  · rw [meas_int, if_pos (by omega)]
    omega

set_option maxRecDepth 100000 in
set_option maxHeartbeats 1000000 in
theorem nums1_in (n l Bn H : Nat) (hn : 3 ≤ n) (a : Option Addr) (len cap : Nat) (L : List Int) (hlen : L.length = len) (J Jx : List (Int × Int) → World → Prop)
    (hY : ∀ pre x W, J pre W → pre.length < L.length + 1 → YieldAt Fence.wide (n - 1) Try.prog l (enc2 x) W fun e W' =>
      (e = .returned (.bool true) ∧ J (pre ++ [x]) W' ∧ Kp H Bn W W') ∨ (e = .returned (.bool false) ∧ Jx (pre ++ [x]) W'))
    (W W0 : World) (hBn : Boxed W Bn 23 (.slice a len cap)) (hH : W0.heap.size ≤ H) (hW0 : Below H W0 W) (hL : RowIn .u8 W0 a cap L) (h0 : J [] W) :
    CallsIn Fence.wide n Try.prog 41 #[.func (.yield l) #[] #[], .pointer (some ⟨Bn, 0, none⟩)] W fun e W' => (∃ v, e = .returned v) ∧
      ((∃ ys, Seen L ys ∧ J ys W') ∨ (∃ pre, SeenP L pre ∧ Jx pre W')) := by
  have hf21 : Fence.wide.fn 41 := trivial
  have hf10 : Fence.wide.fn 42 := trivial
  have hro : Fence.wide.round = none := rfl
  have hby := Lib.hid (byte_of hL.2.1)
  have HL := Lib.hid hL
  have HE := Lib.hid hlen
  have HW0 := Lib.hid hW0
  clear hL hlen hW0
  have hcell := hBn.cell
  have hRW : Hid (RowIn .u8 W a cap L) := Lib.hid (HL.out.belowN hH HW0.out)
  obtain ⟨x0, q0, hg0, hn0⟩ := next_at L 0
  have HG0 : Hid (M.get L 0 = (x0, q0)) := Lib.hid hg0
  clear hg0
  have h1 : 1 ≤ n := by omega
  have h2 : 1 ≤ n - 1 := by omega
  refine callsIn_of_wp Try.func41 rfl hf21 ?_ hro
  simp only [Try.ntmps41, List.size_toArray, List.length_cons, List.length_nil, Nat.reduceAdd, Nat.reduceSub, Array.replicate_succ, Array.replicate_zero, List.push_toArray, List.append_toArray, List.nil_append, List.cons_append]
  gi_wp2_with (gi_at_call 42; refine (callsIn_wide.2 (getIs_of HG0.out (get_any a len cap _ L _ HE.out hRW.out))).mono ?_; rintro e w' ⟨rfl, rfl⟩)
  gi_loopw [3, 4] (fun x y wr => ∃ (pre : List (Int × Int)) (p : Nat), Hid (Part L (pre.map Prod.fst) p) ∧ Hid (lastE pre = p) ∧ J pre wr ∧ Kp H Bn W wr ∧ Next L p x y) (fun _ y _ => meas len y)
  case atStart =>
    exact ⟨[], 0, Lib.hid (Part.start _), Lib.hid rfl, h0, Kp.r _ _ _, hn0⟩
  case round =>
    obtain ⟨pre, p, HP, HE2, hJ, hK, hN⟩ := hrel
    have hcw : wr.cell? ⟨Bn, 0, none⟩ = some (.slice a len cap) := (World.cell?_of_block (w := W) (a := ⟨Bn, 0, none⟩) hK.2).trans hcell
    rcases hN with ⟨m, e, hh, rfl, rfl⟩ | ⟨hh, rfl, rfl⟩
    · obtain ⟨hp', he0, hpl, hm⟩ := HP.out.step hby.out hh
      have HS := Lib.hid hp'
      have HH := Lib.hid hh
      obtain ⟨fn, tmps, assign, body, hy, hR⟩ := hY pre (m, (p : Int) + e) wr hJ (by have := HP.out.len; simp at this; omega)
      dsimp only [enc2] at hy
      have hge : ¬ ((p : Int) + e < 0) := by omega
      have hge2 : decide (0 ≤ (p : Int) + e) = true := by simp; omega
      obtain ⟨x1, q1, hg1, hn1⟩ := next_at L (p + e)
      have HG1 : Hid (M.get L ((p : Int) + e) = (x1, q1)) := Lib.hid (by simpa using hg1)
      clear hp' hh hpl hg1
      gi_wp2
      refine hR.mono ?_
      rintro e3 W3 (⟨rfl, hJ3, hk3⟩ | ⟨rfl, hx3⟩)
      · have hc3 : W3.cell? ⟨Bn, 0, none⟩ = some (.slice a len cap) := (World.cell?_of_block (w := wr) (a := ⟨Bn, 0, none⟩) hk3.2).trans hcw
        have hR3 : Hid (RowIn .u8 W3 a cap L) := Lib.hid (HL.out.belowN hH ((HW0.out.trans hK.1).trans hk3.1))
        gi_wp2_with (gi_at_call 42; refine (callsIn_wide.2 (getIs_of HG1.out (get_any a len cap _ L _ HE.out hR3.out))).mono ?_; rintro e w' ⟨rfl, rfl⟩)
        go_roundw
        case rel => exact ⟨pre ++ [(m, (p : Int) + e)], p + e, Lib.hid (by simpa using HS.out), Lib.hid (by rw [lastE_snoc]; simp), hJ3, hK.t hk3, hn1⟩
        case measure => exact meas_next HE.out hby.out HP.out HH.out hn1
      · gi_wp2
        go_end0
        exact ⟨⟨_, rfl⟩, .inr ⟨pre ++ [(m, (p : Int) + e)], ⟨p + e, by simpa using HS.out⟩, hx3⟩⟩
    · have HH := Lib.hid hh
      clear hh
      gi_wp2
      refine ⟨fun _ h => (by cases h), ?_⟩
      gi_wp2
      go_end0
      exact ⟨⟨_, rfl⟩, .inl ⟨pre, ⟨p, HP.out, HE2.out, HH.out⟩, hJ⟩⟩
end Go.Proofs.Ytebiogadkamgcaa
