/-
  Walks of moorings/rec.records and of the iterator that it hands back: it hands on the records that stand one behind the other, each with the place behind it, up to the first error. For every slice of bytes of at most 90000.
-/
import Derived.Test.YtnpgjndhkmpciaaRScanM
import Derived.Test.YtnpgjndhkmpciaaTold
import Derived.RangeFuncBox
import Derived.RangeFuncNested
import Derived.RangeFuncBound
import Derived.RangeFuncCalls
import Derived.RangeFuncLeaves
import Derived.Shelf.Abstract
import Derived.Shelf.RegionOpen
import Derived.OwnWalkIn
import Derived.TacticsInMore
import Derived.LoopNIn
import Derived.LoopIn
namespace Go.Proofs.Ytnpgjndhkmpciaa
open Go.RowKit Go.Shelf
attribute [local go_sem] Oper.semAt_some

/-- What is handed on: a record where it lies, and the place behind it. -/
abbrev RY := RP × Int
abbrev encR (y : RY) : Array Value := #[.agg #[.int .i64 y.1.1, .slice y.1.2.1 y.1.2.2.1 y.1.2.2.2.1], .int .i64 y.2]
/-- What the round is told: the record lies there. -/
def Lies (y : RY) (W : World) : Prop := RP.ok W y.1 ∧ InB W y.1.2.1
/-- The place behind the last one. -/
def lastR (ys : List RY) : Int := ys.foldl (fun _ y => y.2) 0
theorem lastR_snoc (ys : List RY) (y : RY) : lastR (ys ++ [y]) = y.2 := by simp [lastR]
/-- All have come. -/
def AllR (L : List Int) (ys : List RY) : Prop := ∃ p : Nat, R.Done L (RP.recs (ys.map Prod.fst)) p ∧ lastR ys = p
/-- What a round keeps: what lay below H; the block Bn; and z, where that is cells. -/
def KpZ (H Bn z : Nat) (W W' : World) : Prop := Below H W W' ∧ W'.heap[Bn]? = W.heap[Bn]? ∧ ∀ cs t f, W.heap[z]? = some (.cells cs t f) → W'.heap[z]? = some (.cells cs t f)
theorem KpZ.t {H Bn z : Nat} {X Y Z : World} (h : KpZ H Bn z X Y) (k : KpZ H Bn z Y Z) : KpZ H Bn z X Z := ⟨h.1.trans k.1, k.2.1.trans h.2.1, fun cs t f hc => k.2.2 cs t f (h.2.2 cs t f hc)⟩
/-- What the round is told: the record lies there, and not in z; z is beyond H'. -/
def Told (H' z : Nat) (y : RY) (W : World) : Prop := Lies y W ∧ H' ≤ z ∧ z < W.heap.size ∧ ∀ x, y.1.2.1 = some x → x.block ≠ z
theorem below_grown {w w' : World} (h : Below w.heap.size w w') : w.grownBy w' none := ⟨h.os, h.tape, h.output, h.size, fun k hk _ => h.block k hk⟩

/-- What the next record, its end, and its error, are, at the head of a round: at the place q, behind the records l. -/
def NextR (L : List Int) (z q : Nat) (l : List R.T) (x y : Value) (W : World) : Prop :=
  ∃ u : RP, Blok W z 24 #[.int .i64 u.1, .slice u.2.1 u.2.2.1 u.2.2.2.1] ∧
    ((∃ s : Nat, x = .int .i64 ((q + s : Nat) : Int) ∧ y = .int .i64 0 ∧ R.Part L (l ++ [RP.rec u]) (q + s) ∧ 6 ≤ s ∧ q + s ≤ L.length ∧ RP.ok W u ∧ InB W u.2.1) ∨ (∃ e : Int, e ≠ 0 ∧ x = .int .i64 0 ∧ y = .int .i64 e ∧ R.Done L l q))
theorem next_rec {L : List Int} {z q : Nat} {l : List R.T} {t e : Int} {W : World} {u : RP} (hw : C.wf L) (hP : R.Part L l q) (ht : (R.get L q).2.2 = t) (he : (R.get L q).1 = e) (hu : RP.rec u = (R.get L q).2.1) (hb : Blok W z 24 #[.int .i64 u.1, .slice u.2.1 u.2.2.1 u.2.2.2.1]) (ho : RP.ok W u) (hi : InB W u.2.1) :
    NextR L z q l (.int .i64 t) (.int .i64 e) W := by
  refine ⟨u, hb, ?_⟩
  rcases R.at_place hw hP with ⟨e', he', hg, hd⟩ | ⟨r, s, hg, hp, h6, hl⟩
  · rw [hg] at ht he
    exact .inr ⟨e', he', by rw [← ht], by rw [← he], hd⟩
  · rw [hg] at ht he hu
    exact .inl ⟨s, by rw [← ht], by rw [← he], by rw [hu]; exact hp, h6, hl, ho, hi⟩
def measR (len : Nat) (x y : Value) : Nat := if intOf y = 0 then len + 1 - (intOf x).toNat else 0
theorem meas_rec {L : List Int} {len z q : Nat} {l : List R.T} {x y : Value} {W : World} (hl : L.length = len) (hq : q ≤ len) (h : NextR L z q l x y W) : measR len x y < measR len (.int .i64 (q : Int)) (.int .i64 0) := by
  have e0 : measR len (.int .i64 (q : Int)) (.int .i64 0) = len + 1 - q := by simp [measR, intOf]
  rw [e0]
  obtain ⟨u, _, ⟨s, rfl, rfl, _, h6, hle, _⟩ | ⟨e, he, rfl, rfl, _⟩⟩ := h
  · have : measR len (.int .i64 ((q + s : Nat) : Int)) (.int .i64 0) = len + 1 - (q + s) := by simp [measR, intOf]; omega
    omega
  · have : measR len (.int .i64 0) (.int .i64 e) = 0 := by simp [measR, intOf, he]
    omega

set_option maxRecDepth 100000 in
set_option maxHeartbeats 1000000 in
theorem recs1_in (n l Bn H H' : Nat) (hn : 3 ≤ n) (a : Option Addr) (len cap : Nat) (L : List Int) (h9 : len ≤ 90000) (hlen : L.length = len) (J : Nat → List RY → World → Prop) (W W0 : World) (hab : ∀ z, AbidesFrom W.heap.size (J z)) (hJz : ∀ z pre V i v, J z pre V → J z pre (V.setCell ⟨z, i, none⟩ v))
    (hY : ∀ z pre x V, J z pre V → Told H' z x V → pre.length < L.length + 1 → YieldAt Fence.wide (n - 1) Try.prog l (encR x) V fun e V' => e = .returned (.bool true) ∧ J z (pre ++ [x]) V' ∧ KpZ H Bn z V V')
    (hBn : Boxed W Bn 22 (.slice a len cap)) (hH : W0.heap.size ≤ H) (hHW : H ≤ W.heap.size) (hHH : H' ≤ W.heap.size) (hW0 : Below H W0 W) (hL : RowIn .u8 W0 a cap L) (hN : a = none → len = 0 ∧ cap = 0) (h0 : ∀ z, W.heap.size ≤ z → J z [] W) :
    CallsIn Fence.wide n Try.prog 40 #[.func (.yield l) #[] #[], .pointer (some ⟨Bn, 0, none⟩)] W fun e V => (∃ v, e = .returned v) ∧ ∃ z ys, AllR L ys ∧ J z ys V := by
  have hf1 : Fence.wide.fn 40 := trivial
  have hf2 : Fence.wide.fn 14 := trivial
  have hro : Fence.wide.round = none := rfl
  have HWF := Lib.hid (C.lit_wf hL.2.1)
  have HL := Lib.hid hL
  have HE := Lib.hid hlen
  have HN := Lib.hid hN
  have HW0 := Lib.hid hW0
  have HAB := Lib.hid hab
  have HJZ := Lib.hid hJz
  have HH0 := Lib.hid h0
  clear hL hlen hN hW0 hab hJz h0
  have hcell := hBn.cell
  have hBl := hBn.lt
  have hRW : Hid (RowIn .u8 W a cap L) := Lib.hid (HL.out.belowN hH HW0.out)
  obtain ⟨t0, ht0⟩ : ∃ t, (R.get L 0).2.2 = t := ⟨_, rfl⟩
  obtain ⟨e0, he0⟩ : ∃ e, (R.get L 0).1 = e := ⟨_, rfl⟩
  have HT0 := Lib.hid ht0
  have HE0 := Lib.hid he0
  clear ht0 he0
  have h1 : 1 ≤ n := by omega
  have h2 : 1 ≤ n - 1 := by omega
  refine callsIn_of_wp Try.func40 rfl hf1 ?_ hro
  simp only [Try.ntmps40, List.size_toArray, List.length_cons, List.length_nil, Nat.reduceAdd, Nat.reduceSub, Array.replicate_succ, Array.replicate_zero, List.push_toArray, List.append_toArray, List.nil_append, List.cons_append]
  gi_wp2_with (gi_at_call 14; refine (callsIn_wide.2 (recGet_any a len cap 0 L _ h9 HE.out hRW.out HN.out)).mono ?_; rintro e w2 hget; obtain ⟨⟨k2, a2, n2, c2, B2⟩, rfl, hx2, hok2, hin2, hb2⟩ := hget.place; rw [HT0.out, HE0.out]; have HB2 := Lib.hid hb2; clear hget hb2)
  obtain ⟨z, hz⟩ : ∃ z, w2.heap.size = z := ⟨_, rfl⟩
  have hbx := recBox_below w2 k2 a2 n2 c2
  have hWz : W.heap.size ≤ z := by rw [← hz]; exact HB2.out.size
  have HBW : Hid (Below W.heap.size W (recBox w2 k2 a2 n2 c2)) := Lib.hid (HB2.out.trans (hbx.mono HB2.out.size))
  have HJ0 : Hid (J z [] (recBox w2 k2 a2 n2 c2)) := Lib.hid (HAB.out z [] W _ none (HH0.out z hWz) (below_grown HBW.out) (fun r e => by cases e))
  have HX0 : Hid (NextR L z 0 [] (.int .i64 t0) (.int .i64 e0) (recBox w2 k2 a2 n2 c2)) := Lib.hid (next_rec (u := (k2, a2, n2, c2, B2)) HWF.out (R.Part.start _) HT0.out HE0.out hx2.out (by rw [← hz]; exact Blok.new w2 _ _) (hok2.out.below hbx) (hin2.out.below hbx))
  have HC0 : Hid ((recBox w2 k2 a2 n2 c2).heap[Bn]? = W.heap[Bn]?) := Lib.hid (HBW.out.block Bn hBl)
  clear hx2 hok2 hin2 hbx HB2 HH0 HT0 HE0
  have hrb : w2.alloc (.cells #[.int .i64 k2, .slice a2 n2 c2] 24) = recBox w2 k2 a2 n2 c2 := rfl
  rw [hrb, hz]
  clear hrb hz
  generalize recBox w2 k2 a2 n2 c2 = w3 at HJ0 HX0 HC0 HBW ⊢
  gi_loopw [4, 5] (fun x y wr => ∃ (pre : List RY) (p : Nat), Hid (R.Part L (RP.recs (pre.map Prod.fst)) p) ∧ Hid (lastR pre = p) ∧ Hid (J z pre wr) ∧ Hid (Below H W wr) ∧ Hid (wr.heap[Bn]? = W.heap[Bn]?) ∧ Hid (NextR L z p (RP.recs (pre.map Prod.fst)) x y wr)) (fun x y _ => measR len x y)
  case atStart => exact ⟨[], 0, Lib.hid (R.Part.start _), Lib.hid rfl, HJ0, Lib.hid (HBW.out.mono hHW), HC0, HX0⟩
  case round =>
    obtain ⟨pre, p, HP, HLst, HJ, HB, HC, HX⟩ := hrel
    have hcw : wr.cell? ⟨Bn, 0, none⟩ = some (.slice a len cap) := (World.cell?_of_block (w := W) (a := ⟨Bn, 0, none⟩) HC.out).trans hcell
    obtain ⟨⟨k3, a3, n3, c3, B3⟩, hbk, ⟨s, rfl, rfl, hpt, h6, hle, hok, hin⟩ | ⟨e, he, rfl, rfl, hd⟩⟩ := HX.out
    · have d0 : wr.cell? ⟨z, 0, none⟩ = some (.int .i64 k3) := hbk.cell 0
      have d1 : wr.cell? ⟨z, 1, none⟩ = some (.slice a3 n3 c3) := hbk.cell 1
      have hplen := HP.out.len
      rw [RP.recs_len, List.length_map] at hplen
      obtain ⟨fn, tmps, assign, body, hy, hR⟩ := hY z pre ((k3, a3, n3, c3, B3), ((p + s : Nat) : Int)) wr HJ.out ⟨⟨hok, hin⟩, by omega, hbk.lt, inB_ne hin hbk⟩ (by omega)
      dsimp only [encR] at hy
      have HPT := Lib.hid hpt
      have HBK := Lib.hid hbk
      have hqle : p + s ≤ len := by rw [← HE.out]; exact hle
      obtain ⟨q, hq⟩ : ∃ q, p + s = q := ⟨_, rfl⟩
      rw [hq] at hy hR HPT hqle ⊢
      obtain ⟨t1, ht1⟩ : ∃ t, (R.get L q).2.2 = t := ⟨_, rfl⟩
      obtain ⟨e1, he1⟩ : ∃ e, (R.get L q).1 = e := ⟨_, rfl⟩
      have HT1 := Lib.hid ht1
      have HE1 := Lib.hid he1
      clear hpt hbk hok hin h6 hle hplen HX ht1 he1 hq
      gi_wp2
      refine hR.mono ?_
      rintro e3 W3 ⟨rfl, hJ3, hk3⟩
      have hc3 : W3.cell? ⟨Bn, 0, none⟩ = some (.slice a len cap) := (World.cell?_of_block (w := wr) (a := ⟨Bn, 0, none⟩) hk3.2.1).trans hcw
      have HR3 : Hid (RowIn .u8 W3 a cap L) := Lib.hid (HL.out.belowN hH ((HW0.out.trans HB.out).trans hk3.1))
      have HZ3 : Hid (Blok W3 z 24 #[.int .i64 k3, .slice a3 n3 c3]) := Lib.hid (hk3.2.2 _ _ _ HBK.out)
      have HJ3 := Lib.hid hJ3
      have HK3 := Lib.hid hk3
      clear hJ3 hk3 d0 d1 hcw
      gi_wp2_with (gi_at_call 14; refine (callsIn_wide.2 (recGet_any a len cap q L _ h9 HE.out HR3.out HN.out)).mono ?_; rintro e w4 hget; obtain ⟨⟨k4, a4, n4, c4, B4⟩, rfl, hx4, hok4, hin4, hb4⟩ := hget.place; rw [HT1.out, HE1.out]; have HB4 := Lib.hid hb4; have HZ4 := Lib.hid (HZ3.out.below hb4 HZ3.out.lt); have d0 : w4.cell? ⟨z, 0, none⟩ = some (.int .i64 k3) := HZ4.out.cell 0; have d1 : w4.cell? ⟨z, 1, none⟩ = some (.slice a3 n3 c3) := HZ4.out.cell 1; have f0 : w4.frozen? ⟨z, 0, none⟩ = false := HZ4.out.frozen 0; have f1 : w4.frozen? ⟨z, 1, none⟩ = false := HZ4.out.frozen 1; clear hget hb4)
      have hzB : Bn ≠ z := by omega
      have hne := inB_ne hin4.out HZ4.out
      have HS : ∀ (V : World) (i : Nat) (v : Value), (V.setCell ⟨z, i, none⟩ v).heap[Bn]? = V.heap[Bn]? := fun V i v => Below.heap_setCell V ⟨z, i, none⟩ v Bn hzB
      have HJ4 := HAB.out z _ _ _ none HJ3.out (below_grown HB4.out) (fun r e => by cases e)
      have HBb := (HB.out.trans HK3.out.1).trans (HB4.out.mono (by have := HB.out.size; have := HK3.out.1.size; omega))
      have hBn3 : Bn < W3.heap.size := by have := HB.out.size; have := HK3.out.1.size; omega
      have hP2 : R.Part L (RP.recs ((pre ++ [((k3, a3, n3, c3, B3), (q : Int))]).map Prod.fst)) q := by
        rw [List.map_append, List.map_singleton, RP.recs_snoc]; exact HPT.out
      have hX2 := next_rec (z := z) (u := (k4, a4, n4, c4, B4)) (W := (w4.setCell ⟨z, 0, none⟩ (.int .i64 k4)).setCell ⟨z, 1, none⟩ (.slice a4 n4 c4)) HWF.out hP2 HT1.out HE1.out hx4.out (by simpa using (HZ4.out.set 0 (.int .i64 k4)).set 1 (.slice a4 n4 c4)) ⟨hok4.out.1, row_set (row_set hok4.out.2.1 hne _ _) hne _ _, hok4.out.2.2⟩ (inB_set (inB_set hin4.out hne _ _) hne _ _)
      refine ⟨⟨pre ++ [((k3, a3, n3, c3, B3), (q : Int))], q, Lib.hid hP2, Lib.hid (lastR_snoc _ _), Lib.hid (HJZ.out z _ _ 1 _ (HJZ.out z _ _ 0 _ HJ4)), Lib.hid (below_store HBb (by omega) _ _ _ _), Lib.hid ?_, Lib.hid hX2⟩, meas_rec HE.out hqle hX2⟩
      rw [HS, HS, HB4.out.block _ hBn3, HK3.out.2.1]
      exact HC.out
    · have he1 : (e == 0) = false := by simpa using he
      have HD := Lib.hid hd
      clear hd he hbk HX
      gi_wp2
      refine ⟨fun _ h => (by cases h), ?_⟩
      gi_wp2
      go_end0
      exact ⟨⟨_, rfl⟩, z, pre, ⟨p, HD.out, HLst.out⟩, HJ.out⟩
end Go.Proofs.Ytnpgjndhkmpciaa
