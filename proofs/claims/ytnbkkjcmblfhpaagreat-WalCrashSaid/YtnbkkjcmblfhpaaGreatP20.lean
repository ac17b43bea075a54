import Derived.Test.YtnbkkjcmblfhpaaGreatP17
import Derived.Test.YtnbkkjcmblfhpaaGreatP19
import Derived.Test.YtnbkkjcmblfhpaaGreatP6
namespace Go.Proofs.YtnbkkjcmblfhpaaGreat
set_option maxHeartbeats 1000000
set_option maxRecDepth 100000
open Go.RowKit
attribute [local go_sem] Oper.semAt_some
theorem zsl (n : Nat) (hn : 8 <= n) (a : Option Addr) (len cap : Nat) (L : List Int) (w : World) (h9 : len <= 90000) (hlen : L.length = len) (h : zfv .u8 w a cap L) (hnil : a = none -> len = 0 /\ cap = 0) :
  CallsIn Fence.wide n Tryz.prog 58 #[.slice a len cap] w fun e w' => ∃ A', e = .returned (.tuple #[Y.val ((J.read L).getD J.s00) A', .bool (J.read L).isSome]) /\ Hid (J.Got w' w.heap.size ((J.read L).getD J.s00) A') /\ Below w.heap.size w w' := by
 have h1 : 1 <= n := by omega
 have hro : Fence.wide.round = none := rfl
 have hf0 : Fence.wide.fn 58 := trivial
 have hf1 : Fence.wide.fn 112 := trivial
 have hf2 : Fence.wide.fn 185 := trivial
 have hf3 : Fence.wide.fn 113 := trivial
 have hf4 : Fence.wide.fn 114 := trivial
 have hf5 : Fence.wide.fn 115 := trivial
 have hf6 : Fence.wide.fn 116 := trivial
 have hf7 : Fence.wide.fn 117 := trivial
 have hf8 : Fence.wide.fn 38 := trivial
 have hf9 : Fence.wide.fn 118 := trivial
 have HL := Zh h
 have HE := Zh hlen
 have HN := Zh hnil
 clear h hlen hnil
 have cp := zsi (n - 1) a len cap
 refine callsIn_of_wp_marks Tryz.func58 rfl hf0 ?_ hro
 simp only [Tryz.ntmps58, List.size_toArray, List.length_cons, List.length_nil, Nat.reduceAdd, Nat.reduceSub, Array.replicate_succ, Array.replicate_zero, List.push_toArray, List.append_toArray, List.nil_append, List.cons_append]
 have HB0 := Zh (Below.refl w.heap.size w)
 obtain ⟨w1, hw1, hb, hk⟩ := Zn w 37 #[.int .i64 0, .int .i64 0, .int .i64 0, .int .i64 0, .int .i64 0, .int .i64 0, .int .i64 0, .int .i64 0, .int .i64 0, .int .i64 0, .int .i64 0, .bool false, .int .i64 0, .slice none 0 0, .slice none 0 0, .slice none 0 0]
 have HB1 := Zt HB0 hb
 have KO1 := Zh hk
 clear hb hk HB0
 obtain ⟨w2, hw2, hb, hk⟩ := Zn w1 153 #[.int .i64 0, .int .i64 0, .int .i64 0, .int .i64 0, .int .i64 0, .int .i64 0, .int .i64 0, .int .i64 0, .int .i64 0, .int .i64 0, .int .i64 0, .bool false, .int .i64 0, .slice none 0 0, .slice none 0 0, .slice none 0 0, .slice none 0 0]
 replace KO1 := Zk KO1 hb
 have HB2 := Zt HB1 hb
 have KR2 := Zh hk
 clear hb hk HB1
 have hs1 : w1.heap.size = w.heap.size + 1 := by rw [<- hw1]; simp
 have hs2 : w2.heap.size = w.heap.size + 2 := by rw [<- hw2]; simp; omega
 gi_wp2_with fail
 try rw [hw1]
 refine zoq ?_
 gi_wp2_with fail
 refine wpIn_label ?_
 gi_wp2_with fail
 refine (cp w2).mono ?_
 rintro e w' ⟨rfl, rfl⟩
 clear cp
 obtain ⟨w3, hw3, hb, hk⟩ := Zn w2 51 #[.slice a len cap]
 replace KO1 := Zk KO1 hb
 replace KR2 := Zk KR2 hb
 have HB3 := Zt HB2 hb
 have KB3 := Zh hk
 clear hb hk HB2
 have hs3 : w3.heap.size = w.heap.size + 3 := by rw [<- hw3]; simp; omega
 try rw [hw3]
 clear hw3 hw1 hw2
 gi_wp2
 rename_i K9 hK9
 have hcap : len <= cap := by have := HL.out.1; rw [HE.out] at this; exact this.1
 have hkb := KB3.out
 rw [hs2] at hkb
 have hkr := KR2.out
 rw [hs1] at hkr
 have hR0 : J.Rd w3 (w.heap.size + 1) (w.heap.size + 3) J.s00 Y.a0 none 0 0 [] := ⟨hkr, ⟨World.ownsRow_nil _ _ _ _, World.ownsRow_nil _ _ _ _, World.ownsRow_nil _ _ _ _, rfl, rfl, rfl⟩, World.ownsRow_nil _ _ _ _, by omega⟩
 refine zop hro h1 (gf := 185) (lb := #[.pointer (some ⟨w.heap.size + 2, 0, none⟩)]) rfl hf2 (enters_of Tryz.func185 (by kernel_rfl) rfl)
  (zqc (n - 1) w.heap.size (w.heap.size + 2) (by omega) a len cap L h9 hcap HE.out w w3 hkb (Nat.le_refl _) HB3.out.size HB3.out HL.out HN.out) (Below.refl _ _) (fun _ => rfl) Kp.t
  (fun W l o o' hl hW hc _ => ⟨(Below.refl _ W).grown (grownBy_putObj' W l o') (by have := (Array.getElem?_eq_some_iff.1 hW).1; omega) (fun k e => by cases e; omega), (grownBy_putObj' W l o').block _ (by have := (Array.getElem?_eq_some_iff.1 hW).1; omega) (fun e => by cases e; omega)⟩)
  (J.Keeps w L) (fun c _ W => c = .exit 0 /\ J.Out w L W) (J.keeps_own w L _ (by omega)) (fun c => J.out_own w L _ (by omega) c)
  ⟨⟨J.s00, Y.a0, none, 0, 0, [], hR0, J.Kst.start, fun s _ => J.Agr.start s, KO1.out, HB3.out, by omega⟩, fun _ => hR0⟩
  (fun x => { tmps := #[.slice a len cap, undef, .pointer (some ⟨w.heap.size, 0, none⟩), .bool false, .pointer (some ⟨w.heap.size + 1, 0, none⟩), .int .i64 x.1, .slice x.2.1 x.2.2.2.length x.2.2.1, undef, undef, .slice a len cap, .func (.func 185) #[] #[.pointer (some ⟨w.heap.size + 2, 0, none⟩)], .int .i64 x.1, .slice x.2.1 x.2.2.2.length x.2.2.1, undef, undef, undef, undef, undef, undef, undef, undef, undef, undef, undef, undef, undef, undef, undef, undef, undef, undef, undef, undef, undef, undef, undef, undef, undef, undef, undef, undef, undef, undef, undef, undef, undef, undef, undef, undef, undef, undef, undef, undef, undef, undef, undef, undef, undef, undef, undef, undef, undef, undef, undef, undef], defers := [] }) ?assign ?body ?done ?stop
 case assign =>
  intro l x W K hK
  gi_wp2
  exact hK
 case body =>
  rintro l pre ⟨k, pa, pc, P⟩ W ⟨hI, h00⟩ hT
  have hk : k = (pre.length : Int) := hT.1
  have HT := Zh hT
  have HI := Zh hI
  have H00 := Zh h00
  clear hT hI h00
  by_cases q0 : pre.length = 0
  ·have e0 : (k == 0) = true := by simp; omega
   have hc := ztc w W L pre _ HI.out HT.out q0 (H00.out q0)
   dsimp only at hc
   dsimp only
   gi_wp2_with fail
   refine ⟨fun _ => by omega, (CallsIn.inRound l (callsIn_wide.2 hc)).mono ?_⟩
   clear hc
   rintro e W' ⟨v, rfl, hf, hy, hn⟩
   have HF := Zh hf
   clear hf
   cases v with
   | true =>
    have HY := Zh (hy rfl)
    clear hy hn
    gi_wp2
    exact ⟨HF.out.o.from _, HF.out.kp, by rw [List.length_append, q0]; exact HY.out, fun h => by simp at h⟩
   | false =>
    have HY := Zh (hn rfl)
    clear hy hn
    have e1 : (k == 1) = false := by simp; omega
    have e2 : (k == 2) = false := by simp; omega
    have e3 : (k == 3) = false := by simp; omega
    have e4 : (k == 4) = false := by simp; omega
    gi_wp2
    exact ⟨HF.out.o.from _, rfl, HY.out⟩
  by_cases q1 : pre.length = 1
  ·have e0 : (k == 0) = false := by simp; omega
   have e1 : (k == 1) = true := by simp; omega
   have hc := ztd w W L pre _ HI.out HT.out q1
   dsimp only at hc
   dsimp only
   gi_wp2_with fail
   refine ⟨fun _ => by omega, (CallsIn.inRound l (callsIn_wide.2 hc)).mono ?_⟩
   clear hc
   rintro e W' ⟨v, rfl, hf, hy, hn⟩
   have HF := Zh hf
   clear hf
   cases v with
   | true =>
    have HY := Zh (hy rfl)
    clear hy hn
    gi_wp2
    exact ⟨HF.out.o.from _, HF.out.kp, by rw [List.length_append, q1]; exact HY.out, fun h => by simp at h⟩
   | false =>
    have HY := Zh (hn rfl)
    clear hy hn
    have e2 : (k == 2) = false := by simp; omega
    have e3 : (k == 3) = false := by simp; omega
    have e4 : (k == 4) = false := by simp; omega
    gi_wp2
    exact ⟨HF.out.o.from _, rfl, HY.out⟩
  by_cases q2 : pre.length = 2
  ·have e0 : (k == 0) = false := by simp; omega
   have e1 : (k == 1) = false := by simp; omega
   have e2 : (k == 2) = true := by simp; omega
   have hc := zte w W L pre _ HI.out HT.out q2
   dsimp only at hc
   dsimp only
   gi_wp2_with fail
   refine ⟨fun _ => by omega, (CallsIn.inRound l (callsIn_wide.2 hc)).mono ?_⟩
   clear hc
   rintro e W' ⟨v, rfl, hf, hy, hn⟩
   have HF := Zh hf
   clear hf
   cases v with
   | true =>
    have HY := Zh (hy rfl)
    clear hy hn
    gi_wp2
    exact ⟨HF.out.o.from _, HF.out.kp, by rw [List.length_append, q2]; exact HY.out, fun h => by simp at h⟩
   | false =>
    have HY := Zh (hn rfl)
    clear hy hn
    have e3 : (k == 3) = false := by simp; omega
    have e4 : (k == 4) = false := by simp; omega
    gi_wp2
    exact ⟨HF.out.o.from _, rfl, HY.out⟩
  by_cases q3 : pre.length = 3
  ·have e0 : (k == 0) = false := by simp; omega
   have e1 : (k == 1) = false := by simp; omega
   have e2 : (k == 2) = false := by simp; omega
   have e3 : (k == 3) = true := by simp; omega
   have hc := ztf w W L pre _ HI.out HT.out q3
   dsimp only at hc
   dsimp only
   gi_wp2_with fail
   refine ⟨fun _ => by omega, (CallsIn.inRound l (callsIn_wide.2 hc)).mono ?_⟩
   clear hc
   rintro e W' ⟨v, rfl, hf, hy, hn⟩
   have HF := Zh hf
   clear hf
   cases v with
   | true =>
    have HY := Zh (hy rfl)
    clear hy hn
    gi_wp2
    exact ⟨HF.out.o.from _, HF.out.kp, by rw [List.length_append, q3]; exact HY.out, fun h => by simp at h⟩
   | false =>
    have HY := Zh (hn rfl)
    clear hy hn
    have e4 : (k == 4) = false := by simp; omega
    gi_wp2
    exact ⟨HF.out.o.from _, rfl, HY.out⟩
  by_cases q4 : pre.length = 4
  ·have e0 : (k == 0) = false := by simp; omega
   have e1 : (k == 1) = false := by simp; omega
   have e2 : (k == 2) = false := by simp; omega
   have e3 : (k == 3) = false := by simp; omega
   have e4 : (k == 4) = true := by simp; omega
   have hc := ztg w W L pre _ HI.out HT.out q4
   dsimp only at hc
   dsimp only
   gi_wp2_with fail
   refine ⟨fun _ => by omega, (CallsIn.inRound l (callsIn_wide.2 hc)).mono ?_⟩
   clear hc
   rintro e W' ⟨v, rfl, hf, hy, hn⟩
   have HF := Zh hf
   clear hf
   cases v with
   | true =>
    have HY := Zh (hy rfl)
    clear hy hn
    gi_wp2
    exact ⟨HF.out.o.from _, HF.out.kp, by rw [List.length_append, q4]; exact HY.out, fun h => by simp at h⟩
   | false =>
    have HY := Zh (hn rfl)
    clear hy hn
    
    gi_wp2
    exact ⟨HF.out.o.from _, rfl, HY.out⟩
  have e0 : (k == 0) = false := by simp; omega
  have e1 : (k == 1) = false := by simp; omega
  have e2 : (k == 2) = false := by simp; omega
  have e3 : (k == 3) = false := by simp; omega
  have e4 : (k == 4) = false := by simp; omega
  dsimp only
  gi_wp2
  exact ⟨KeepsFrom.refl _ _, rfl, ⟨_, HI.out⟩, fun s hs => by
   obtain ⟨T, hT⟩ := HT.out.2.2.2.2 s hs
   have := congrArg List.length hT
   simp [J.parts] at this
   omega⟩
 case done =>
  rintro D ys W hD hS ⟨hI, _⟩ hK
  obtain ⟨st, A, an, nn, cn, N, r, hk, ha, h3, h4, h5⟩ := hI
  have hfin : ∀ s, J.put s = some L -> st = s := fun s hs => by
   have h1 := congrArg List.length (hS s hs)
   simp only [J.parts, List.length_cons, List.length_nil, List.length_map] at h1
   exact J.agr_end (by omega) hk (ha s hs)
  clear hS
  obtain ⟨ap, np, cp, al, nl, cl, ah, nh, ch⟩ := A
  have hD1 : D < W.heap.size := (Array.getElem?_eq_some_iff.1 hK).1
  have HR := Zh r
  have HFT := Zh (hk.fits r)
  have HFN := Zh hfin
  have HO := Zh h3
  have HBW := Zh h4
  have HD0 := Zh hK
  have HROW := Zh (HL.out.belowN (Nat.le_refl _) h4)
  clear r hk ha hfin h3 h4 hK
  have c0 := Zv HR.out.k 0 (.int .i64 st.d.b)
  have c1 := Zv HR.out.k 1 (.int .i64 st.d.k)
  have c2 := Zv HR.out.k 2 (.int .i64 st.d.c)
  have c3 := Zv HR.out.k 3 (.int .i64 st.d.j)
  have c4 := Zv HR.out.k 4 (.int .i64 st.d.lo)
  have c5 := Zv HR.out.k 5 (.int .i64 st.d.hi)
  have c6 := Zv HR.out.k 6 (.int .i64 st.d.dy)
  have c7 := Zv HR.out.k 7 (.int .i64 st.d.bl)
  have c8 := Zv HR.out.k 8 (.int .i64 st.p.q)
  have c9 := Zv HR.out.k 9 (.int .i64 st.p.i)
  have c10 := Zv HR.out.k 10 (.int .i64 st.p.h)
  have c11 := Zv HR.out.k 11 (.bool st.p.pair)
  have c12 := Zv HR.out.k 12 (.int .i64 st.now)
  have c13 := Zv HR.out.k 13 (.slice ap np cp)
  have c14 := Zv HR.out.k 14 (.slice al nl cl)
  have c15 := Zv HR.out.k 15 (.slice ah nh ch)
  have cput := zn9 st ⟨ap, np, cp, al, nl, cl, ah, nh, ch⟩ W HR.out.o.i HFT.out
  unfold Y.val at cput
  refine hK9 _ _ (wpIn_wide.2 ?_)
  dsimp only
  go_wp2_with fail
  refine cput.mono ?_
  clear cput c0 c1 c2 c3 c4 c5 c6 c7 c8 c9 c10 c11 c12 c13 c14 c15
  rintro e w4 ⟨pa, pc, rfl, hrow, hb, _⟩
  have HR4 := Zh (HR.out.below hb)
  have HO4 := Zk HO hb
  have HB4 := Zt HBW hb
  have HD4 := Zh ((hb.block D hD1).trans HD0.out)
  have HRW4 := Zh (HROW.out.below hb)
  have HPR := Zh hrow.out
  clear hb hrow HR HO HBW HD0 HROW
  cases hput : J.put st with
  | none =>
   rw [hput] at HPR
   simp only [Option.getD_none, Option.isSome_none, List.length_nil]
   have HPN := Zh hput
   clear hput
   have HE9 : Hid (J.read L = none) := Zh (J.read_none fun s hs => by
    have e := HFN.out s hs
    subst e
    rw [HPN.out] at hs; cases hs)
   obtain ⟨w9, hw9⟩ : ∃ V, w4.setRow w.heap.size #[.int .i64 0, .int .i64 0, .int .i64 0, .int .i64 0, .int .i64 0, .int .i64 0, .int .i64 0, .int .i64 0, .int .i64 0, .int .i64 0, .int .i64 0, .bool false, .int .i64 0, .slice none 0 0, .slice none 0 0, .slice none 0 0] = V := ⟨_, rfl⟩
   have hg9 : w4.grownBy w9 (some w.heap.size) := by rw [<- hw9]; exact zbr _ _ _
   have HP9 := Zh hw9
   have HO9 : Hid (Blok w9 w.heap.size 37 #[.int .i64 0, .int .i64 0, .int .i64 0, .int .i64 0, .int .i64 0, .int .i64 0, .int .i64 0, .int .i64 0, .int .i64 0, .int .i64 0, .int .i64 0, .bool false, .int .i64 0, .slice none 0 0, .slice none 0 0, .slice none 0 0]) := Zh (by rw [<- hw9]; exact HO4.out.put _)
   have HBz := Zh (HB4.out.grown hg9 HB4.out.size (fun q hq => by cases hq; exact Nat.le_refl _))
   have HDW : Hid (w9.heap[D]? = some (.deferred (some []))) := Zh ((hg9.block D (Array.getElem?_eq_some_iff.1 HD4.out).1 (fun e => by cases e; omega)).trans HD4.out)
   clear hw9 hg9
   go_wp2_with (refine Zw HO4.out HP9.out ?_)
   have HDz := Zh HDW.out
   refine ⟨by simp, .inl ⟨_, _, rfl, run_takeDeferred HDz.out, ?_⟩⟩
   refine ⟨_, zly (v := .bool false) rfl w.heap.size rfl (by kernel_rfl) (by kernel_rfl) (J.blok_nc HO9.out (grownBy_putObj' _ D (.deferred none)) (fun r e => by cases e; exact ⟨_, HDz.out, rfl⟩)), ?_⟩
   rw [HE9.out]
   exact ⟨Y.a0, rfl, Zh (J.got0 _ _), HBz.out.trans (belowK_b (w := w) (Nat.le_refl _) w9 D _ _ (by omega) HDz.out rfl rfl)⟩
  | some bs =>
   rw [hput] at HPR
   simp only [Option.getD_some, Option.isSome_some]
   have HPN := Zh hput
   have heq := zpz pa a bs.length len pc cap bs L w4 rfl HE.out HPR.out HRW4.out
   clear hput
   go_wp2_with fail
   refine heq.mono ?_
   clear heq
   rintro e w5 ⟨rfl, hb⟩
   replace HR4 := Zh (HR4.out.below hb)
   replace HO4 := Zk HO4 hb
   have HB5 := Zt HB4 hb
   have HD5 := Zh ((hb.block D (Array.getElem?_eq_some_iff.1 HD4.out).1).trans HD4.out)
   clear hb HB4 HD4 HRW4 HPR
   by_cases hbl : bs = L
   rotate_left
   ·have hdc : decide (bs = L) = false := decide_eq_false hbl
    rw [hdc]
    have HNE := Zh hbl
    clear hbl hdc
    have HE9 : Hid (J.read L = none) := Zh (J.read_none fun s hs => by
     have e := HFN.out s hs
     subst e
     rw [HPN.out] at hs; exact HNE.out (Option.some.inj hs))
    obtain ⟨w9, hw9⟩ : ∃ V, w5.setRow w.heap.size #[.int .i64 0, .int .i64 0, .int .i64 0, .int .i64 0, .int .i64 0, .int .i64 0, .int .i64 0, .int .i64 0, .int .i64 0, .int .i64 0, .int .i64 0, .bool false, .int .i64 0, .slice none 0 0, .slice none 0 0, .slice none 0 0] = V := ⟨_, rfl⟩
    have hg9 : w5.grownBy w9 (some w.heap.size) := by rw [<- hw9]; exact zbr _ _ _
    have HP9 := Zh hw9
    have HO9 : Hid (Blok w9 w.heap.size 37 #[.int .i64 0, .int .i64 0, .int .i64 0, .int .i64 0, .int .i64 0, .int .i64 0, .int .i64 0, .int .i64 0, .int .i64 0, .int .i64 0, .int .i64 0, .bool false, .int .i64 0, .slice none 0 0, .slice none 0 0, .slice none 0 0]) := Zh (by rw [<- hw9]; exact HO4.out.put _)
    have HBz := Zh (HB5.out.grown hg9 HB5.out.size (fun q hq => by cases hq; exact Nat.le_refl _))
    have HDW : Hid (w9.heap[D]? = some (.deferred (some []))) := Zh ((hg9.block D (Array.getElem?_eq_some_iff.1 HD5.out).1 (fun e => by cases e; omega)).trans HD5.out)
    clear hw9 hg9
    go_wp2_with (refine Zw HO4.out HP9.out ?_)
    have HDz := Zh HDW.out
    refine ⟨by simp, .inl ⟨_, _, rfl, run_takeDeferred HDz.out, ?_⟩⟩
    refine ⟨_, zly (v := .bool false) rfl w.heap.size rfl (by kernel_rfl) (by kernel_rfl) (J.blok_nc HO9.out (grownBy_putObj' _ D (.deferred none)) (fun r e => by cases e; exact ⟨_, HDz.out, rfl⟩)), ?_⟩
    rw [HE9.out]
    exact ⟨Y.a0, rfl, Zh (J.got0 _ _), HBz.out.trans (belowK_b (w := w) (Nat.le_refl _) w9 D _ _ (by omega) HDz.out rfl rfl)⟩
   have hdc : decide (bs = L) = true := decide_eq_true hbl
   rw [hdc]
   have HE9 : Hid (J.read L = some st) := Zh (J.read_some.2 (by rw [HPN.out, hbl]))
   clear hbl hdc
   have c0 := Zv HR4.out.k 0 (.int .i64 st.d.b)
   have c1 := Zv HR4.out.k 1 (.int .i64 st.d.k)
   have c2 := Zv HR4.out.k 2 (.int .i64 st.d.c)
   have c3 := Zv HR4.out.k 3 (.int .i64 st.d.j)
   have c4 := Zv HR4.out.k 4 (.int .i64 st.d.lo)
   have c5 := Zv HR4.out.k 5 (.int .i64 st.d.hi)
   have c6 := Zv HR4.out.k 6 (.int .i64 st.d.dy)
   have c7 := Zv HR4.out.k 7 (.int .i64 st.d.bl)
   have c8 := Zv HR4.out.k 8 (.int .i64 st.p.q)
   have c9 := Zv HR4.out.k 9 (.int .i64 st.p.i)
   have c10 := Zv HR4.out.k 10 (.int .i64 st.p.h)
   have c11 := Zv HR4.out.k 11 (.bool st.p.pair)
   have c12 := Zv HR4.out.k 12 (.int .i64 st.now)
   have c13 := Zv HR4.out.k 13 (.slice ap np cp)
   have c14 := Zv HR4.out.k 14 (.slice al nl cl)
   have c15 := Zv HR4.out.k 15 (.slice ah nh ch)
   obtain ⟨w9, hw9⟩ : ∃ V, w5.setRow w.heap.size #[.int .i64 st.d.b, .int .i64 st.d.k, .int .i64 st.d.c, .int .i64 st.d.j, .int .i64 st.d.lo, .int .i64 st.d.hi, .int .i64 st.d.dy, .int .i64 st.d.bl, .int .i64 st.p.q, .int .i64 st.p.i, .int .i64 st.p.h, .bool st.p.pair, .int .i64 st.now, .slice ap np cp, .slice al nl cl, .slice ah nh ch] = V := ⟨_, rfl⟩
   have hg9 : w5.grownBy w9 (some w.heap.size) := by rw [<- hw9]; exact zbr _ _ _
   have HP9 := Zh hw9
   have HO9 : Hid (Blok w9 w.heap.size 37 #[.int .i64 st.d.b, .int .i64 st.d.k, .int .i64 st.d.c, .int .i64 st.d.j, .int .i64 st.d.lo, .int .i64 st.d.hi, .int .i64 st.d.dy, .int .i64 st.d.bl, .int .i64 st.p.q, .int .i64 st.p.i, .int .i64 st.p.h, .bool st.p.pair, .int .i64 st.now, .slice ap np cp, .slice al nl cl, .slice ah nh ch]) := Zh (by rw [<- hw9]; exact HO4.out.put _)
   have HBz := Zh (HB5.out.grown hg9 HB5.out.size (fun q hq => by cases hq; exact Nat.le_refl _))
   have HDW : Hid (w9.heap[D]? = some (.deferred (some []))) := Zh ((hg9.block D (Array.getElem?_eq_some_iff.1 HD5.out).1 (fun e => by cases e; omega)).trans HD5.out)
   have HGo := Zh (HR4.out.o.far hg9 (by omega))
   clear hw9 hg9
   go_wp2_with (refine Zw HO4.out HP9.out ?_)
   have HDz := Zh HDW.out
   refine ⟨by simp, .inl ⟨_, _, rfl, run_takeDeferred HDz.out, ?_⟩⟩
   refine ⟨_, zly (v := .bool true) rfl w.heap.size rfl (by kernel_rfl) (by kernel_rfl) (J.blok_nc HO9.out (grownBy_putObj' _ D (.deferred none)) (fun r e => by cases e; exact ⟨_, HDz.out, rfl⟩)), ?_⟩
   rw [HE9.out]
   exact ⟨⟨ap, np, cp, al, nl, cl, ah, nh, ch⟩, rfl, (by
    have g9 := grownBy_putObj' w9 D (.deferred none)
    have hr9 : ∀ r, some D = some r -> ∃ o : Obj, w9.heap[r]? = some o /\ o.isCells = false := fun r e => by cases e; exact ⟨_, HDz.out, rfl⟩
    exact Zh ((J.Got.of ⟨J.own_nc HGo.out.rp g9 hr9, J.own_nc HGo.out.rl g9 hr9, J.own_nc HGo.out.rh g9 hr9, HGo.out.np, HGo.out.nl, HGo.out.nh⟩).down (by omega))), HBz.out.trans (belowK_b (w := w) (Nat.le_refl _) w9 D _ _ (by omega) HDz.out rfl rfl)⟩
 case stop =>
  rintro D c pre W hD ⟨rfl, ⟨k, hI⟩, hno⟩ hK
  obtain ⟨st, A, an, nn, cn, N, r, hk, ha, h3, h4, h5⟩ := hI
  have hfin : ∀ s, J.put s = some L -> st = s := fun s hs => absurd hs (hno s)
  clear hno
  refine wpIn_exit ?_
  obtain ⟨ap, np, cp, al, nl, cl, ah, nh, ch⟩ := A
  have hD1 : D < W.heap.size := (Array.getElem?_eq_some_iff.1 hK).1
  have HR := Zh r
  have HFT := Zh (hk.fits r)
  have HFN := Zh hfin
  have HO := Zh h3
  have HBW := Zh h4
  have HD0 := Zh hK
  have HROW := Zh (HL.out.belowN (Nat.le_refl _) h4)
  clear r hk ha hfin h3 h4 hK
  have c0 := Zv HR.out.k 0 (.int .i64 st.d.b)
  have c1 := Zv HR.out.k 1 (.int .i64 st.d.k)
  have c2 := Zv HR.out.k 2 (.int .i64 st.d.c)
  have c3 := Zv HR.out.k 3 (.int .i64 st.d.j)
  have c4 := Zv HR.out.k 4 (.int .i64 st.d.lo)
  have c5 := Zv HR.out.k 5 (.int .i64 st.d.hi)
  have c6 := Zv HR.out.k 6 (.int .i64 st.d.dy)
  have c7 := Zv HR.out.k 7 (.int .i64 st.d.bl)
  have c8 := Zv HR.out.k 8 (.int .i64 st.p.q)
  have c9 := Zv HR.out.k 9 (.int .i64 st.p.i)
  have c10 := Zv HR.out.k 10 (.int .i64 st.p.h)
  have c11 := Zv HR.out.k 11 (.bool st.p.pair)
  have c12 := Zv HR.out.k 12 (.int .i64 st.now)
  have c13 := Zv HR.out.k 13 (.slice ap np cp)
  have c14 := Zv HR.out.k 14 (.slice al nl cl)
  have c15 := Zv HR.out.k 15 (.slice ah nh ch)
  have cput := zn9 st ⟨ap, np, cp, al, nl, cl, ah, nh, ch⟩ W HR.out.o.i HFT.out
  unfold Y.val at cput
  refine hK9 _ _ (wpIn_wide.2 ?_)
  dsimp only
  go_wp2_with fail
  refine cput.mono ?_
  clear cput c0 c1 c2 c3 c4 c5 c6 c7 c8 c9 c10 c11 c12 c13 c14 c15
  rintro e w4 ⟨pa, pc, rfl, hrow, hb, _⟩
  have HR4 := Zh (HR.out.below hb)
  have HO4 := Zk HO hb
  have HB4 := Zt HBW hb
  have HD4 := Zh ((hb.block D hD1).trans HD0.out)
  have HRW4 := Zh (HROW.out.below hb)
  have HPR := Zh hrow.out
  clear hb hrow HR HO HBW HD0 HROW
  cases hput : J.put st with
  | none =>
   rw [hput] at HPR
   simp only [Option.getD_none, Option.isSome_none, List.length_nil]
   have HPN := Zh hput
   clear hput
   have HE9 : Hid (J.read L = none) := Zh (J.read_none fun s hs => by
    have e := HFN.out s hs
    subst e
    rw [HPN.out] at hs; cases hs)
   obtain ⟨w9, hw9⟩ : ∃ V, w4.setRow w.heap.size #[.int .i64 0, .int .i64 0, .int .i64 0, .int .i64 0, .int .i64 0, .int .i64 0, .int .i64 0, .int .i64 0, .int .i64 0, .int .i64 0, .int .i64 0, .bool false, .int .i64 0, .slice none 0 0, .slice none 0 0, .slice none 0 0] = V := ⟨_, rfl⟩
   have hg9 : w4.grownBy w9 (some w.heap.size) := by rw [<- hw9]; exact zbr _ _ _
   have HP9 := Zh hw9
   have HO9 : Hid (Blok w9 w.heap.size 37 #[.int .i64 0, .int .i64 0, .int .i64 0, .int .i64 0, .int .i64 0, .int .i64 0, .int .i64 0, .int .i64 0, .int .i64 0, .int .i64 0, .int .i64 0, .bool false, .int .i64 0, .slice none 0 0, .slice none 0 0, .slice none 0 0]) := Zh (by rw [<- hw9]; exact HO4.out.put _)
   have HBz := Zh (HB4.out.grown hg9 HB4.out.size (fun q hq => by cases hq; exact Nat.le_refl _))
   have HDW : Hid (w9.heap[D]? = some (.deferred (some []))) := Zh ((hg9.block D (Array.getElem?_eq_some_iff.1 HD4.out).1 (fun e => by cases e; omega)).trans HD4.out)
   clear hw9 hg9
   go_wp2_with (refine Zw HO4.out HP9.out ?_)
   have HDz := Zh HDW.out
   refine ⟨by simp, .inl ⟨_, _, rfl, run_takeDeferred HDz.out, ?_⟩⟩
   refine ⟨_, zly (v := .bool false) rfl w.heap.size rfl (by kernel_rfl) (by kernel_rfl) (J.blok_nc HO9.out (grownBy_putObj' _ D (.deferred none)) (fun r e => by cases e; exact ⟨_, HDz.out, rfl⟩)), ?_⟩
   rw [HE9.out]
   exact ⟨Y.a0, rfl, Zh (J.got0 _ _), HBz.out.trans (belowK_b (w := w) (Nat.le_refl _) w9 D _ _ (by omega) HDz.out rfl rfl)⟩
  | some bs =>
   rw [hput] at HPR
   simp only [Option.getD_some, Option.isSome_some]
   have HPN := Zh hput
   have heq := zpz pa a bs.length len pc cap bs L w4 rfl HE.out HPR.out HRW4.out
   clear hput
   go_wp2_with fail
   refine heq.mono ?_
   clear heq
   rintro e w5 ⟨rfl, hb⟩
   replace HR4 := Zh (HR4.out.below hb)
   replace HO4 := Zk HO4 hb
   have HB5 := Zt HB4 hb
   have HD5 := Zh ((hb.block D (Array.getElem?_eq_some_iff.1 HD4.out).1).trans HD4.out)
   clear hb HB4 HD4 HRW4 HPR
   by_cases hbl : bs = L
   rotate_left
   ·have hdc : decide (bs = L) = false := decide_eq_false hbl
    rw [hdc]
    have HNE := Zh hbl
    clear hbl hdc
    have HE9 : Hid (J.read L = none) := Zh (J.read_none fun s hs => by
     have e := HFN.out s hs
     subst e
     rw [HPN.out] at hs; exact HNE.out (Option.some.inj hs))
    obtain ⟨w9, hw9⟩ : ∃ V, w5.setRow w.heap.size #[.int .i64 0, .int .i64 0, .int .i64 0, .int .i64 0, .int .i64 0, .int .i64 0, .int .i64 0, .int .i64 0, .int .i64 0, .int .i64 0, .int .i64 0, .bool false, .int .i64 0, .slice none 0 0, .slice none 0 0, .slice none 0 0] = V := ⟨_, rfl⟩
    have hg9 : w5.grownBy w9 (some w.heap.size) := by rw [<- hw9]; exact zbr _ _ _
    have HP9 := Zh hw9
    have HO9 : Hid (Blok w9 w.heap.size 37 #[.int .i64 0, .int .i64 0, .int .i64 0, .int .i64 0, .int .i64 0, .int .i64 0, .int .i64 0, .int .i64 0, .int .i64 0, .int .i64 0, .int .i64 0, .bool false, .int .i64 0, .slice none 0 0, .slice none 0 0, .slice none 0 0]) := Zh (by rw [<- hw9]; exact HO4.out.put _)
    have HBz := Zh (HB5.out.grown hg9 HB5.out.size (fun q hq => by cases hq; exact Nat.le_refl _))
    have HDW : Hid (w9.heap[D]? = some (.deferred (some []))) := Zh ((hg9.block D (Array.getElem?_eq_some_iff.1 HD5.out).1 (fun e => by cases e; omega)).trans HD5.out)
    clear hw9 hg9
    go_wp2_with (refine Zw HO4.out HP9.out ?_)
    have HDz := Zh HDW.out
    refine ⟨by simp, .inl ⟨_, _, rfl, run_takeDeferred HDz.out, ?_⟩⟩
    refine ⟨_, zly (v := .bool false) rfl w.heap.size rfl (by kernel_rfl) (by kernel_rfl) (J.blok_nc HO9.out (grownBy_putObj' _ D (.deferred none)) (fun r e => by cases e; exact ⟨_, HDz.out, rfl⟩)), ?_⟩
    rw [HE9.out]
    exact ⟨Y.a0, rfl, Zh (J.got0 _ _), HBz.out.trans (belowK_b (w := w) (Nat.le_refl _) w9 D _ _ (by omega) HDz.out rfl rfl)⟩
   have hdc : decide (bs = L) = true := decide_eq_true hbl
   rw [hdc]
   have HE9 : Hid (J.read L = some st) := Zh (J.read_some.2 (by rw [HPN.out, hbl]))
   clear hbl hdc
   have c0 := Zv HR4.out.k 0 (.int .i64 st.d.b)
   have c1 := Zv HR4.out.k 1 (.int .i64 st.d.k)
   have c2 := Zv HR4.out.k 2 (.int .i64 st.d.c)
   have c3 := Zv HR4.out.k 3 (.int .i64 st.d.j)
   have c4 := Zv HR4.out.k 4 (.int .i64 st.d.lo)
   have c5 := Zv HR4.out.k 5 (.int .i64 st.d.hi)
   have c6 := Zv HR4.out.k 6 (.int .i64 st.d.dy)
   have c7 := Zv HR4.out.k 7 (.int .i64 st.d.bl)
   have c8 := Zv HR4.out.k 8 (.int .i64 st.p.q)
   have c9 := Zv HR4.out.k 9 (.int .i64 st.p.i)
   have c10 := Zv HR4.out.k 10 (.int .i64 st.p.h)
   have c11 := Zv HR4.out.k 11 (.bool st.p.pair)
   have c12 := Zv HR4.out.k 12 (.int .i64 st.now)
   have c13 := Zv HR4.out.k 13 (.slice ap np cp)
   have c14 := Zv HR4.out.k 14 (.slice al nl cl)
   have c15 := Zv HR4.out.k 15 (.slice ah nh ch)
   obtain ⟨w9, hw9⟩ : ∃ V, w5.setRow w.heap.size #[.int .i64 st.d.b, .int .i64 st.d.k, .int .i64 st.d.c, .int .i64 st.d.j, .int .i64 st.d.lo, .int .i64 st.d.hi, .int .i64 st.d.dy, .int .i64 st.d.bl, .int .i64 st.p.q, .int .i64 st.p.i, .int .i64 st.p.h, .bool st.p.pair, .int .i64 st.now, .slice ap np cp, .slice al nl cl, .slice ah nh ch] = V := ⟨_, rfl⟩
   have hg9 : w5.grownBy w9 (some w.heap.size) := by rw [<- hw9]; exact zbr _ _ _
   have HP9 := Zh hw9
   have HO9 : Hid (Blok w9 w.heap.size 37 #[.int .i64 st.d.b, .int .i64 st.d.k, .int .i64 st.d.c, .int .i64 st.d.j, .int .i64 st.d.lo, .int .i64 st.d.hi, .int .i64 st.d.dy, .int .i64 st.d.bl, .int .i64 st.p.q, .int .i64 st.p.i, .int .i64 st.p.h, .bool st.p.pair, .int .i64 st.now, .slice ap np cp, .slice al nl cl, .slice ah nh ch]) := Zh (by rw [<- hw9]; exact HO4.out.put _)
   have HBz := Zh (HB5.out.grown hg9 HB5.out.size (fun q hq => by cases hq; exact Nat.le_refl _))
   have HDW : Hid (w9.heap[D]? = some (.deferred (some []))) := Zh ((hg9.block D (Array.getElem?_eq_some_iff.1 HD5.out).1 (fun e => by cases e; omega)).trans HD5.out)
   have HGo := Zh (HR4.out.o.far hg9 (by omega))
   clear hw9 hg9
   go_wp2_with (refine Zw HO4.out HP9.out ?_)
   have HDz := Zh HDW.out
   refine ⟨by simp, .inl ⟨_, _, rfl, run_takeDeferred HDz.out, ?_⟩⟩
   refine ⟨_, zly (v := .bool true) rfl w.heap.size rfl (by kernel_rfl) (by kernel_rfl) (J.blok_nc HO9.out (grownBy_putObj' _ D (.deferred none)) (fun r e => by cases e; exact ⟨_, HDz.out, rfl⟩)), ?_⟩
   rw [HE9.out]
   exact ⟨⟨ap, np, cp, al, nl, cl, ah, nh, ch⟩, rfl, (by
    have g9 := grownBy_putObj' w9 D (.deferred none)
    have hr9 : ∀ r, some D = some r -> ∃ o : Obj, w9.heap[r]? = some o /\ o.isCells = false := fun r e => by cases e; exact ⟨_, HDz.out, rfl⟩
    exact Zh ((J.Got.of ⟨J.own_nc HGo.out.rp g9 hr9, J.own_nc HGo.out.rl g9 hr9, J.own_nc HGo.out.rh g9 hr9, HGo.out.np, HGo.out.nl, HGo.out.nh⟩).down (by omega))), HBz.out.trans (belowK_b (w := w) (Nat.le_refl _) w9 D _ _ (by omega) HDz.out rfl rfl)⟩
end Go.Proofs.YtnbkkjcmblfhpaaGreat
