import Derived.Test.YtonejangijkdmaaGreatWA
import Derived.Lib.QuietBelow
import Derived.Deep.AppendLies
import Derived.Deep.RegionLaw
import Derived.Laws.Bits64b
namespace Go.Proofs.YtonejangijkdmaaGreat
set_option maxHeartbeats 1000000
set_option maxRecDepth 100000
open Go.RowKit
def W.Next (l : List W.Tm) : Prop := ∀ i x y, l[i]? = some x -> l[i + 1]? = some y -> W.lt y x = false
theorem W.asc_next {l : List W.Tm} (h : W.Ids l) : W.Asc l ↔ W.Next l := by
 constructor
 ·intro ha i x y hx hy
  obtain ⟨h1, rfl⟩ := List.getElem?_eq_some_iff.1 hx
  obtain ⟨h2, rfl⟩ := List.getElem?_eq_some_iff.1 hy
  exact W.lt_asymm (ha.next i h2)
 ·intro hn
  refine W.asc_of_next fun i hi => ?_
  refine W.lt_total (fun e => ?_) (hn i _ _ (List.getElem?_eq_getElem (by omega)) (List.getElem?_eq_getElem hi))
  have := List.pairwise_iff_getElem.1 h i (i + 1) (by omega) hi (by omega)
  exact this (by rw [<- e])
theorem W.weak_asc {l : List W.Tm} (h : W.Ids l) (hw : W.Weak l) : W.Asc l := W.asc_of_weak h.nodup hw
theorem W.find_some {l : List W.Tm} {id : Int} : (W.find l id).isSome = W.has l id := by
 unfold W.find W.has
 rw [List.findIdx?_isSome]
theorem W.idx_has {l : List W.Tm} {id : Int} : decide (0 <= W.idx l id) = W.has l id := by
 rw [<- W.find_some]
 unfold W.idx
 cases W.find l id <;> simp
theorem W.ids_snoc {l : List W.Tm} {k : Nat} {x : W.Tm} (hx : l[k]? = some x) (hi : W.Ids (l.take k)) (hn : W.has (l.take k) x.1 = false) : W.Ids (l.take (k + 1)) := by
 obtain ⟨h1, h2⟩ := List.getElem?_eq_some_iff.1 hx
 rw [List.take_succ_eq_append_getElem h1, h2]
 refine List.pairwise_append.2 ⟨hi, List.pairwise_singleton _ _, fun a ha b hb => ?_⟩
 simp only [List.mem_singleton] at hb
 subst hb
 exact W.has_false.1 hn a ha
theorem W.ids_bad {l : List W.Tm} {k : Nat} {x : W.Tm} (hx : l[k]? = some x) (hn : W.has (l.take k) x.1 = true) : ¬ W.Ids l := by
 intro hi
 obtain ⟨t, ht, he⟩ := W.has_iff.1 hn
 obtain ⟨j, hj, rfl⟩ := List.mem_iff_getElem.1 ht
 obtain ⟨h1, h2⟩ := List.getElem?_eq_some_iff.1 hx
 simp at hj
 have := List.pairwise_iff_getElem.1 hi j k (by omega) h1 (by omega)
 rw [List.getElem_take] at he
 rw [h2] at this
 exact this he
theorem W.ok_snoc {l : List W.Tm} {k : Nat} {x : W.Tm} {n : Int} (hx : l[k]? = some x) (h : ∀ t ∈ l.take k, W.ok n t = true) (hk : W.ok n x = true) : ∀ t ∈ l.take (k + 1), W.ok n t = true := by
 obtain ⟨h1, h2⟩ := List.getElem?_eq_some_iff.1 hx
 rw [List.take_succ_eq_append_getElem h1, h2]
 intro t ht
 rcases List.mem_append.1 ht with ht | ht
 ·exact h t ht
 ·simp only [List.mem_singleton] at ht; rw [ht]; exact hk
theorem W.may_no {n : Int} {l : List W.Tm} (h : ¬ W.May n l) : W.may n l = false := decide_eq_false h
theorem zfh (a : Option Addr) (n c : Nat) (l : List W.Tm) (w : World) (h : TIn w a n c l) (hn : n <= 1000) (p : Bool) (hp : p = true ↔ W.Next l) :
  Calls Tryz.prog 195 #[.iface 149 (.slice a n c), .func (.func 196) #[.slice a n c] #[]] w fun e w' => e = .returned (.bool p) /\ Below w.heap.size w w' := by
 have e1 := zew zdu zbz a n c w
 have e3 := fun W hW => zk9 zdu zbz Tryz.underlying149 (by kernel_rfl) ⟨w.heap.size, 0, none⟩ a n c W hW
 have eg : ∀ args w, (callFunc 196 args).run Tryz.prog w = .ok (.enter 196 args) w := Go.Proofs.enters_of Tryz.func196 (by kernel_rfl) rfl
 simp only [typeHandle] at e1 e3
 have HT := Zh h
 have HP := Zh hp
 clear h hp
 go_enter Tryz.func195, Tryz.ntmps195
 go_wp2_with fail
 rw [show Sem.run Tryz.prog (callFunc 216 #[.agg #[.pointer (some ⟨0, 149, none⟩), .pointer (some ⟨w.heap.size, 0, none⟩), .int .u64 151]]) _ = _ from e3 _ (by simp), Oper.upon_value]
 obtain ⟨W2, hW2⟩ : ∃ W2, (w.alloc (.cells #[.slice a n c] 149)).alloc (.cells #[.pointer (some ⟨0, 149, none⟩), .pointer (some ⟨w.heap.size, 0, none⟩), .int .u64 151] 222) = W2 := ⟨_, rfl⟩
 have G2 : Hid (Below w.heap.size w W2) := Zh (by rw [<- hW2]; exact zeu ((World.grownBy_alloc _ _ _).trans (World.grownBy_alloc _ _ _)))
 rw [hW2]
 clear hW2 e1 e3
 go_wp2_with fail
 go_loopw [7] (fun i wr => ∃ k : Nat, i = .int .i64 ((k : Int) - 1) /\ k <= n /\ Hid (∀ i x y, k <= i + 1 -> l[i]? = some x -> l[i + 1]? = some y -> W.lt y x = false) /\ Hid (Below w.heap.size w wr)) (fun i _ => (intOf i + 1).toNat)
 case atStart => exact ⟨n, by go_num, by omega, Zh (fun i x y hi hx hy => by have := (List.getElem?_eq_some_iff.1 hy).1; have := HT.out.1; omega), G2⟩
 case round =>
  obtain ⟨k, rfl, hkn, HA, HB⟩ := hrel
  by_cases hk : 2 <= k
  ·obtain ⟨k, rfl⟩ : ∃ m, k = m + 2 := ⟨k - 2, by omega⟩
   have e1 : ((k + 2 : Nat) : Int) - 1 = ((k + 1 : Nat) : Int) := by omega
   have e2 : ((k + 1 : Nat) : Int) - 1 = (k : Int) := by omega
   rw [e1]
   have d1 : decide ((0 : Int) < ((k + 1 : Nat) : Int)) = true := decide_eq_true (by omega)
   obtain ⟨x, hx⟩ : ∃ x, l[k]? = some x := ⟨_, List.getElem?_eq_getElem (by rw [HT.out.1]; omega)⟩
   obtain ⟨y, hy⟩ : ∃ x, l[k + 1]? = some x := ⟨_, List.getElem?_eq_getElem (by rw [HT.out.1]; omega)⟩
   have HX := Zh hx
   have HY := Zh hy
   obtain ⟨q, hq⟩ : ∃ q, W.lt y x = q := ⟨_, rfl⟩
   have hf := zfe a n c (k + 1) k l wr (HT.out.below HB.out) (by omega) (by omega) y x hy hx q hq
   have HQ := Zh hq
   clear hx hy hq
   obtain ⟨K1, hK1⟩ : ∃ K, k + 1 = K := ⟨_, rfl⟩
   rw [hK1] at e1 e2 d1 hf ⊢
   have HK1 := Zh hK1
   clear hK1 e1
   go_wp2_with fail
   refine hf.mono ?_
   rintro e w3 ⟨rfl, hb3⟩
   have HB3 := Zt HB hb3
   clear hf hb3
   cases q with
   | true =>
    have HE : Hid (p = false) := Zh (by
     rw [<- Bool.not_eq_true, HP.out]
     intro hN
     have := hN k x y HX.out (by rw [HY.out])
     rw [HQ.out] at this; cases this)
    go_wp2
    go_ret
    exact ⟨by rw [HE.out]; rfl, HB3.out⟩
   | false =>
    have HA2 : Hid (∀ i x y, K1 <= i + 1 -> l[i]? = some x -> l[i + 1]? = some y -> W.lt y x = false) := Zh (fun i x' y' hi hx hy => by
     by_cases hik : i = k
     ·subst hik; rw [HX.out] at hx; rw [HY.out] at hy; cases hx; cases hy; exact HQ.out
     ·exact HA.out i x' y' (by have := HK1.out; omega) hx hy)
    go_wp2
    go_roundw
    case rel => exact ⟨K1, by have := HK1.out; go_num, by have := HK1.out; omega, HA2, HB3⟩
    case measure => have := HK1.out; simp [intOf] <;> omega
  ·have d1 : decide ((0 : Int) < (k : Int) - 1) = false := by simp; omega
   have HE : Hid (p = true) := Zh (HP.out.2 (fun i x y hx hy => HA.out i x y (by omega) hx hy))
   go_wp2
   go_ret
   exact ⟨by rw [HE.out]; rfl, HB.out⟩
open Go.RowKit
def tbox (w : World) (x : W.Tm) : World := w.alloc (.cells #[.int .i64 x.1, .int .i64 x.2] 159)
theorem zcc (w : World) (x : W.Tm) : Below w.heap.size w (tbox w x) := (Below.refl _ w).alloc (Nat.le_refl _) _
theorem zct (w : World) (x : W.Tm) : Blok (tbox w x) w.heap.size 159 #[.int .i64 x.1, .int .i64 x.2] := Blok.new _ _ _
theorem Blok.b0 {V : World} {b : Nat} {t : TypeId} {x y : Value} (h : Blok V b t #[x, y]) : V.cell? ⟨b, 0, none⟩ = some x := h.cell 0
theorem Blok.b1 {V : World} {b : Nat} {t : TypeId} {x y : Value} (h : Blok V b t #[x, y]) : V.cell? ⟨b, 1, none⟩ = some y := h.cell 1
theorem Blok.on' {V V' : World} {b : Nat} {t : TypeId} {cs : Array Value} (h : Blok V b t cs) (hb : Below V.heap.size V V') : Blok V' b t cs := h.below hb h.lt
theorem zdv (k : Int) (a : Option Addr) (n c : Nat) (l : List W.Tm) (w : World) (h : TIn w a n c l) (hn : n <= 1000) (p : Bool) (hp : W.may k l = p) :
  Calls Tryz.prog 169 #[.agg #[.int .i64 k, .slice a n c]] w fun e w' => e = .returned (.bool p) /\ Below w.heap.size w w' := by
 have HT := Zh h
 have HP := Zh hp
 have BX := Zh (zdt w k a n c)
 have BB := Zh (zby w k a n c)
 have u0 := BX.out.b0
 have u1 := BX.out.b1
 unfold wbox at u0 u1
 clear h hp
 go_enter Tryz.func169, Tryz.ntmps169
 by_cases hb : 0 <= k /\ k <= 1073741824 /\ n <= 64
 ·obtain ⟨h1, h2, h3⟩ := hb
  have d1 : decide (k < 0) = false := by simp; omega
  have d2 : decide ((1073741824 : Int) < k) = false := by simp; omega
  have d3 : decide ((64 : Int) < (n : Int)) = false := by simp; omega
  go_wp2_with fail
  obtain ⟨W1, hW1⟩ : ∃ W1, w.alloc (.cells #[.int .i64 k, .slice a n c] 151) = W1 := ⟨_, rfl⟩
  have BX1 : Hid (Blok W1 w.heap.size 151 #[.int .i64 k, .slice a n c]) := Zh (by rw [<- hW1]; exact BX.out)
  have BB1 : Hid (Below w.heap.size w W1) := Zh (by rw [<- hW1]; exact BB.out)
  rw [hW1]
  clear hW1 u0 u1 BX BB
  go_loopw [22] (fun i wr => ∃ j : Nat, i = .int .i64 j /\ j <= n /\ Hid (∀ t ∈ l.take j, W.ok k t = true) /\ Hid (W.Ids (l.take j)) /\ Hid (Below W1.heap.size W1 wr)) (fun i _ => n - (intOf i).toNat)
  case atStart => exact ⟨0, by go_num, by omega, Zh (by simp), Zh (by simp [W.Ids]), Zh (Below.refl _ _)⟩
  case round =>
   obtain ⟨j, rfl, hjn, HA, HI, HB⟩ := hrel
   have HBX := Zh (BX1.out.on' HB.out)
   have HBW := Zh (BB1.out.trans (HB.out.mono BB1.out.size))
   by_cases hlt : j < n
   ·have dj : decide ((j : Int) < n) = true := by simp; omega
    obtain ⟨b, off, x, rfl, hbl, hx, p1, p2⟩ := (HT.out.below HBW.out).at hlt
    have HX := Zh hx
    have j0 : (0 : Int) <= j := by omega
    have j1 : (j : Int) < n := by omega
    have j2 : (j : Int) <= n := by omega
    have hcn : n <= c := HT.out.2.1.1
    have j3 : (j : Int) <= c := by omega
    have TB := Zh (zct wr x)
    have TBB := Zh (zcc wr x)
    have HBX2 := Zh (HBX.out.on' TBB.out)
    have HBW2 := Zh (HBW.out.trans (TBB.out.mono HBW.out.size))
    have HB2 := Zh (HB.out.trans (TBB.out.mono HB.out.size))
    clear hx
    go_wp2_with fail
    obtain ⟨W2, hW2⟩ : ∃ W2, wr.alloc (.cells #[.int .i64 x.1, .int .i64 x.2] 159) = W2 := ⟨_, rfl⟩
    have TB3 : Hid (Blok W2 wr.heap.size 159 #[.int .i64 x.1, .int .i64 x.2]) := Zh (by rw [<- hW2]; exact TB.out)
    have HBX3 : Hid (Blok W2 w.heap.size 151 #[.int .i64 k, .slice (some ⟨b, off, none⟩) n c]) := Zh (by rw [<- hW2]; exact HBX2.out)
    have HBW3 : Hid (Below w.heap.size w W2) := Zh (by rw [<- hW2]; exact HBW2.out)
    have HB3 : Hid (Below W1.heap.size W1 W2) := Zh (by rw [<- hW2]; exact HB2.out)
    rw [hW2]
    clear hW2 TB TBB HBX2 HBW2 HB2 p1 p2
    have t0 := TB3.out.b0
    have t1 := TB3.out.b1
    have v0 := HBX3.out.b0
    have v1 := HBX3.out.b1
    have ct0 := fun d os => cell_regrown t0 d os
    have ct1 := fun d os => cell_regrown t1 d os
    have cv0 := fun d os => cell_regrown v0 d os
    have cv1 := fun d os => cell_regrown v1 d os
    obtain ⟨q1, hq1⟩ : ∃ q, decide (x.1 < 0) = q := ⟨_, rfl⟩
    obtain ⟨q2, hq2⟩ : ∃ q, decide (k < x.2 /\ x.2 <= 1073741824) = q := ⟨_, rfl⟩
    obtain ⟨r, hr⟩ : ∃ r, W.idx (l.take j) x.1 = r := ⟨_, rfl⟩
    obtain ⟨q3, hq3⟩ : ∃ q, decide (0 <= r) = q := ⟨_, rfl⟩
    have c1 := fun V => zfg k x.2 (some ⟨b, off, none⟩) n c V q2 hq2
    have c2 := fun d os => zev (some ⟨b, off, none⟩) j c x.1 (l.take j) (Go.Sort.grow (redrawn W2 d) os) (((HT.out.take j hjn).below HBW3.out).below (below_regrown W2 d os)) (by omega)
    rw [hr] at c2
    have HQ : Hid (W.ok k x = (!q1 && q2) /\ W.has (l.take j) x.1 = q3) := Zh ⟨by rw [<- hq1, <- hq2]; unfold W.ok; rw [Bool.eq_iff_iff]; simp, by rw [<- hq3, <- hr, W.idx_has]⟩
    clear hr
    have NO : Hid ((!q1 && q2) = false \/ q3 = true -> p = false) := Zh (fun h => by
     rw [<- HP.out]
     refine W.may_no fun hm => ?_
     rcases h with h | h
     ·have := hm.2.2.2.1 x (List.mem_of_getElem? HX.out)
      rw [HQ.out.1, h] at this; cases this
     ·exact W.ids_bad HX.out (by rw [HQ.out.2]; exact h) hm.2.2.2.2.2)
    cases q1 with
    | true =>
     go_wp2_with fail
     refine wp_region_quiet_below (by kernel_rfl) (by kernel_rfl) ?_
     repeat (go_big_quiet_step (first | with_reducible exact Calls.regrown_of (c1 _) | with_reducible exact Calls.regrown_of (c2 _ _)))
     refine wpQuiet_nil ?_
     intro _ hw'
     obtain ⟨⟨dq, osq⟩, hw''⟩ := hw'
     subst hw''
     clear ct0 ct1 cv0 cv1 t0 t1 v0 v1 c1 c2
     obtain ⟨W4, hW4⟩ : ∃ W4, Go.Sort.grow (redrawn W2 dq) osq = W4 := ⟨_, rfl⟩
     have hb4 : Below W2.heap.size W2 W4 := by rw [<- hW4]; exact below_regrown _ _ _
     rw [hW4]
     clear hW4
     have HB4 := Zt HB3 hb4
     have HBW4 := Zt HBW3 hb4
     clear hb4
     have HE := Zh (NO.out (by simp))
     go_wp2
     go_ret
     exact ⟨by rw [HE.out]; rfl, HBW4.out⟩
    | false =>
     cases q2 with
     | false =>
      go_wp2_with fail
      refine wp_region_quiet_below (by kernel_rfl) (by kernel_rfl) ?_
      repeat (go_big_quiet_step (first | with_reducible exact Calls.regrown_of (c1 _) | with_reducible exact Calls.regrown_of (c2 _ _)))
      refine wpQuiet_nil ?_
      intro _ hw'
      obtain ⟨⟨dq, osq⟩, hw''⟩ := hw'
      subst hw''
      clear ct0 ct1 cv0 cv1 t0 t1 v0 v1 c1 c2
      obtain ⟨W4, hW4⟩ : ∃ W4, Go.Sort.grow (redrawn W2 dq) osq = W4 := ⟨_, rfl⟩
      have hb4 : Below W2.heap.size W2 W4 := by rw [<- hW4]; exact below_regrown _ _ _
      rw [hW4]
      clear hW4
      have HB4 := Zt HB3 hb4
      have HBW4 := Zt HBW3 hb4
      clear hb4
      have HE := Zh (NO.out (by simp))
      go_wp2
      go_ret
      exact ⟨by rw [HE.out]; rfl, HBW4.out⟩
     | true =>
      cases q3 with
      | true =>
       go_wp2_with fail
       refine wp_region_quiet_below (by kernel_rfl) (by kernel_rfl) ?_
       repeat (go_big_quiet_step (first | with_reducible exact Calls.regrown_of (c1 _) | with_reducible exact Calls.regrown_of (c2 _ _)))
       refine wpQuiet_nil ?_
       intro _ hw'
       obtain ⟨⟨dq, osq⟩, hw''⟩ := hw'
       subst hw''
       clear ct0 ct1 cv0 cv1 t0 t1 v0 v1 c1 c2
       obtain ⟨W4, hW4⟩ : ∃ W4, Go.Sort.grow (redrawn W2 dq) osq = W4 := ⟨_, rfl⟩
       have hb4 : Below W2.heap.size W2 W4 := by rw [<- hW4]; exact below_regrown _ _ _
       rw [hW4]
       clear hW4
       have HB4 := Zt HB3 hb4
       have HBW4 := Zt HBW3 hb4
       clear hb4
       have HE := Zh (NO.out (by simp))
       go_wp2
       go_ret
       exact ⟨by rw [HE.out]; rfl, HBW4.out⟩
      | false =>
       go_wp2_with fail
       refine wp_region_quiet_below (by kernel_rfl) (by kernel_rfl) ?_
       repeat (go_big_quiet_step (first | with_reducible exact Calls.regrown_of (c1 _) | with_reducible exact Calls.regrown_of (c2 _ _)))
       refine wpQuiet_nil ?_
       intro _ hw'
       obtain ⟨⟨dq, osq⟩, hw''⟩ := hw'
       subst hw''
       clear ct0 ct1 cv0 cv1 t0 t1 v0 v1 c1 c2
       obtain ⟨W4, hW4⟩ : ∃ W4, Go.Sort.grow (redrawn W2 dq) osq = W4 := ⟨_, rfl⟩
       have hb4 : Below W2.heap.size W2 W4 := by rw [<- hW4]; exact below_regrown _ _ _
       rw [hW4]
       clear hW4
       have HB4 := Zt HB3 hb4
       have HBW4 := Zt HBW3 hb4
       clear hb4
       have HA2 := Zh (W.ok_snoc HX.out HA.out (by rw [HQ.out.1]; rfl))
       have HI2 := Zh (W.ids_snoc HX.out HI.out HQ.out.2)
       go_wp2
       go_roundw
       case rel => exact ⟨j + 1, by go_num, by omega, HA2, HI2, HB4⟩
       case measure => simp [intOf] <;> omega
   ·have dj : decide ((j : Int) < n) = false := by simp; omega
    obtain rfl : j = n := by omega
    have hlt2 : l.take j = l := List.take_of_length_le (by rw [HT.out.1]; exact Nat.le_refl _)
    rw [hlt2] at HA HI
    have HN : Hid (p = true ↔ W.Next l) := Zh (by
     rw [<- HP.out, W.may_iff, <- W.asc_next HI.out]
     exact ⟨fun hm => hm.2.2.2.2.1, fun ha => ⟨h1, h2, by rw [HT.out.1]; exact h3, HA.out, ha, HI.out⟩⟩)
    have hs := zfh a j c l wr (HT.out.below HBW.out) hn p HN.out
    have v0 := HBX.out.b0
    have v1 := HBX.out.b1
    go_wp2_with fail
    refine hs.mono ?_
    rintro e w3 ⟨rfl, hb3⟩
    go_wp2
    go_ret
    exact ⟨rfl, HBW.out.trans (hb3.mono HBW.out.size)⟩
 ·have HE : Hid (p = false) := Zh (by
   rw [<- HP.out]
   exact W.may_no fun hm => hb ⟨hm.1, hm.2.1, by rw [<- HT.out.1]; exact hm.2.2.1⟩)
  by_cases h1 : k < 0
  ·have d1 : decide (k < 0) = true := by simpa using h1
   go_wp2
   go_ret
   exact ⟨by rw [HE.out]; rfl, BB.out⟩
  ·have d1 : decide (k < 0) = false := by simpa using h1
   by_cases h2 : 1073741824 < k
   ·have d2 : decide ((1073741824 : Int) < k) = true := by simpa using h2
    go_wp2
    go_ret
    exact ⟨by rw [HE.out]; rfl, BB.out⟩
   ·have d2 : decide ((1073741824 : Int) < k) = false := by simpa using h2
    have d3 : decide ((64 : Int) < (n : Int)) = true := by simp; omega
    go_wp2
    go_ret
    exact ⟨by rw [HE.out]; rfl, BB.out⟩
open Go.RowKit
theorem zdw : ∃ i, Tryz.prog.info? 159 = some i /\ i.zero = some (.agg #[.int .i64 0, .int .i64 0]) /\ i.size = 2 /\ i.bytes = 16 := info_parts zhh
theorem cell_one {w : World} {nb : Nat} {t : TypeId} {x : W.Tm} (hb : Blok w nb t #[.int .i64 x.1, .int .i64 x.2]) (j : Nat) (u : Value) (hj : (W.cells x)[j]? = some u) : w.cell? ((⟨nb, 0, none⟩ : Addr).add j) = some u := by
 rw [WideShapes.add_plain, hb.cell, Nat.zero_add]
 simpa [W.cells] using hj
theorem zfi {w : World} {ops : Array Oper} {o : Oper} {a : Act} {K : Act -> World -> Prop} {Q : Exit -> Act -> World -> Prop} {E : Prop} (hgd : o.guard = none) (s x : Operand) (t : TypeId)
  (ho : o.op = .call { callee := .builtin .append, args := #[s, x], argTypes := #[t, t] }) (ht : Tryz.prog.underlying t = some (.slice 159))
  (B : Nat) (v : Value) (p : Nat) (l : List W.Tm) (tm : W.Tm) (hs : a.eval s = v) (hown : w.ownsRow B 159 2 v p (W.flat l)) (nb : Nat) (t' : TypeId) (hx : a.eval x = .slice (some ⟨nb, 0, none⟩) 1 1) (hb : Blok w nb t' #[.int .i64 tm.1, .int .i64 tm.2]) (hp : p <= 10000) (hB : B <= w.heap.size)
  (h : ∀ g cap w', w'.ownsRow B 159 2 (.slice (some ⟨g, 0, none⟩) (p + 1) cap) (p + 1) (W.flat (l ++ [tm])) -> w.grownBy w' v.ownBlock -> (v.ownBlock = some g \/ g = w.heap.size) -> g < w'.heap.size -> K (a.put o.dst (.slice (some ⟨g, 0, none⟩) (p + 1) cap)) w') :
  if Region.wanted o (yielded ops a.tmps) = true then Oper.wp Tryz.prog o a w K Q else E := by
 obtain ⟨i0, hi, hz0, hz1, hz2⟩ := zdw
 exact step_append_lies w hgd s x t ho B 159 i0 _ 2 16 ht hi hz0 hz1 hz2 rfl (by decide) v p (W.flat l) hs hown ⟨nb, 0, none⟩ 1 1 (W.cells tm) hx rfl (cell_one hb) (by intro u hu; simp [W.cells] at hu; rcases hu with rfl | rfl <;> rfl) (by decide) (by unfold maxLen; omega) (by omega) hB w.heap.size rfl
  (fun g cap w' h1 h2 h3 h4 => h g cap w' (by rw [W.flat_append]; exact h1) h2 h3 h4)
theorem zee {w : World} {ops : Array Oper} {rest : List Oper} {o : Oper} {a : Act} {Q : Exit -> Act -> World -> Prop} (hgd : o.guard = none) (s x : Operand) (t : TypeId)
  (ho : o.op = .call { callee := .builtin .append, args := #[s, x], argTypes := #[t, t] }) (ht : Tryz.prog.underlying t = some (.slice 159))
  (B : Nat) (v : Value) (p : Nat) (l : List W.Tm) (tm : W.Tm) (hs : a.eval s = v) (hown : w.ownsRow B 159 2 v p (W.flat l)) (nb : Nat) (t' : TypeId) (hx : a.eval x = .slice (some ⟨nb, 0, none⟩) 1 1) (hb : Blok w nb t' #[.int .i64 tm.1, .int .i64 tm.2]) (hp : p <= 10000) (hB : B <= w.heap.size)
  (h : ∀ g cap w', w'.ownsRow B 159 2 (.slice (some ⟨g, 0, none⟩) (p + 1) cap) (p + 1) (W.flat (l ++ [tm])) -> w.grownBy w' v.ownBlock -> (v.ownBlock = some g \/ g = w.heap.size) -> g < w'.heap.size -> wpList Tryz.prog ops Q rest (a.put o.dst (.slice (some ⟨g, 0, none⟩) (p + 1) cap)) w') :
  wpList Tryz.prog ops Q (o :: rest) a w := by
 obtain ⟨i0, hi, hz0, hz1, hz2⟩ := zdw
 exact wpList_append_lies w hgd s x t ho B 159 i0 _ 2 16 ht hi hz0 hz1 hz2 rfl (by decide) v p (W.flat l) hs hown ⟨nb, 0, none⟩ 1 1 (W.cells tm) hx rfl (cell_one hb) (by intro u hu; simp [W.cells] at hu; rcases hu with rfl | rfl <;> rfl) (by decide) (by unfold maxLen; omega) (by omega) hB w.heap.size rfl
  (fun g cap w' h1 h2 h3 h4 => h g cap w' (by rw [W.flat_append]; exact h1) h2 h3 h4)
theorem zks {w : World} {g B : Nat} (h : Blok w g 159 #[]) (hB : B <= g) : w.ownsRow B 159 2 (.slice (some ⟨g, 0, none⟩) 0 0) 0 [] :=
 ⟨rfl, .inr ⟨g, 0, #[], rfl, hB, h, Nat.le_refl _, by simp [maxLen], rfl, rfl⟩⟩
theorem zdx {w : World} {ops : Array Oper} {rest : List Oper} {o : Oper} {a : Act} {Q : Exit -> Act -> World -> Prop} (hgd : o.guard = none) (s x : Operand)
  (ho : o.op = .call { callee := .builtin .append, args := #[s, x], argTypes := #[149, 149] })
  (B : Nat) (v : Value) (n : Nat) (l : List W.Tm) (hs : a.eval s = v) (hown : w.ownsRow B 159 2 v n (W.flat l))
  (ad : Option Addr) (m c : Nat) (k : List W.Tm) (hx : a.eval x = .slice ad m c) (hd : TIn w ad m c k) (h63 : n + m <= 1000000) (hB : B <= w.heap.size)
  (h : ∀ v' w', w'.ownsRow B 159 2 v' (n + m) (W.flat (l ++ k)) -> w.grownBy w' v.ownBlock -> wpList Tryz.prog ops Q rest (a.put o.dst v') w') : wpList Tryz.prog ops Q (o :: rest) a w := by
 obtain ⟨i0, hi, hz0, hz1, hz2⟩ := zdw
 cases ad with
 | none =>
  obtain ⟨rfl, rfl⟩ := hd.2.2.1 rfl
  obtain rfl : k = [] := List.eq_nil_of_length_eq_zero hd.1
  exact wpList_append_own_none hgd s x 149 ho B 159 i0 2 Tryz.underlying149 hi v n (W.flat l) hs hown hx (h v w (by simpa using hown) ⟨rfl, rfl, rfl, Nat.le_refl _, fun _ _ _ => rfl⟩)
 | some ad =>
  refine wpList_append_own w hgd s x 149 ho B 159 i0 _ 2 16 Tryz.underlying149 hi hz0 hz1 hz2 rfl (by decide) v n (W.flat l) hs hown ad m c (W.flat k) hx (by rw [W.flat_len, hd.1]) (fun j u hj => ?_) (W.flat_one k) (by unfold maxLen; omega) (by omega) hB (fun v' w' h1 h2 _ => h v' w' (by rw [W.flat_append]; exact h1) h2)
  obtain ⟨i, y, hy, hju⟩ := W.flat_some hj
  rcases hd.2.2.2 with rfl | ⟨b, off, he, _, hc⟩
  ·simp at hy
  ·cases he
   rw [WideShapes.add_plain]
   obtain ⟨h1, h2⟩ := hc i y hy
   rcases hju with ⟨rfl, rfl⟩ | ⟨rfl, rfl⟩
   ·exact h1
   ·rw [<- Nat.add_assoc]; exact h2
theorem zhk (a : Option Addr) (n c : Nat) (l : List W.Tm) (w : World) (hn : n <= 1000) (hd : TIn w a n c l) :
  Calls Tryz.prog 197 #[.slice a n c] w fun e w' => ∃ v, e = .returned v /\ Hid (w'.ownsRow w.heap.size 159 2 v n (W.flat l)) /\ Below w.heap.size w w' := by
 have HD := Zh hd
 cases a with
 | none =>
  obtain ⟨rfl, rfl⟩ := hd.2.2.1 rfl
  obtain rfl : l = [] := List.eq_nil_of_length_eq_zero hd.1
  clear hd
  have he : ∀ w : World, (binOp .eql 149 (.slice none 0 0) (.slice none 0 0)).run Tryz.prog w = .ok (.bool true) w := fun _ => by kernel_rfl
  go_enter Tryz.func197, Tryz.ntmps197
  go_wp2
  go_ret
  exact ⟨_, rfl, Zh (World.ownsRow_nil _ _ _ _), Below.refl _ _⟩
 | some x =>
  clear hd
  have he : ∀ w : World, (binOp .eql 149 (.slice (some x) n c) (.slice none 0 0)).run Tryz.prog w = .ok (.bool false) w := fun _ => by kernel_rfl
  go_enter Tryz.func197, Tryz.ntmps197
  go_wp2_with (at_builtin; refine zdx rfl _ _ rfl w.heap.size _ 0 [] rfl (zks (Blok.new w 159 #[]) (Nat.le_refl _)) (some x) n c l rfl (HD.out.below ((Below.refl _ w).alloc (Nat.le_refl _) _)) (by omega) (by simp) ?_; intro v' w2 hown' hgrow)
  go_ret
  rw [Nat.zero_add] at hown'
  exact ⟨v', rfl, Zh (by simpa using hown'), ((Below.refl _ w).alloc (Nat.le_refl _) _).grown hgrow (by simp) (fun k ek => by cases ek; exact Nat.le_refl _)⟩
open Go.RowKit
def zba (B : Nat) (l : List W.Tm) (vs : Array Value) (V : World) : Prop :=
 vs.size = 16 /\ (∀ k : Nat, k < 16 -> V.ownsRow B 159 2 vs[k]! (W.slot (k : Int) l).length (W.flat (W.slot (k : Int) l))) /\
 ∀ i j : Nat, i < 16 -> j < 16 -> i ≠ j -> ∀ g, vs[i]!.ownBlock = some g -> vs[j]!.ownBlock ≠ some g
theorem zmk (m : Nat) (h : m < 4294967296) : bits .and .i64 (m : Int) 15 = ((m % 16 : Nat) : Int) := by
 have h1 : bits .and .i64 (m : Int) ((15 : Nat) : Int) = ((m &&& 15 : Nat) : Int) := (bits_nat .i64 63 (by decide) (fun n h0 h1 => by rw [IntKind.wrap_i64]; omega) m 15 (by omega) (by omega)).1
 rw [show (15 : Int) = ((15 : Nat) : Int) from rfl, h1, show (15 : Nat) = 2 ^ 4 - 1 from rfl, Nat.and_two_pow_sub_one_eq_mod]
theorem zba.on {B : Nat} {l : List W.Tm} {vs : Array Value} {V V' : World} (h : zba B l vs V) (hb : Below V.heap.size V V') : zba B l vs V' := ⟨h.1, fun k hk => zab (h.2.1 k hk) hb, h.2.2⟩
theorem zaz {V : World} {B n : Nat} {v : Value} {l : List Value} (h : V.ownsRow B 159 2 v n l) {g : Nat} (hg : v.ownBlock = some g) : B <= g /\ g < V.heap.size := h.lt g hg
theorem zdy {V : World} {B n g b : Nat} {v : Value} {l : List Value} {t : TypeId} {cs : Array Value} (h : V.ownsRow B 159 2 v n l) (hb : Blok V b t cs) (ht : t ≠ 159) (hg : v.ownBlock = some g) : b ≠ g := by
 rintro rfl
 rcases h.2 with ⟨rfl, _⟩ | ⟨g', cap', cur, rfl, _, hg', _⟩
 ·simp [Value.ownBlock] at hg
 ·simp only [Value.ownBlock, Option.some.injEq] at hg
  subst hg
  have := (show V.heap[g']? = _ from hb).symm.trans hg'
  simp at this
  exact ht this.2
def zla (rb : Nat) (V V' : World) : Prop := ∀ b t cs, Blok V b t cs -> t ≠ 159 -> b ≠ rb -> Blok V' b t cs
theorem zba.put {B g cap k : Nat} {l : List W.Tm} {x : W.Tm} {vs : Array Value} {V V' : World} (h : zba B l vs V) (hk : k < 16) (hx : x.2 % 16 = (k : Int))
  (hrow : V'.ownsRow B 159 2 (.slice (some ⟨g, 0, none⟩) ((W.slot (k : Int) l).length + 1) cap) ((W.slot (k : Int) l).length + 1) (W.flat (W.slot (k : Int) l ++ [x]))) (hg : V.grownBy V' vs[k]!.ownBlock) (hgg : vs[k]!.ownBlock = some g \/ V.heap.size <= g) :
  zba B (l ++ [x]) (vs.setIfInBounds k (.slice (some ⟨g, 0, none⟩) ((W.slot (k : Int) l).length + 1) cap)) V' := by
 have hsz := h.1
 have hget : ∀ j : Nat, j < 16 -> (vs.setIfInBounds k (.slice (some ⟨g, 0, none⟩) ((W.slot (k : Int) l).length + 1) cap))[j]! = if j = k then .slice (some ⟨g, 0, none⟩) ((W.slot (k : Int) l).length + 1) cap else vs[j]! := fun j hj => by
  rw [getElem!_pos _ j (by simp; omega), Array.getElem_setIfInBounds]
  by_cases hjk : j = k
  ·simp [hjk]
  ·rw [if_neg (Ne.symm hjk), if_neg hjk, getElem!_pos vs j (by omega)]
 refine ⟨by simp [hsz], fun j hj => ?_, fun i j hi hj hij g' => ?_⟩
 ·rw [hget j hj, W.slot_snoc]
  by_cases hjk : j = k
  ·subst hjk
   rw [if_pos rfl, if_pos hx]
   simpa using hrow
  ·rw [if_neg hjk, if_neg (by omega)]
   exact (h.2.1 j hj).kept hg (by
    cases hv : vs[j]!.ownBlock with
    | none => exact .inl rfl
    | some g' => exact .inr (fun e => h.2.2 j k hj hk hjk g' hv e.symm))
 ·rw [hget i hi, hget j hj]
  have hlt : ∀ m : Nat, m < 16 -> ∀ b, vs[m]!.ownBlock = some b -> b < V.heap.size := fun m hm b hb => (zaz (h.2.1 m hm) hb).2
  by_cases hik : i = k
  ·subst hik
   rw [if_pos rfl, if_neg (Ne.symm hij)]
   intro e e2
   simp only [Value.ownBlock, Option.some.injEq] at e
   subst e
   rcases hgg with h1 | h1
   ·exact h.2.2 i j hk hj hij _ h1 e2
   ·have := hlt j hj _ e2
    omega
  ·rw [if_neg hik]
   by_cases hjk : j = k
   ·subst hjk
    rw [if_pos rfl]
    intro e e2
    simp only [Value.ownBlock, Option.some.injEq] at e2
    subst e2
    rcases hgg with h1 | h1
    ·exact h.2.2 i j hi hk hij _ e h1
    ·have := hlt i hi _ e
     omega
   ·rw [if_neg hjk]
    exact h.2.2 i j hi hj hij g'
theorem ze2 (V : World) (o : Obj) : Below V.heap.size V (V.drew.alloc o) := (zaa V).alloc (Nat.le_refl _) o
theorem zfj (B rb : Nat) (l : List W.Tm) (x : W.Tm) (vs : Array Value) (w : World) (hr : Blok w rb 176 vs) (h : zba B l vs w) (hB : B <= w.heap.size) (hrb : B <= rb) (hx : 0 <= x.2 /\ x.2 <= 1073741824) (hl : l.length <= 1000) :
  Calls Tryz.prog 174 #[.pointer (some ⟨rb, 0, none⟩), .agg #[.int .i64 x.1, .int .i64 x.2]] w fun e w' => e = .returned (.tuple #[]) /\ ∃ vs', Hid (Blok w' rb 176 vs') /\ Hid (zba B (l ++ [x]) vs' w') /\ Hid (zla rb w w') /\ Hid (Below B w w') := by
 obtain ⟨k, hk⟩ : ∃ k : Nat, (k : Int) = x.2 % 16 := ⟨(x.2 % 16).toNat, by omega⟩
 have hk16 : k < 16 := by omega
 have hand : bits .and .i64 x.2 15 = (k : Int) := by
  obtain ⟨m, hm⟩ : ∃ m : Nat, x.2 = m := ⟨x.2.toNat, by omega⟩
  rw [hm] at hk ⊢
  rw [zmk m (by omega)]; omega
 have HK := Zh hk
 obtain ⟨v, hv⟩ : ∃ v, vs[k]! = v := ⟨_, rfl⟩
 have hvk : vs[k]? = some v := by rw [<- hv, getElem!_pos vs k (by rw [h.1]; exact hk16)]; simp
 have TB := Zh (zcc w x)
 have TK := Zh (zct w x)
 have HR := Zh (hr.on' TB.out)
 have HRow := Zh (h.on TB.out)
 clear hk
 go_enter Tryz.func174, Tryz.ntmps174
 have b0 := TK.out.b0
 have b1 := TK.out.b1
 unfold tbox at b0 b1
 go_wp2_with fail
 obtain ⟨V, hV⟩ : ∃ V, w.alloc (.cells #[.int .i64 x.1, .int .i64 x.2] 159) = V := ⟨_, rfl⟩
 rw [hV] at b0 b1 ⊢
 have HR2 : Hid (Blok V rb 176 vs) := Zh (by rw [<- hV]; exact HR.out)
 have HW2 : Hid (zba B l vs V) := Zh (by rw [<- hV]; exact HRow.out)
 have HV : Hid (Below w.heap.size w V) := Zh (by rw [<- hV]; exact TB.out)
 have hBV : B <= V.heap.size := Nat.le_trans hB HV.out.size
 clear hV HR HRow TB TK hr h
 have r0 : V.cell? ⟨rb, k, none⟩ = some v := by rw [HR2.out.cell]; exact hvk
 have r1 : ∀ o, (V.alloc o).cell? ⟨rb, k, none⟩ = some v := fun o => by rw [(HR2.out.alloc o).cell]; exact hvk
 have r2 : ∀ o, (V.drew.alloc o).cell? ⟨rb, k, none⟩ = some v := fun o => by rw [(HR2.out.drew.alloc o).cell]; exact hvk
 have k0 : (0 : Int) <= (k : Int) := by omega
 have k1 : (k : Int) < 16 := by omega
 have hrow := HW2.out.2.1 k hk16
 rw [hv] at hrow
 have HRO := Zh hrow
 clear hrow
 have hll : (W.slot (k : Int) l).length <= 1000 := Nat.le_trans (List.length_filter_le _ _) hl
 go_region_law (refine zfi rfl (.tmp 14) (.tmp 16) 149 rfl Tryz.underlying149 B v _ (W.slot (k : Int) l) x (by simp [Act.eval]) (zab HRO.out (ze2 _ _)) V.heap.size 159 (by simp [Act.eval]) (Blok.new V.drew _ _) (Nat.le_trans hll (by decide)) (Nat.le_trans hBV (by simp)) ?_; intro g cap w3 h1 h2 h3 h4; have HR3 := Zh ((HR2.out.on' (ze2 V _)).grown h2 (fun e => zdy HRO.out HR2.out (by decide) e.symm rfl)); have r3 : w3.cell? ⟨rb, k, none⟩ = some v := (by rw [HR3.out.cell]; exact hvk); have f3 := HR3.out.frozen k)
 all_goals (
  have G3 : Hid (V.grownBy w3 v.ownBlock) := Zh ((zac (below_none (ze2 V _))).trans h2)
  have H1 := Zh h1
  have H3 : Hid (v.ownBlock = some g \/ V.heap.size <= g) := Zh (h3.imp id (fun e => by rw [e]; show V.heap.size <= (V.alloc _).heap.size; simp))
  clear h1 h2 h3 h4 r3 f3 r0 r1 r2 b0 b1
  obtain ⟨W4, hW4⟩ : ∃ W4, w3.setCell ⟨rb, k, none⟩ (.slice (some ⟨g, 0, none⟩) ((W.slot (k : Int) l).length + 1) cap) = W4 := ⟨_, rfl⟩
  have HG4 : Hid (w3.grownBy W4 (some rb)) := Zh (by rw [<- hW4]; exact zae _ _ _ _)
  have HR4 : Hid (Blok W4 rb 176 (vs.setIfInBounds k (.slice (some ⟨g, 0, none⟩) ((W.slot (k : Int) l).length + 1) cap))) := Zh (by rw [<- hW4]; exact HR3.out.set k _)
  have hgr : g ≠ rb := fun e => zdy H1.out HR3.out (by decide) (show _ = some g from rfl) e.symm
  have hrows := HW2.out.put hk16 HK.out.symm H1.out (by rw [hv]; exact G3.out) (by rw [hv]; exact H3.out)
  have hrows4 : zba B (l ++ [x]) (vs.setIfInBounds k (.slice (some ⟨g, 0, none⟩) ((W.slot (k : Int) l).length + 1) cap)) W4 := ⟨hrows.1, fun j hj => (hrows.2.1 j hj).kept HG4.out (by
   cases hv : (vs.setIfInBounds k (.slice (some ⟨g, 0, none⟩) ((W.slot (k : Int) l).length + 1) cap))[j]!.ownBlock with
   | none => exact .inl rfl
   | some g' => exact .inr (fun e => zdy (hrows.2.1 j hj) HR3.out (by decide) hv (Option.some.inj e).symm)), hrows.2.2⟩
  have HRows4 := Zh hrows4
  clear hrows hrows4
  have HO : Hid (zla rb w W4) := Zh (fun b t cs hb ht hne =>
   ((hb.on' HV.out).grown G3.out (fun e => zdy HRO.out (hb.on' HV.out) ht e.symm rfl)).grown HG4.out (by simpa using hne))
  have HB4 : Hid (Below B w W4) := Zh (((HV.out.mono hB).grown G3.out hBV (fun j hj => (zaz HRO.out hj).1)).grown HG4.out (Nat.le_trans hBV G3.out.size) (fun j hj => by cases hj; exact hrb))
  rw [hW4]
  clear hW4
  go_wp2
  go_end0
  exact ⟨rfl, _, HR4, HRows4, HO, HB4⟩)
open Go.RowKit
abbrev zring : Array Value := #[.slice none 0 0, .slice none 0 0, .slice none 0 0, .slice none 0 0, .slice none 0 0, .slice none 0 0, .slice none 0 0, .slice none 0 0, .slice none 0 0, .slice none 0 0, .slice none 0 0, .slice none 0 0, .slice none 0 0, .slice none 0 0, .slice none 0 0, .slice none 0 0]
theorem zfk {vs : Array Value} (h : vs.size = 16) : ∃ v0 v1 v2 v3 v4 v5 v6 v7 v8 v9 v10 v11 v12 v13 v14 v15 : Value, vs = #[v0, v1, v2, v3, v4, v5, v6, v7, v8, v9, v10, v11, v12, v13, v14, v15] := by
 obtain ⟨l⟩ := vs
 simp only [List.size_toArray] at h
 match l, h with
 | [v0, v1, v2, v3, v4, v5, v6, v7, v8, v9, v10, v11, v12, v13, v14, v15], _ => exact ⟨v0, v1, v2, v3, v4, v5, v6, v7, v8, v9, v10, v11, v12, v13, v14, v15, rfl⟩
theorem zao {V : World} {B n : Nat} {v : Value} {xs : List Value} (h : V.ownsRow B 159 2 v n xs) : ∃ a c, v = .slice a n c := by
 rcases h.2 with ⟨rfl, rfl⟩ | ⟨g, cap, cur, rfl, _⟩
 ·exact ⟨_, _, rfl⟩
 ·exact ⟨_, _, rfl⟩
theorem zba.letters {B : Nat} {l : List W.Tm} {vs : Array Value} {V : World} (h : zba B l vs V) : ∃ (a0 : Option Addr) (n0 c0 : Nat) (a1 : Option Addr) (n1 c1 : Nat) (a2 : Option Addr) (n2 c2 : Nat) (a3 : Option Addr) (n3 c3 : Nat) (a4 : Option Addr) (n4 c4 : Nat) (a5 : Option Addr) (n5 c5 : Nat) (a6 : Option Addr) (n6 c6 : Nat) (a7 : Option Addr) (n7 c7 : Nat) (a8 : Option Addr) (n8 c8 : Nat) (a9 : Option Addr) (n9 c9 : Nat) (a10 : Option Addr) (n10 c10 : Nat) (a11 : Option Addr) (n11 c11 : Nat) (a12 : Option Addr) (n12 c12 : Nat) (a13 : Option Addr) (n13 c13 : Nat) (a14 : Option Addr) (n14 c14 : Nat) (a15 : Option Addr) (n15 c15 : Nat), vs = #[.slice a0 n0 c0, .slice a1 n1 c1, .slice a2 n2 c2, .slice a3 n3 c3, .slice a4 n4 c4, .slice a5 n5 c5, .slice a6 n6 c6, .slice a7 n7 c7, .slice a8 n8 c8, .slice a9 n9 c9, .slice a10 n10 c10, .slice a11 n11 c11, .slice a12 n12 c12, .slice a13 n13 c13, .slice a14 n14 c14, .slice a15 n15 c15] := by
 obtain ⟨v0, v1, v2, v3, v4, v5, v6, v7, v8, v9, v10, v11, v12, v13, v14, v15, rfl⟩ := zfk h.1
 obtain ⟨a0, c0, h0⟩ := zao (h.2.1 0 (by decide))
 obtain rfl := (show v0 = _ from h0)
 obtain ⟨a1, c1, h1⟩ := zao (h.2.1 1 (by decide))
 obtain rfl := (show v1 = _ from h1)
 obtain ⟨a2, c2, h2⟩ := zao (h.2.1 2 (by decide))
 obtain rfl := (show v2 = _ from h2)
 obtain ⟨a3, c3, h3⟩ := zao (h.2.1 3 (by decide))
 obtain rfl := (show v3 = _ from h3)
 obtain ⟨a4, c4, h4⟩ := zao (h.2.1 4 (by decide))
 obtain rfl := (show v4 = _ from h4)
 obtain ⟨a5, c5, h5⟩ := zao (h.2.1 5 (by decide))
 obtain rfl := (show v5 = _ from h5)
 obtain ⟨a6, c6, h6⟩ := zao (h.2.1 6 (by decide))
 obtain rfl := (show v6 = _ from h6)
 obtain ⟨a7, c7, h7⟩ := zao (h.2.1 7 (by decide))
 obtain rfl := (show v7 = _ from h7)
 obtain ⟨a8, c8, h8⟩ := zao (h.2.1 8 (by decide))
 obtain rfl := (show v8 = _ from h8)
 obtain ⟨a9, c9, h9⟩ := zao (h.2.1 9 (by decide))
 obtain rfl := (show v9 = _ from h9)
 obtain ⟨a10, c10, h10⟩ := zao (h.2.1 10 (by decide))
 obtain rfl := (show v10 = _ from h10)
 obtain ⟨a11, c11, h11⟩ := zao (h.2.1 11 (by decide))
 obtain rfl := (show v11 = _ from h11)
 obtain ⟨a12, c12, h12⟩ := zao (h.2.1 12 (by decide))
 obtain rfl := (show v12 = _ from h12)
 obtain ⟨a13, c13, h13⟩ := zao (h.2.1 13 (by decide))
 obtain rfl := (show v13 = _ from h13)
 obtain ⟨a14, c14, h14⟩ := zao (h.2.1 14 (by decide))
 obtain rfl := (show v14 = _ from h14)
 obtain ⟨a15, c15, h15⟩ := zao (h.2.1 15 (by decide))
 obtain rfl := (show v15 = _ from h15)
 exact ⟨a0, _, c0, a1, _, c1, a2, _, c2, a3, _, c3, a4, _, c4, a5, _, c5, a6, _, c6, a7, _, c7, a8, _, c8, a9, _, c9, a10, _, c10, a11, _, c11, a12, _, c12, a13, _, c13, a14, _, c14, a15, _, c15, rfl⟩
theorem zba.nil (B : Nat) (V : World) : zba B [] zring V := by
 have hz : ∀ k : Nat, k < 16 -> zring[k]! = .slice none 0 0 := fun k hk => by
  match k, hk with
  | 0, _ => rfl
  | 1, _ => rfl
  | 2, _ => rfl
  | 3, _ => rfl
  | 4, _ => rfl
  | 5, _ => rfl
  | 6, _ => rfl
  | 7, _ => rfl
  | 8, _ => rfl
  | 9, _ => rfl
  | 10, _ => rfl
  | 11, _ => rfl
  | 12, _ => rfl
  | 13, _ => rfl
  | 14, _ => rfl
  | 15, _ => rfl
  | k + 16, h => exact absurd h (by omega)
 refine ⟨rfl, fun k hk => ?_, fun i j hi hj hij g hg => ?_⟩
 ·rw [hz k hk]; exact World.ownsRow_nil _ _ _ _
 ·rw [hz i hi] at hg; simp [Value.ownBlock] at hg
theorem zkt {fn : Func} {p : Tmp} (h : fn.results = #[.cell p 176]) {tmps : Array Value} {V : World} (g : Nat) (v0 v1 v2 v3 v4 v5 v6 v7 v8 v9 v10 v11 v12 v13 v14 v15 : Value)
  (hp : tmps.getD p undef = .pointer (some ⟨g, 0, none⟩)) (hg : Blok V g 176 #[v0, v1, v2, v3, v4, v5, v6, v7, v8, v9, v10, v11, v12, v13, v14, v15]) :
  (results fn tmps).run Tryz.prog V = .ok (.agg #[v0, v1, v2, v3, v4, v5, v6, v7, v8, v9, v10, v11, v12, v13, v14, v15]) V := by
 have hp' : tmps[p]?.getD undef = .pointer (some ⟨g, 0, none⟩) := by simpa using hp
 have hl := run_loadVar_row (P := Tryz.prog) V g 176 176 #[v0, v1, v2, v3, v4, v5, v6, v7, v8, v9, v10, v11, v12, v13, v14, v15] (0, 0) _ hg Tryz.underlying176 rfl (by kernel_rfl)
 simp [results, h, hp', asAddr, hl]
theorem zi9 (a : Option Addr) (n c : Nat) (l : List W.Tm) (w : World) (h : TIn w a n c l) (hn : n <= 1000) (hat : ∀ t ∈ l, 0 <= t.2 /\ t.2 <= 1073741824) :
  Calls Tryz.prog 173 #[.slice a n c] w fun e w' => ∃ vs, e = .returned (.agg vs) /\ Hid (zba w.heap.size l vs w') /\ Below w.heap.size w w' := by
 have HT := Zh h
 have HA := Zh hat
 obtain ⟨W1, hW1⟩ : ∃ W1, (w.alloc (.cells zring 176)).alloc (.cells zring 176) = W1 := ⟨_, rfl⟩
 have s0 : (w.alloc (.cells zring 176)).heap.size = w.heap.size + 1 := by simp
 have B1 : Hid (Below w.heap.size w W1) := Zh (by rw [<- hW1]; exact ((Below.refl _ w).alloc (Nat.le_refl _) _).alloc (by simp) _)
 have K0 : Hid (Blok W1 w.heap.size 176 zring) := Zh (by rw [<- hW1]; exact (Blok.new _ _ _).alloc _)
 have K1 : Hid (Blok W1 (w.heap.size + 1) 176 zring) := Zh (by rw [<- hW1, <- s0]; exact Blok.new _ _ _)
 clear h hat s0
 go_enter Tryz.func173, Tryz.ntmps173
 go_wp2_with fail
 go_loopw [8] (fun i wr => ∃ (k : Nat) (vs : Array Value), i = .int .i64 k /\ k <= n /\ Hid (Blok wr (w.heap.size + 1) 176 vs) /\ Hid (zba w.heap.size (l.take k) vs wr) /\ Hid (Blok wr w.heap.size 176 zring) /\ Hid (Below w.heap.size w wr)) (fun i _ => n - (intOf i).toNat)
 case atStart => exact ⟨0, zring, by go_num, by omega, K1, Zh (by simpa using zba.nil _ _), K0, B1⟩
 case round =>
  obtain ⟨k, vs, rfl, hkn, HR, HW, HZ, HB⟩ := hrel
  by_cases hlt : k < n
  ·have d1 : decide ((k : Int) < n) = true := by simp; omega
   obtain ⟨b, off, x, rfl, hbl, hx, p1, p2⟩ := (HT.out.below HB.out).at hlt
   have HX := Zh hx
   have k0 : (0 : Int) <= k := by omega
   have k1 : (k : Int) < n := by omega
   have TB := Zh (zcc wr x)
   have TK := Zh (zct wr x)
   have b0 := TK.out.b0
   have b1 := TK.out.b1
   have hx2 := HA.out x (List.mem_of_getElem? hx)
   have HLn : (l.take k).length <= 1000 := by simp; omega
   have hp := zfj w.heap.size (w.heap.size + 1) (l.take k) x vs (tbox wr x) (HR.out.on' TB.out) (HW.out.on TB.out) (Nat.le_trans HB.out.size TB.out.size) (Nat.le_succ _) hx2 HLn
   unfold tbox at b0 b1 hp
   clear hx
   go_wp2_with fail
   refine hp.mono ?_
   rintro e w3 ⟨rfl, vs', HR3, HW3, HO3, HB3⟩
   clear hp b0 b1 p1 p2
   have HZ3 : Hid (Blok w3 w.heap.size 176 zring) := Zh (HO3.out _ _ _ (HZ.out.on' TB.out) (by decide) (by simp))
   have HB4 : Hid (Below w.heap.size w w3) := Zh ((HB.out.trans (TB.out.mono HB.out.size)).trans HB3.out)
   have HT3 : Hid (zba w.heap.size (l.take (k + 1)) vs' w3) := Zh (by
    obtain ⟨g1, g2⟩ := List.getElem?_eq_some_iff.1 HX.out
    rw [List.take_succ_eq_append_getElem g1, g2]; exact HW3.out)
   go_wp2
   go_roundw
   case rel => exact ⟨k + 1, vs', by go_num, by omega, HR3, HT3, HZ3, HB4⟩
   case measure => simp [intOf] <;> omega
  ·have d1 : decide ((k : Int) < n) = false := by simp; omega
   have htk : l.take k = l := List.take_of_length_le (by rw [HT.out.1]; omega)
   rw [htk] at HW
   obtain ⟨a0, n0, c0, a1, n1, c1, a2, n2, c2, a3, n3, c3, a4, n4, c4, a5, n5, c5, a6, n6, c6, a7, n7, c7, a8, n8, c8, a9, n9, c9, a10, n10, c10, a11, n11, c11, a12, n12, c12, a13, n13, c13, a14, n14, c14, a15, n15, c15, rfl⟩ := HW.out.letters
   have r0 := Zv HR.out 0 (.slice a0 n0 c0)
   have r1 := Zv HR.out 1 (.slice a1 n1 c1)
   have r2 := Zv HR.out 2 (.slice a2 n2 c2)
   have r3 := Zv HR.out 3 (.slice a3 n3 c3)
   have r4 := Zv HR.out 4 (.slice a4 n4 c4)
   have r5 := Zv HR.out 5 (.slice a5 n5 c5)
   have r6 := Zv HR.out 6 (.slice a6 n6 c6)
   have r7 := Zv HR.out 7 (.slice a7 n7 c7)
   have r8 := Zv HR.out 8 (.slice a8 n8 c8)
   have r9 := Zv HR.out 9 (.slice a9 n9 c9)
   have r10 := Zv HR.out 10 (.slice a10 n10 c10)
   have r11 := Zv HR.out 11 (.slice a11 n11 c11)
   have r12 := Zv HR.out 12 (.slice a12 n12 c12)
   have r13 := Zv HR.out 13 (.slice a13 n13 c13)
   have r14 := Zv HR.out 14 (.slice a14 n14 c14)
   have r15 := Zv HR.out 15 (.slice a15 n15 c15)
   have z0 := Zv HZ.out 0 (.slice none 0 0)
   have f0 := HZ.out.frozen 0
   have z1 := Zv HZ.out 1 (.slice none 0 0)
   have f1 := HZ.out.frozen 1
   have z2 := Zv HZ.out 2 (.slice none 0 0)
   have f2 := HZ.out.frozen 2
   have z3 := Zv HZ.out 3 (.slice none 0 0)
   have f3 := HZ.out.frozen 3
   have z4 := Zv HZ.out 4 (.slice none 0 0)
   have f4 := HZ.out.frozen 4
   have z5 := Zv HZ.out 5 (.slice none 0 0)
   have f5 := HZ.out.frozen 5
   have z6 := Zv HZ.out 6 (.slice none 0 0)
   have f6 := HZ.out.frozen 6
   have z7 := Zv HZ.out 7 (.slice none 0 0)
   have f7 := HZ.out.frozen 7
   have z8 := Zv HZ.out 8 (.slice none 0 0)
   have f8 := HZ.out.frozen 8
   have z9 := Zv HZ.out 9 (.slice none 0 0)
   have f9 := HZ.out.frozen 9
   have z10 := Zv HZ.out 10 (.slice none 0 0)
   have f10 := HZ.out.frozen 10
   have z11 := Zv HZ.out 11 (.slice none 0 0)
   have f11 := HZ.out.frozen 11
   have z12 := Zv HZ.out 12 (.slice none 0 0)
   have f12 := HZ.out.frozen 12
   have z13 := Zv HZ.out 13 (.slice none 0 0)
   have f13 := HZ.out.frozen 13
   have z14 := Zv HZ.out 14 (.slice none 0 0)
   have f14 := HZ.out.frozen 14
   have z15 := Zv HZ.out 15 (.slice none 0 0)
   have f15 := HZ.out.frozen 15
   obtain ⟨W9, hW9⟩ : ∃ W9, ((((((((((((((((wr.setCell ⟨w.heap.size, 0, none⟩ (.slice a0 n0 c0)).setCell ⟨w.heap.size, 1, none⟩ (.slice a1 n1 c1)).setCell ⟨w.heap.size, 2, none⟩ (.slice a2 n2 c2)).setCell ⟨w.heap.size, 3, none⟩ (.slice a3 n3 c3)).setCell ⟨w.heap.size, 4, none⟩ (.slice a4 n4 c4)).setCell ⟨w.heap.size, 5, none⟩ (.slice a5 n5 c5)).setCell ⟨w.heap.size, 6, none⟩ (.slice a6 n6 c6)).setCell ⟨w.heap.size, 7, none⟩ (.slice a7 n7 c7)).setCell ⟨w.heap.size, 8, none⟩ (.slice a8 n8 c8)).setCell ⟨w.heap.size, 9, none⟩ (.slice a9 n9 c9)).setCell ⟨w.heap.size, 10, none⟩ (.slice a10 n10 c10)).setCell ⟨w.heap.size, 11, none⟩ (.slice a11 n11 c11)).setCell ⟨w.heap.size, 12, none⟩ (.slice a12 n12 c12)).setCell ⟨w.heap.size, 13, none⟩ (.slice a13 n13 c13)).setCell ⟨w.heap.size, 14, none⟩ (.slice a14 n14 c14)).setCell ⟨w.heap.size, 15, none⟩ (.slice a15 n15 c15)) = W9 := ⟨_, rfl⟩
   have HZ9 : Hid (Blok W9 w.heap.size 176 #[.slice a0 n0 c0, .slice a1 n1 c1, .slice a2 n2 c2, .slice a3 n3 c3, .slice a4 n4 c4, .slice a5 n5 c5, .slice a6 n6 c6, .slice a7 n7 c7, .slice a8 n8 c8, .slice a9 n9 c9, .slice a10 n10 c10, .slice a11 n11 c11, .slice a12 n12 c12, .slice a13 n13 c13, .slice a14 n14 c14, .slice a15 n15 c15]) := Zh (by
    have := ((((((((((((((((HZ.out.set 0 (.slice a0 n0 c0)).set 1 (.slice a1 n1 c1)).set 2 (.slice a2 n2 c2)).set 3 (.slice a3 n3 c3)).set 4 (.slice a4 n4 c4)).set 5 (.slice a5 n5 c5)).set 6 (.slice a6 n6 c6)).set 7 (.slice a7 n7 c7)).set 8 (.slice a8 n8 c8)).set 9 (.slice a9 n9 c9)).set 10 (.slice a10 n10 c10)).set 11 (.slice a11 n11 c11)).set 12 (.slice a12 n12 c12)).set 13 (.slice a13 n13 c13)).set 14 (.slice a14 n14 c14)).set 15 (.slice a15 n15 c15))
    rw [hW9] at this
    simpa using this)
   have G9 : Hid (wr.grownBy W9 (some w.heap.size)) := Zh (by
    rw [<- hW9]
    exact (((((((((((((((zae _ _ _ _).trans (zae _ _ _ _)).trans (zae _ _ _ _)).trans (zae _ _ _ _)).trans (zae _ _ _ _)).trans (zae _ _ _ _)).trans (zae _ _ _ _)).trans (zae _ _ _ _)).trans (zae _ _ _ _)).trans (zae _ _ _ _)).trans (zae _ _ _ _)).trans (zae _ _ _ _)).trans (zae _ _ _ _)).trans (zae _ _ _ _)).trans (zae _ _ _ _)).trans (zae _ _ _ _))
   have HB9 : Hid (Below w.heap.size w W9) := Zh (HB.out.grown G9.out HB.out.size (fun j hj => by cases hj; exact Nat.le_refl _))
   have HW9 : Hid (zba w.heap.size l #[.slice a0 n0 c0, .slice a1 n1 c1, .slice a2 n2 c2, .slice a3 n3 c3, .slice a4 n4 c4, .slice a5 n5 c5, .slice a6 n6 c6, .slice a7 n7 c7, .slice a8 n8 c8, .slice a9 n9 c9, .slice a10 n10 c10, .slice a11 n11 c11, .slice a12 n12 c12, .slice a13 n13 c13, .slice a14 n14 c14, .slice a15 n15 c15] W9) := Zh ⟨rfl, fun j hj => (HW.out.2.1 j hj).kept G9.out (by
    cases hv : (#[.slice a0 n0 c0, .slice a1 n1 c1, .slice a2 n2 c2, .slice a3 n3 c3, .slice a4 n4 c4, .slice a5 n5 c5, .slice a6 n6 c6, .slice a7 n7 c7, .slice a8 n8 c8, .slice a9 n9 c9, .slice a10 n10 c10, .slice a11 n11 c11, .slice a12 n12 c12, .slice a13 n13 c13, .slice a14 n14 c14, .slice a15 n15 c15] : Array Value)[j]!.ownBlock with
    | none => exact .inl rfl
    | some g' => exact .inr (fun e => zdy (HW.out.2.1 j hj) HZ.out (by decide) hv (Option.some.inj e).symm)), HW.out.2.2⟩
   go_wp2_with fail
   refine bodyPost_ret (zkt rfl w.heap.size _ _ _ _ _ _ _ _ _ _ _ _ _ _ _ _ (by kernel_rfl) HZ9.out) rfl ?_
   exact ⟨_, rfl, HW9, HB9.out⟩
end Go.Proofs.YtonejangijkdmaaGreat
