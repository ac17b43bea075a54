import Derived.Test.YtonejangijkdmaaGreatQI
import Derived.Test.YtonejangijkdmaaGreatQYSC
import Derived.Test.YtonejangijkdmaaGreatQYLGT
namespace Go.Proofs.YtonejangijkdmaaGreat
set_option maxHeartbeats 3000000
set_option maxRecDepth 100000
open Go.RowKit
theorem AllocHold_in (d : E.D) (p : Y.Po) (aq : Option Addr) (nq cq : Nat) (l : List Y.Rq) (i k : Int) (w : World) (hb : d.b <= 9223372036854775807) (hc : d.c <= 9223372036854775807) (hq : VIn w aq nq cq l) (hra : ∀ q ∈ l, q.a <= 9223372036854775807) :
  Calls Tryz.prog 7 #[.agg #[d.b, d.k, d.c, d.j, d.lo, d.hi, d.dy, d.bl], .agg #[p.q, p.i, p.h, p.pair], .slice aq nq cq, i, k] w fun e w' => e = .returned (.bool true) /\ Below w.heap.size w w' := by
 have HB0 := Zh (Below.refl w.heap.size w)
 have HQA := Zh hq
 have HRA := Zh hra
 clear hq hra
 obtain ⟨w1, hw1, hb, hk⟩ := Zn w 25 #[d.b, d.k, d.c, d.j, d.lo, d.hi, d.dy, d.bl]
 replace HB0 := Zt HB0 hb
 have KD1 := Zh hk
 clear hb hk
 obtain ⟨w2, hw2, hb, hk⟩ := Zn w1 27 #[p.q, p.i, p.h, p.pair]
 replace KD1 := Zk KD1 hb
 replace HB0 := Zt HB0 hb
 have KP2 := Zh hk
 clear hb hk
 go_enter Tryz.func7, Tryz.ntmps7
 go_wp2_with fail
 try rw [hw1]
 try rw [hw2]
 refine (zb0 w2).mono ?_
 rintro e w3 ⟨rfl, hb⟩
 replace KD1 := Zk KD1 hb
 replace KP2 := Zk KP2 hb
 replace HB0 := Zt HB0 hb
 clear hb
 clear hw1 hw2
 obtain ⟨vm, hvm⟩ : ∃ b, decide (Y.May (Y.st0 d p)) = b := ⟨_, rfl⟩
 have HVM := Zh hvm
 clear hvm
 cases vm with
 | false =>
  have c0 := Y.as8 KD1.out
  have p0 := Y.as4 KP2.out
  go_wp2_with fail
  refine (zm4 d p w3 hb hc HVM.out).mono ?_
  clear c0
  clear p0
  rintro e w4 ⟨rfl, hb⟩
  replace KD1 := Zk KD1 hb
  replace KP2 := Zk KP2 hb
  replace HB0 := Zt HB0 hb
  clear hb
  have c0 := Y.as8 KD1.out
  have p0 := Y.as4 KP2.out
  clear c0
  clear p0
  obtain ⟨w5, he5⟩ : ∃ W, w4.alloc (.cells #[(), (), (), (), (), (), (), (), (), (), (), .bool false, (), .slice none 0 0, .slice none 0 0, .slice none 0 0] 32) = W := ⟨_, rfl⟩
  obtain ⟨w6, hp6⟩ : ∃ W, w5.setRow w4.heap.size #[(), (), (), (), (), (), (), (), (), (), (), .bool false, (), .slice none 0 0, .slice none 0 0, .slice none 0 0] = W := ⟨_, rfl⟩
  obtain ⟨kz1, ka, hb, hsz⟩ := box0 he5 hp6
  have HZ6 := Zh kz1
  have HP6 := Zh hp6
  clear hsz
  replace KD1 := Zk KD1 hb
  replace KP2 := Zk KP2 hb
  replace HB0 := Zt HB0 hb
  have KS6 := Zh ka
  clear kz1 ka hb hp6
  go_wp2_with (first | (refine Zw HZ6.out HP6.out ?_))
  clear he5 HZ6 HP6
  go_ret
  exact ⟨rfl, HB0.out⟩
 | true =>
  have c0 := Y.as8 KD1.out
  have p0 := Y.as4 KP2.out
  go_wp2_with fail
  refine (zlz d p w3 hb hc HVM.out).mono ?_
  clear c0
  clear p0
  rintro e w4 ⟨rfl, hb⟩
  replace KD1 := Zk KD1 hb
  replace KP2 := Zk KP2 hb
  replace HB0 := Zt HB0 hb
  clear hb
  have c0 := Y.as8 KD1.out
  have p0 := Y.as4 KP2.out
  clear c0
  clear p0
  unfold Y.val Y.st0 Y.a0
  have HLW := Zh HB0.out.size
  obtain ⟨w5, he5⟩ : ∃ W, w4.alloc (.cells #[(), (), (), (), (), (), (), (), (), (), (), .bool false, (), .slice none 0 0, .slice none 0 0, .slice none 0 0] 32) = W := ⟨_, rfl⟩
  obtain ⟨w6, hp6⟩ : ∃ W, w5.setRow w4.heap.size #[d.b, d.k, d.c, d.j, d.lo, d.hi, d.dy, d.bl, p.q, p.i, p.h, p.pair, (), .slice none 0 0, .slice none 0 0, .slice none 0 0] = W := ⟨_, rfl⟩
  obtain ⟨kz1, ka, hb, hsz⟩ := box0 he5 hp6
  have HZ6 := Zh kz1
  have HP6 := Zh hp6
  clear hsz
  replace KD1 := Zk KD1 hb
  replace KP2 := Zk KP2 hb
  replace HB0 := Zt HB0 hb
  have KS6 := Zh ka
  clear kz1 ka hb hp6
  by_cases g1 : 60 < nq
  ·have d1_0 : decide ((nq : Int) > 60) = true := decide_eq_true (by omega)
   have d1_1 : decide ((60 : Int) < nq) = true := decide_eq_true (by omega)
   have d1_2 : decide (60 < nq) = true := decide_eq_true g1
   go_wp2_with (first | (refine Zw HZ6.out HP6.out ?_))
   clear he5 HZ6 HP6
   go_ret
   exact ⟨rfl, HB0.out⟩
  have d1_0 : decide ((nq : Int) > 60) = false := decide_eq_false (by omega)
  have d1_1 : decide ((60 : Int) < nq) = false := decide_eq_false (by omega)
  have d1_2 : decide (60 < nq) = false := decide_eq_false g1
  obtain ⟨⟨t, evs⟩, hs⟩ : ∃ q, Y.script (Y.st0 d p) l = q := ⟨_, rfl⟩
  have HS := Zh hs
  clear hs
  have hm0 : Y.May (Y.st0 d p) := of_decide_eq_true HVM.out
  have HM : Hid (Y.May t) := Zh (by have := Y.script_may l hm0; rw [HS.out] at this; exact this)
  have HD : Hid (t.d = d) := Zh (by have := Y.script_d l (s := Y.st0 d p); rw [HS.out] at this; exact this)
  clear hm0
  have LKS := Zh KS6.out.lt
  go_wp2_with (first | (refine Zw HZ6.out HP6.out ?_) | (refine zak KS6.out rfl rfl (by kernel_rfl) Tryz.underlying32 rfl (by kernel_rfl) ?_))
  clear he5 HZ6 HP6
  refine (zm1 (Y.st0 d p) none 0 0 none 0 0 none 0 0 aq nq cq l w6.heap.size w6 (Y.in0 _ d p) (Y.fits0 p hb hc) ⟨(fun q hq => by cases hq), (fun q hq => by cases hq), (fun q hq => by cases hq)⟩ (Nat.le_refl _) (HQA.out.below HB0.out) HRA.out (by omega) t evs HS.out).mono ?_
  rintro e w7 ⟨apa, npa, cpa, ala, nla, cla, aha, nha, cha, ea, ne, ec, rfl, hi, hv, hf2, hu, he, hb'⟩
  have hb := hb'
  clear hb'
  replace KD1 := Zk KD1 hb
  replace KP2 := Zk KP2 hb
  replace KS6 := Zk KS6 hb
  replace HB0 := Zt HB0 hb
  clear hb
  have HTa7 := hi
  have HVa7 := hv
  have HFa := hf2
  have HUa := hu
  have HEa := he
  clear hi hv hf2 hu he
  obtain ⟨w8, he8⟩ : ∃ W, w7.alloc (.cells #[(), (), (), (), (), (), (), (), (), (), (), .bool false, (), .slice none 0 0, .slice none 0 0, .slice none 0 0] 32) = W := ⟨_, rfl⟩
  obtain ⟨w9, hp9⟩ : ∃ W, w8.setRow w7.heap.size #[t.d.b, t.d.k, t.d.c, t.d.j, t.d.lo, t.d.hi, t.d.dy, t.d.bl, t.p.q, t.p.i, t.p.h, t.p.pair, t.now, .slice apa npa cpa, .slice ala nla cla, .slice aha nha cha] = W := ⟨_, rfl⟩
  obtain ⟨kz1, ka, hb, hsz⟩ := box0 he8 hp9
  have HZ9 := Zh kz1
  have HP9 := Zh hp9
  clear hsz
  replace KD1 := Zk KD1 hb
  replace KP2 := Zk KP2 hb
  replace KS6 := Zk KS6 hb
  replace HTa7 := Zh (HTa7.out.below hb)
  replace HVa7 := Zh (HVa7.out.below hb)
  replace HB0 := Zt HB0 hb
  have KT9 := Zh ka
  clear kz1 ka hb hp9
  go_wp2_with (first | (refine Zw HZ9.out HP9.out ?_))
  clear he8 HZ9 HP9
  clear HTa7
  clear KT9
  clear KS6
  clear KD1
  by_cases g2 : i < 0
  ·have d2_0 : decide (i < 0) = true := decide_eq_true (by omega)
   go_quiet (fail)
   go_wp2
   go_ret
   exact ⟨rfl, HB0.out.trans (zad _ _ _)⟩
  have d2_0 : decide (i < 0) = false := decide_eq_false (by omega)
  obtain ⟨i, rfl⟩ := Int.eq_ofNat_of_zero_le (show 0 <= i by omega)
  by_cases g3 : k <= (i : Int)
  ·have d3_0 : decide (k <= (i : Int)) = true := decide_eq_true (by omega)
   go_quiet (fail)
   go_wp2
   go_ret
   exact ⟨rfl, HB0.out.trans (zad _ _ _)⟩
  have d3_0 : decide (k <= (i : Int)) = false := decide_eq_false (by omega)
  obtain ⟨k, rfl⟩ := Int.eq_ofNat_of_zero_le (show 0 <= k by omega)
  have d3_1 : decide (k <= i) = false := decide_eq_false (by omega)
  by_cases g4 : ne <= k
  ·have d4_0 : decide ((k : Int) ≥ (ne : Int)) = true := decide_eq_true (by omega)
   have d4_1 : decide ((ne : Int) <= (k : Int)) = true := decide_eq_true (by omega)
   have d4_2 : decide (ne <= k) = true := decide_eq_true (by omega)
   go_quiet (fail)
   go_wp2
   go_ret
   exact ⟨rfl, HB0.out.trans (zad _ _ _)⟩
  have d4_0 : decide ((k : Int) ≥ (ne : Int)) = false := decide_eq_false (by omega)
  have d4_1 : decide ((ne : Int) <= (k : Int)) = false := decide_eq_false (by omega)
  have d4_2 : decide (ne <= k) = false := decide_eq_false (by omega)
  have hkn : k < ne := by omega
  have hik : i < k := by omega
  have hin : i < ne := by omega
  obtain ⟨b1, o1, x, hal, -, hx, hcx⟩ := HVa7.out.at hin
  obtain ⟨b2, o2, y, hal2, -, hy, hcy⟩ := HVa7.out.at hkn
  subst hal
  obtain ⟨rfl, rfl⟩ : b1 = b2 /\ o1 = o2 := by cases hal2; exact ⟨rfl, rfl⟩
  clear hal2
  have HX := Zh hx
  have HY := Zh hy
  clear hx hy
  have x0 : w9.cell? ⟨b1, o1 + i * 9, none⟩ = some (.int .i64 x.k) := hcx 0 _ rfl
  have x1 : w9.cell? ⟨b1, o1 + i * 9 + 1, none⟩ = some (.int .i64 x.t) := hcx 1 _ rfl
  have x3 : w9.cell? ⟨b1, o1 + i * 9 + 3, none⟩ = some (.int .i64 x.b) := hcx 3 _ rfl
  have x4 : w9.cell? ⟨b1, o1 + i * 9 + 4, none⟩ = some (.int .i64 x.c) := hcx 4 _ rfl
  have y0 : w9.cell? ⟨b1, o1 + k * 9, none⟩ = some (.int .i64 y.k) := hcy 0 _ rfl
  have y1 : w9.cell? ⟨b1, o1 + k * 9 + 1, none⟩ = some (.int .i64 y.t) := hcy 1 _ rfl
  have y3 : w9.cell? ⟨b1, o1 + k * 9 + 3, none⟩ = some (.int .i64 y.b) := hcy 3 _ rfl
  have y4 : w9.cell? ⟨b1, o1 + k * 9 + 4, none⟩ = some (.int .i64 y.c) := hcy 4 _ rfl
  clear hcx hcy
  have f1 : decide ((i : Int) < ne) = true := decide_eq_true (by omega)
  have f2 : decide (i < ne) = true := decide_eq_true hin
  have f3 : (0 : Int) <= i := by omega
  have f4 : (i : Int) < ne := by omega
  have f5 : decide ((k : Int) < ne) = true := decide_eq_true (by omega)
  have f6 : decide (k < ne) = true := decide_eq_true hkn
  have f7 : (0 : Int) <= k := by omega
  have f8 : (k : Int) < ne := by omega
  by_cases h1 : x.k = 1
  rotate_left
  ·have eh1 : (x.k != 1) = true := by simpa using h1
   go_quiet (fail)
   go_wp2
   go_ret
   exact ⟨rfl, HB0.out.trans (zad _ _ _)⟩
  have eh1 : (x.k != 1) = false := by simpa using h1
  have Hh1 := Zh h1
  clear h1
  by_cases h2 : y.k = 0
  rotate_left
  ·have eh2 : (y.k != 0) = true := by simpa using h2
   go_quiet (fail)
   go_wp2
   go_ret
   exact ⟨rfl, HB0.out.trans (zad _ _ _)⟩
  have eh2 : (y.k != 0) = false := by simpa using h2
  have Hh2 := Zh h2
  clear h2
  by_cases h3 : y.b = x.b
  rotate_left
  ·have eh3 : (y.b != x.b) = true := by simpa using h3
   go_quiet (fail)
   go_wp2
   go_ret
   exact ⟨rfl, HB0.out.trans (zad _ _ _)⟩
  have eh3 : (y.b != x.b) = false := by simpa using h3
  have Hh3 := Zh h3
  clear h3
  by_cases h4 : y.c = x.c
  rotate_left
  ·have eh4 : (y.c != x.c) = true := by simpa using h4
   go_quiet (fail)
   go_wp2
   go_ret
   exact ⟨rfl, HB0.out.trans (zad _ _ _)⟩
  have eh4 : (y.c != x.c) = false := by simpa using h4
  have Hh4 := Zh h4
  clear h4
  go_quiet (fail)
  obtain ⟨wv, hwv⟩ : ∃ W, w9.drewN nq = W := ⟨_, rfl⟩
  have HWV : Hid (Below w9.heap.size w9 wv) := Zh (by rw [<- hwv]; exact zad _ _ _)
  rw [hwv]
  clear hwv x0 x1 x3 x4 y0 y1 y3 y4
  have hb := HWV.out
  replace KP2 := Zk KP2 hb
  replace HVa7 := Zh (HVa7.out.below hb)
  replace HB0 := Zt HB0 hb
  clear hb
  clear HWV
  have p0 := Y.as4 KP2.out
  go_wp2_with fail
  go_loopw [16, 17] (fun s16 s17 wr => ∃ n : Nat, s16 = .int .i64 (Y.holdOf p.h (evs.take n)) /\ s17 = .int .i64 n /\ n <= i /\ Hid (Below wv.heap.size wv wr)) (fun _ s17 _ => i - (intOf s17).toNat)
  case atStart => exact ⟨0, rfl, rfl, by omega, Zh (Below.refl _ _)⟩
  case round =>
   obtain ⟨n, rfl, rfl, hni, HW⟩ := hrel
   have HWK := HW
   obtain ⟨hv, hhv⟩ : ∃ v, Y.holdOf p.h (evs.take n) = v := ⟨_, rfl⟩
   rw [hhv]
   have HHV := Zh hhv
   clear hhv
   clear p0
   have hb := HW.out
   replace KP2 := Zk KP2 hb
   replace HVa7 := Zh (HVa7.out.below hb)
   replace HB0 := Zt HB0 hb
   clear hb
   clear HW
   have hne9 : ne <= 2000 := by have h1 := Y.script_evlen l (Y.st0 d p); rw [HS.out] at h1; have h2 : evs.length = ne := HVa7.out.1; have h3 : l.length = _ := HQA.out.1; simp only at h1; omega
   by_cases hlt : n < i
   ·have HLT := Zh hlt
    have e1 : decide ((n : Int) < i) = true := decide_eq_true (by omega)
    have e1' : decide (n < i) = true := decide_eq_true hlt
    have hnn : n < ne := by omega
    have k0 : (0 : Int) <= n := by omega
    have k1 : (n : Int) < ne := by omega
    have k2 : decide ((n : Int) < ne) = true := decide_eq_true (by omega)
    have k3 : decide (n < ne) = true := decide_eq_true hnn
    obtain ⟨b3, o3, z, hal3, -, hz, hcz⟩ := HVa7.out.at hnn
    obtain ⟨rfl, rfl⟩ : b1 = b3 /\ o1 = o3 := by cases hal3; exact ⟨rfl, rfl⟩
    clear hal3
    have HZT := Zh (Y.hold_take hz p.h)
    rw [HHV.out] at HZT
    have z0 : wr.cell? ⟨b1, o1 + n * 9, none⟩ = some (.int .i64 z.k) := hcz 0 _ rfl
    have z7 : wr.cell? ⟨b1, o1 + n * 9 + 7, none⟩ = some (.int .i64 z.p.h) := hcz 7 _ rfl
    clear hcz hz
    by_cases hz6 : z.k = 6
    ·have HZ6 := Zh hz6
     have e6 : (z.k == 6) = true := by simpa using hz6
     clear hz6
     go_wp2_with fail
     go_roundw
     case rel => exact ⟨n + 1, by rw [HZT.out, if_pos HZ6.out], by go_num, by have := HLT.out; omega, HWK⟩
     case measure => have := HLT.out; simp [intOf] <;> omega
    ·have HZ6 := Zh hz6
     have e6 : (z.k == 6) = false := by simpa using hz6
     clear hz6
     go_wp2_with fail
     go_roundw
     case rel => exact ⟨n + 1, by rw [HZT.out, if_neg HZ6.out], by go_num, by have := HLT.out; omega, HWK⟩
     case measure => have := HLT.out; simp [intOf] <;> omega
   have e1 : decide ((n : Int) < i) = false := decide_eq_false (by omega)
   have e1' : decide (n < i) = false := decide_eq_false hlt
   obtain rfl : n = i := by omega
   have hev : Y.script (Y.st0 d p) l = (t, evs) := HS.out
   have hmy : Y.May (Y.st0 d p) := of_decide_eq_true HVM.out
   have htm : ∀ e ∈ evs, Y.Tim e := by have := Y.script_tim l hmy; rw [hev] at this; exact this
   have hhold := Y.hold_tim (evs.take n) p.h ⟨hmy.2.1.2.2.2.2.1, hmy.2.1.2.2.2.2.2⟩ (fun e he => htm e (List.mem_of_mem_take he))
   rw [HHV.out] at hhold
   have hpast := Y.held_past (d := d) (p := p) (s := Y.st0 d p) (by unfold Y.new; rw [if_pos (show Y.May ⟨d, p, 0, [], [], []⟩ from hmy)]; rfl) l (i := n) (k := k) (e := x) (g := y) hik (by rw [hev]; exact HX.out) (by rw [hev]; exact HY.out) Hh1.out Hh2.out Hh3.out Hh4.out
   rw [hev] at hpast
   simp only at hpast
   rw [HHV.out] at hpast
   have hxt := htm x (List.mem_of_getElem? HX.out)
   have q1 : wrap64 (x.t + hv) = x.t + hv := IntWalk.wrap64_in _ (by have := hxt.1; have := hxt.2.1; omega)
   have q2 : IntKind.i64.wrap (x.t + hv) = x.t + hv := by rw [IntWalk.i64_left]; exact q1
   have q3 : decide (y.t ≥ x.t + hv) = true := decide_eq_true hpast
   have q4 : decide (x.t + hv <= y.t) = true := q3
   clear hev hmy htm hhold hpast hxt
   obtain ⟨b4, o4, x', hal4, -, hx', hcx⟩ := HVa7.out.at (show n < ne by omega)
   obtain ⟨rfl, rfl⟩ : b1 = b4 /\ o1 = o4 := by cases hal4; exact ⟨rfl, rfl⟩
   obtain rfl : x = x' := Option.some.inj (HX.out.symm.trans hx')
   obtain ⟨b5, o5, y', hal5, -, hy', hcy⟩ := HVa7.out.at hkn
   obtain ⟨rfl, rfl⟩ : b1 = b5 /\ o1 = o5 := by cases hal5; exact ⟨rfl, rfl⟩
   obtain rfl : y = y' := Option.some.inj (HY.out.symm.trans hy')
   have x1 : wr.cell? ⟨b1, o1 + n * 9 + 1, none⟩ = some (.int .i64 x.t) := hcx 1 _ rfl
   have y1 : wr.cell? ⟨b1, o1 + k * 9 + 1, none⟩ = some (.int .i64 y.t) := hcy 1 _ rfl
   clear hal4 hal5 hx' hy' hcx hcy
   go_wp2_with fail
   go_quiet (fail)
   go_wp2
   go_ret
   exact ⟨rfl, HB0.out.trans (zad _ _ _)⟩
end Go.Proofs.YtonejangijkdmaaGreat
