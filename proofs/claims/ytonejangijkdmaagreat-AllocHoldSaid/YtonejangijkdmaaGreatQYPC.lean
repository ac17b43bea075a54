import Derived.Test.YtonejangijkdmaaGreatQI
import Derived.Test.YtonejangijkdmaaGreatQYG
import Derived.Test.YtonejangijkdmaaGreatYWh
import Derived.Test.YtonejangijkdmaaGreatWC
namespace Go.Proofs.YtonejangijkdmaaGreat
set_option maxHeartbeats 4000000
set_option maxRecDepth 100000
open Go.RowKit
theorem zdh {w : World} {g i : Nat} {p : Addr} {u v : Value} (h : w.cell? ⟨g, i, none⟩ = some v) (hp : g ≠ p.block) : (w.setCell p u).cell? ⟨g, i, none⟩ = some v := by
 rw [World.cell?_setCell_other]
 ·exact h
 ·first | exact fun e => hp (by rw [<- e]) | exact fun e => hp (by rw [e])
theorem zjk {w w' : World} {a : Option Addr} {n c g : Nat} {l : List W.Tm} {t : TypeId} {k : Int} {x : Option Addr} {y z : Nat} (h : TIn w a n c l) (hk : Blok w g t #[k, .slice x y z]) (hg : w.grownBy w' (some g)) : TIn w' a n c l := by
 refine ⟨h.1, h.2.1, h.2.2.1, ?_⟩
 rcases h.2.2.2 with h0 | ⟨b, off, rfl, hlt, hc⟩
 ·exact .inl h0
 ·cases l with
  | nil => exact .inl rfl
  | cons u l =>
   have hne : b ≠ g := by
    rintro rfl
    obtain ⟨h1, h2⟩ := hc 0 u rfl
    rw [hk.cell] at h1 h2
    match off, h1, h2 with
    | 0, _, h2 => simp at h2
    | 1, h1, _ => simp at h1
    | _ + 2, h1, _ => simp at h1
   refine .inr ⟨b, off, rfl, Nat.lt_of_lt_of_le hlt hg.size, fun i v hi => ?_⟩
   have hb : ∀ o, w'.cell? ⟨b, o, none⟩ = w.cell? ⟨b, o, none⟩ := fun o => by unfold World.cell?; rw [hg.block b hlt (by simpa using hne)]
   rw [hb, hb]; exact hc i v hi
theorem KpL.tin {H X : Nat} {V V' : World} (h : KpL H X V V') {a : Option Addr} {n c : Nat} {l : List W.Tm} (hr : TIn V a n c l) (ha : ∀ q, a = some q -> q.block < H /\ q.block ≠ X) : TIn V' a n c l := by
 refine ⟨hr.1, hr.2.1, hr.2.2.1, ?_⟩
 rcases hr.2.2.2 with h0 | ⟨b, off, rfl, hlt, hc⟩
 ·exact .inl h0
 ·have hb := ha _ rfl
  refine .inr ⟨b, off, rfl, Nat.lt_of_lt_of_le hlt h.1.size, fun i x hi => ?_⟩
  have he : ∀ o, V'.cell? ⟨b, o, none⟩ = V.cell? ⟨b, o, none⟩ := fun o => by unfold World.cell?; rw [h.2 b hb.1 hb.2]
  rw [he, he]; exact hc i x hi
theorem Y.Own3.far {w w' : World} {H0 b g : Nat} {s : Y.St} {A : Y.A9} {t : TypeId} {cs : Array Value} (h : Y.Own3 w H0 b s A) (hk : Blok w g t cs) (h1 : t ≠ 84) (h2 : t ≠ 100) (h3 : t ≠ 58) (h4 : t ≠ 71) (hg : w.grownBy w' (some g)) : Y.Own3 w' H0 b s A := by
 have hne : b ≠ g := by
  rintro rfl
  have h5 := h.k
  unfold Blok at hk h5
  rw [hk] at h5
  simp at h5
  exact h1 h5.2
 exact ⟨h.k.grown hg (by simpa using hne), h.rp.kept hg (.inr fun e => za4 h.rp hk h2 e rfl), h.rl.kept hg (.inr fun e => za4 h.rl hk h3 e rfl), h.rh.kept hg (.inr fun e => za4 h.rh hk h4 e rfl), h.h0, h.np, h.nl, h.nh⟩
theorem zjl (H0 b : Nat) (s : Y.St) (A : Y.A9) (r : Y.Rq) (w : World) (ho : Y.Own3 w H0 b s A) (hm : Y.May s) (fb : s.d.b <= 9223372036854775807) (fc : s.d.c <= 9223372036854775807) :
  Calls Tryz.prog 84 #[.pointer (some ⟨b, 0, none⟩), Y.rval r] w fun e w' => Y.Ends w H0 b (Y.tick s r.n) e w' := by
 have hff := ho.fits hm fb fc
 have hbl := ho.k.lt
 have HH0 : Hid (H0 <= w.heap.size) := Zh (by have := ho.h0; omega)
 obtain ⟨ap, np, cp, al, nl, cl, ah, nh, ch⟩ := A
 have hnp : np <= 600 := hff.p
 have hnl : nl <= 600 := hff.l
 have hnh : nh <= 600 := hff.h
 have HM := Zh hm
 have HFF := Zh hff
 have HW := Zh ho
 have HB0 := Zh (Below.refl w.heap.size w)
 have HO0 := Zh (ho)
 have HS0 := Zh (ho.win (H := w.heap.size) ho.k.lt (Nat.le_refl _))
 clear ho hm hff
 unfold Y.rval
 obtain ⟨w1, hw1, hb, hk⟩ := Zn w 34 #[r.k, r.s, r.a, r.b, r.n, r.p.q, r.p.i, r.p.h, r.p.pair]
 have HO1 := Zh (HO0.out.below hb)
 replace HS0 := Zh (HS0.out.below hb)
 have HB1 := Zt HB0 hb
 have KR1 := Zh hk
 clear hb hk HO0 HB0
 clear HS0
 have HP := Zh HM.out.2.1
 have HN := Zh HM.out.2.2.2.1
 have hnl32 : nl <= 32 := by have h2 : s.l.length = nl := HW.out.nl; have := HM.out.2.2.2.2.1; omega
 have HLS := Zh (show ∀ x ∈ s.l, s.now < x.t + s.p.i from fun x hx => (HM.out.2.2.2.2.2.2.1 x hx).2.2.2.2.2.2.2.1)
 have HLT := Zh (show ∀ x ∈ s.l, 0 <= x.t /\ x.t <= s.now from fun x hx => by have := HM.out.2.2.2.2.2.2.1 x hx; unfold Y.okL at this; omega)
 have HRN := Zh (show W.new s.now = (s.now, true) from by unfold W.new; rw [if_pos HN.out])
 have cn := zja s.now w1
 rw [HRN.out] at cn
 have c12 := Zv HO1.out.k 12 (.int .i64 s.now)
 have c14 := Zv HO1.out.k 14 (.slice al nl cl)
 go_enter Tryz.func84, Tryz.ntmps84
 go_wp2_with fail
 try rw [hw1]
 refine (cn).mono ?_
 rintro e w2 ⟨rfl, hb⟩
 have HO2 := Zh (HO1.out.below hb)
 have KR2 := Zk KR1 hb
 have HB2 := Zt HB1 hb
 clear hb HO1 KR1 HB1
 clear cn c12 c14
 try clear hw1
 have hcr : w.heap.size < w2.heap.size := KR2.out.lt
 have hbc : b < w2.heap.size := HO2.out.k.lt
 have KN := Blok.new w2 151 #[(), .slice none 0 0]
 have n0 : (w2.alloc (.cells #[(), .slice none 0 0] 151)).cell? ⟨w2.heap.size, 0, none⟩ = some (.int .i64 0) := KN.cell 0
 have n1 : (w2.alloc (.cells #[(), .slice none 0 0] 151)).cell? ⟨w2.heap.size, 1, none⟩ = some (.slice none 0 0) := KN.cell 1
 have nf0 := KN.frozen 0
 have nf1 := KN.frozen 1
 go_wp2_with fail
 clear n0 n1 nf0 nf1 KN
 obtain ⟨w3, hw3, hb, hk⟩ := Zn w2 151 #[s.now, .slice none 0 0]
 have HO3 := Zh (HO2.out.below hb)
 have KR3 := Zk KR2 hb
 have HB3 := Zt HB2 hb
 have KC3 := Zh hk
 clear hb hk HO2 KR2 HB2
 rw [hw3]
 clear hw3
 have HT3 := Zh (TIn.nil w3)
 go_loopw [30] (fun i wr => ∃ (j : Nat) (T : List W.Tm) (aT : Option Addr) (nT cT : Nat), i = .int .i64 j /\ j <= nl /\ Hid (Y.Tk s.l s.p.i j T) /\ Hid (TIn wr aT nT cT T) /\ Hid (Blok wr w2.heap.size 151 #[s.now, .slice aT nT cT]) /\ Hid (Blok wr w.heap.size 34 #[r.k, r.s, r.a, r.b, r.n, r.p.q, r.p.i, r.p.h, r.p.pair]) /\ Hid (Y.Own3 wr H0 b s ⟨ap, np, cp, al, nl, cl, ah, nh, ch⟩) /\ Hid (Below w.heap.size w wr)) (fun i _ => nl - (intOf i).toNat)
 case atStart => exact ⟨0, [], none, 0, 0, rfl, by omega, Zh (Y.Tk.nil _ _), HT3, KC3, KR3, HO3, HB3⟩
 case round =>
  obtain ⟨j, T, aT, nT, cT, rfl, hj, HTK, HT7, KC7, KR7, HO7, HB7⟩ := hrel
  clear HT3 KC3 KR3 HO3 HB3
  have hnT : nT <= j := by have h1 := HT7.out.1; have h2 := HTK.out.2.1; omega
  have hcw : w2.heap.size < wr.heap.size := KC7.out.lt
  by_cases hlt : j < nl
  rotate_left
  ·have dj : decide ((j : Int) < (nl : Int)) = false := by simp; omega
   have HTN : Hid (Y.Tk s.l s.p.i s.l.length T) := Zh (by have h := HTK.out; have h2 : s.l.length = nl := HW.out.nl; rw [show j = s.l.length by omega] at h; exact h)
   have hmay : W.may s.now T = true := W.may_iff.2 (HTN.out.may HN.out (by have h2 : s.l.length = nl := HW.out.nl; omega) HLS.out)
   have cs := zku s.now r.n aT nT cT T wr HT7.out (by omega)
   have k0 := Zv KC7.out 0 (.int .i64 s.now)
   have k1 := Zv KC7.out 1 (.slice aT nT cT)
   have r4 := Zv KR7.out 4 (.int .i64 r.n)
   by_cases hn : r.n < s.now \/ 1073741824 < r.n
   rotate_left
   ·have hst : W.step s.now T r.n = ((r.n, W.left r.n T), W.due r.n T, 0) := by unfold W.step; rw [if_neg (by rw [hmay]; simp), if_neg hn]
    rw [hst] at cs
    clear hst hmay
    go_wp2_with fail
    refine (cs).mono ?_
    rintro e w8 ⟨a2, n2, c2, a3, n3, c3, rfl, -, hT3, hO3, hb⟩
    have HT8 := Zh (HT7.out.below hb)
    have KC8 := Zk KC7 hb
    have KR8 := Zk KR7 hb
    have HO8 := Zh (HO7.out.below hb)
    have HB8 := Zt HB7 hb
    clear hb HT7 KC7 KR7 HO7 HB7
    have HD8 := hT3
    have HQ8 := hO3
    clear cs k0 k1 r4 hT3 hO3
    have e10 : ((10 : Int) == 0) = false := by decide
    have e00 : ((0 : Int) == 0) = true := by decide
    have KN := Blok.new w8 151 #[(), .slice none 0 0]
    have n0 : (w8.alloc (.cells #[(), .slice none 0 0] 151)).cell? ⟨w8.heap.size, 0, none⟩ = some (.int .i64 0) := KN.cell 0
    have n1 : (w8.alloc (.cells #[(), .slice none 0 0] 151)).cell? ⟨w8.heap.size, 1, none⟩ = some (.slice none 0 0) := KN.cell 1
    have nf0 := KN.frozen 0
    have nf1 := KN.frozen 1
    go_wp2_with fail
    clear n0 n1 nf0 nf1 KN
    obtain ⟨w9, hw9, hb, hk⟩ := Zn w8 151 #[r.n, .slice a2 n2 c2]
    have HT9 := Zh (HT8.out.below hb)
    have KC9 := Zk KC8 hb
    have KR9 := Zk KR8 hb
    have HO9 := Zh (HO8.out.below hb)
    replace HD8 := Zh (HD8.out.below hb)
    replace HQ8 := Zh (zab HQ8.out hb)
    have HB9 := Zt HB8 hb
    have KW9 := Zh hk
    clear hb hk HT8 KC8 KR8 HO8 HB8
    rw [hw9]
    clear hw9
    refine (zag 0 _).mono ?_
    rintro e w10 ⟨rfl, hb⟩
    have HT10 := Zh (HT9.out.below hb)
    have KC10 := Zk KC9 hb
    have KR10 := Zk KR9 hb
    have HO10 := Zh (HO9.out.below hb)
    replace HD8 := Zh (HD8.out.below hb)
    replace HQ8 := Zh (zab HQ8.out hb)
    replace KW9 := Zk KW9 hb
    have HB10 := Zt HB9 hb
    clear hb HT9 KC9 KR9 HO9 HB9
    clear e10 e00
    obtain ⟨D, hD⟩ : ∃ D, W.due r.n T = D := ⟨_, rfl⟩
    obtain ⟨G, hG⟩ : ∃ G, Y.gone s.l r.n T = G := ⟨_, rfl⟩
    have HGL : Hid (G.length = n3) := Zh (by rw [<- hG, Y.gone_len]; exact HD8.out.1)
    have HRUN := Zh (Y.gone_run HM.out.2.2.2.2.2.1 HTN.out (by omega : r.n <= 1073741824))
    have hn3 : n3 <= 32 := by
     have h1 : (W.due r.n T).length = n3 := HD8.out.1
     have h2 : (W.due r.n T).length <= T.length := List.length_filter_le _ _
     have h3 := HT10.out.1
     omega
    have HGA := Zh (fun (k : Nat) (t : W.Tm) (ht : (W.due r.n T)[k]? = some t) => Y.gone_at HTN.out ht)
    rw [hG] at HRUN HGA
    rw [hD] at HD8 HQ8 HGA
    have HDN : Hid (∀ t ∈ D, t.2 <= r.n) := Zh (fun t ht => by rw [<- hD] at ht; unfold W.due at ht; exact of_decide_eq_true (List.mem_filter.1 ht).2)
    have hbw : b < w10.heap.size := HO10.out.k.lt
    have hrw : w.heap.size < w10.heap.size := KR10.out.lt
    have HKL : Hid (∀ w9, KpL w10.heap.size b w10 w9 -> RIn w9 al nl cl s.l) := Zh (fun w9 hk => hk.rin (HO10.out.i.l : RIn w10 al nl cl s.l) (.inr fun q hq => by
     have e1 : (Value.slice al nl cl).ownBlock = some q.block := by rw [hq]; rfl
     exact ⟨((HO10.out.rl : w10.ownsRow H0 58 5 (.slice al nl cl) nl (L.flat s.l)).lt q.block e1).2, za4 (HO10.out.rl : w10.ownsRow H0 58 5 (.slice al nl cl) nl (L.flat s.l)) HO10.out.k (by decide) e1⟩))
    have HKD : Hid (∀ w9, KpL w10.heap.size b w10 w9 -> TIn w9 a3 n3 c3 D) := Zh (fun w9 hk => hk.tin HD8.out (fun q hq => by
     have e1 : (Value.slice a3 n3 c3).ownBlock = some q.block := by rw [hq]; rfl
     have h2 := HQ8.out.lt q.block e1
     exact ⟨h2.2, by omega⟩))
    go_wp2_with fail
    go_loopw [65] (fun i wr => ∃ (q : Nat) (A' : Y.A9) (ve' : Value), i = .int .i64 q /\ q <= n3 /\ Hid (Y.WIn wr w10.heap.size b (Y.freeAll s.p.i (G.take q) s) A' ((G.take q).map fun x => Y.evF x (x.t + s.p.i)) ve' 0 0) /\ Hid (KpL w10.heap.size b w10 wr) /\ Hid (Y.Up H0 A')) (fun i _ => n3 - (intOf i).toNat)
    case atStart => exact ⟨0, _, _, rfl, by omega, Zh (HO10.out.win hbw (Nat.le_refl _)), Zh (KpL.of_below (Below.refl _ _) (Nat.le_refl _)), Zh HW.out.up⟩
    case round =>
     obtain ⟨q, A', ve', rfl, hq, HWI, HKr, HUr⟩ := hrel
     by_cases hlt2 : q < n3
     rotate_left
     ·have dq : decide ((q : Int) < (n3 : Int)) = false := by simp; omega
      rw [List.take_of_length_le (by have := HGL.out; omega : G.length <= q)] at HWI
      obtain ⟨S2, hS2⟩ : ∃ S2, Y.freeAll s.p.i G s = S2 := ⟨_, rfl⟩
      obtain ⟨evs, hev⟩ : ∃ l, G.map (fun x => Y.evF x (x.t + s.p.i)) = l := ⟨_, rfl⟩
      have hhl := (Y.freeAll_lens s.p.i G s).2
      have hevl : evs.length = n3 := by rw [<- hev, List.length_map]; exact HGL.out
      rw [hS2, hev] at HWI HRUN
      rw [hS2] at hhl
      have HEV : Hid (∀ e ∈ evs, e.k ≠ 0) := Zh (by rw [<- hev]; intro e he; obtain ⟨x, _, rfl⟩ := List.mem_map.1 he; show (1 : Int) ≠ 0; decide)
      clear hS2 hev
      obtain ⟨ap2, np2, cp2, al2, nl2, cl2, ah2, nh2, ch2⟩ := A'
      have hh2 : nh2 <= 1000 := by have h1 : S2.h.length = nh2 := HWI.out.i.h.1; have h2 : s.h.length = nh := HW.out.nh; have h3 := HGL.out; omega
      obtain ⟨k2, hk2⟩ : ∃ k, L.clean S2.h r.n = k := ⟨_, rfl⟩
      obtain ⟨n5, hn5⟩ : ∃ n, k2.length = n := ⟨_, rfl⟩
      have HTE : Hid (Y.tick s r.n = ({ S2 with now := r.n, h := k2 }, evs, 0, (n3 : Int), 0)) := Zh (by unfold Y.tick; rw [if_neg hn, HRUN.out]; simp only []; rw [hk2, hevl])
      have r4 : wr.cell? ⟨w.heap.size, 4, none⟩ = some (.int .i64 r.n) := zai (KR10.out.cell 4) HKr.out hrw (by omega)
      have c12 := Zv HWI.out.k 12 (.int .i64 S2.now)
      have f12 := HWI.out.k.frozen 12
      obtain ⟨hwn, hkn⟩ := HWI.out.now r.n
      go_wp2_with fail
      have d4 : (wr.setCell ⟨b, 12, none⟩ (.int .i64 r.n)).cell? ⟨w.heap.size, 4, none⟩ = some (.int .i64 r.n) := zdh r4 (by simp; omega)
      obtain ⟨v1, hv1⟩ : ∃ W, wr.setCell ⟨b, 12, none⟩ (.int .i64 r.n) = W := ⟨_, rfl⟩
      rw [hv1] at hwn hkn d4 ⊢
      have HW1 := Zh hwn
      have HK1 := Zh (HKr.out.t hkn)
      clear hwn hkn hv1 r4 c12 f12
      skip
      refine Zd (fun w' => w'.cell? ⟨w.heap.size, 4, none⟩ = some (.int .i64 r.n)) (d4) fun RS0 => ?_
      refine Zq 0 b 0 RS0 ?_
      refine Zq 1 b 0 RS0 ?_
      refine Zq 2 b 0 RS0 ?_
      refine Zq 3 b 0 RS0 ?_
      refine Zq 4 b 15 RS0 ?_
      refine Zq 6 w.heap.size 4 RS0 ?_
      refine Zl 7 (.int .i64 r.n) rfl (fun w9 hS => by
         have y4 := hS
         go_simp) RS0 ?_
      have c15 : (World.drew v1).cell? ⟨b, 15, none⟩ = some (.slice ah2 nh2 ch2) := HW1.out.k.cell 15
      refine zat (i := 5) (v := .slice ah2 nh2 ch2) (by kernel_rfl) rfl (by kernel_rfl) (by go_simp) RS0 ?_
      clear c15
      refine Zc 8 143 #[.slice ah2 nh2 ch2, r.n] (zig ah2 nh2 ch2 S2.h k2 r.n hk2 _ ((HW1.out.i.h : RIn v1 ah2 nh2 ch2 S2.h).below (zaa v1)) hh2) ?_
      rintro e v2 ⟨v, rfl, ho, hb⟩
      rw [hn5] at ho
      obtain ⟨a5, c5, rfl, hr⟩ := zdl ho.out hn5
      have hb2 : Below v1.heap.size v1 v2 := (zaa v1).trans hb
      refine Zu (zap RS0 hb) fun RS1 => ?_
      refine Zq 9 b 0 RS1 ?_
      refine Zq 10 b 0 RS1 ?_
      refine Zq 11 b 15 RS1 ?_
      have HU5 : Hid (∀ q, a5 = some q -> H0 <= q.block) := Zh (fun q hq => by have h1 := (ho.out.lt q.block (by rw [hq]; rfl)).1; have h2 := (zaa v1).size; have h3 := HW1.out.hh; have h4 := HH0.out; have h5 := HB10.out.size; omega)
      have h3s : b < v1.heap.size := HW1.out.k.lt
      have hofb : Y.Off b a5 := Y.off_own ho.out (show b < _ from by have := zaa v1 |>.size; omega)
      have hoff : ∀ q, ve'.ownBlock = some q -> Y.OffL q a5 k2 := fun q hq => .inr (Y.off_own ho.out (show q < _ from by have := (HW1.out.ev.lt q hq).2; have := zaa v1 |>.size; omega))
      obtain ⟨hw, kw⟩ := HW1.out.h hb2 hr hofb hoff
      have c15 : v2.cell? ⟨b, 15, none⟩ = some (.slice ah2 nh2 ch2) := zap (HW1.out.k.cell 15) hb2
      have f15 : v2.frozen? ⟨b, 15, none⟩ = false := (HW1.out.k.below hb2 HW1.out.k.lt).frozen 15
      have RS2 : (fun w' => w'.cell? ⟨w.heap.size, 4, none⟩ = some (.int .i64 r.n)) (v2.setCell ⟨b, 15, none⟩ (.slice a5 n5 c5)) := zdh RS1 (by simp; omega)
      refine zaf (i := 12) (by kernel_rfl) (zah (w' := v2.setCell ⟨b, 15, none⟩ (.slice a5 n5 c5)) rfl (by kernel_rfl) (by go_simp) ⟨RS2, ?_⟩)
      refine wpAnyH_done (by kernel_rfl) ?_ _
      have HW3 := Zh hw
      have HK3 := Zh (HK1.out.t kw)
      obtain ⟨v3, hv3⟩ : ∃ W, v2.setCell ⟨b, 15, none⟩ (.slice a5 n5 c5) = W := ⟨_, rfl⟩
      rw [hv3] at HW3 HK3 ⊢
      clear hv3 hw kw hr ho hb hb2 hoff hofb c15 f15 d4
      have c18 := Zv HW3.out.k 18 (.int .i64 0)
      have f18 := HW3.out.k.frozen 18
      obtain ⟨hx4, kx4⟩ := HW3.out.x (n3 : Int)
      have HF := Zh hx4.fin
      have HBF := Zh (KpL.to_below (HB10.out.mono HH0.out) (HK3.out.t kx4) (Nat.le_trans HH0.out HB10.out.size) HW.out.h0)
      clear hx4 kx4
      go_wp2
      first | go_end0 | skip
      exact Y.Ends.yes HTE.out HBF.out HF.out ⟨HUr.out.1, HUr.out.2.1, HU5.out⟩ (.inr HEV.out)
     have dq : decide ((q : Int) < (n3 : Int)) = true := by simp; omega
     obtain ⟨g3, o3, t, ha3, hg3, ht, t0, t1⟩ := TIn.at (HKD.out wr HKr.out) hlt2
     subst ha3
     obtain ⟨m, z, hz, rfl, hgq⟩ := HGA.out q t ht
     have hzn : z.t + s.p.i <= r.n := HDN.out _ (List.mem_of_getElem? ht)
     have hmn : m < nl := by have := (List.getElem?_eq_some_iff.1 hz).1; have h2 : s.l.length = nl := HW.out.nl; omega
     obtain ⟨g0, off, z2, hal, -, hz2, -, -⟩ := Y.at5q (HKL.out wr HKr.out) hmn
     subst hal
     obtain rfl : z = z2 := Option.some.inj (hz.symm.trans hz2)
     have HZ := Zh hz
     have HGQ := Zh hgq
     have HZT : Hid (0 <= z.t + s.p.i /\ z.t + s.p.i <= 4294967296) := Zh (by have h1 := HLT.out z (List.mem_of_getElem? hz); have h2 := HP.out; unfold Y.MayP at h2; omega)
     clear ht hz hz2 hgq
     have q0 : (0 : Int) <= q := by omega
     have q1 : (q : Int) < n3 := by omega
     have m0 : (0 : Int) <= m := by omega
     have m1 : (m : Int) < nl := by omega
     simp only [] at t0 t1
     obtain ⟨w12, hw12⟩ : ∃ W, wr.alloc (.cells #[.int .i64 (m : Int), .int .i64 (z.t + s.p.i)] 159) = W := ⟨_, rfl⟩
     have hb : Below wr.heap.size wr w12 := by rw [<- hw12]; exact (Below.refl _ wr).alloc (Nat.le_refl _) _
     have KT12 : Hid (Blok w12 wr.heap.size 159 #[.int .i64 (m : Int), .int .i64 (z.t + s.p.i)]) := Zh (by rw [<- hw12]; exact Blok.new wr _ _)
     have HW12 := Zh (HWI.out.below hb)
     have HK12 := Zh (HKr.out.t (KpL.of_below hb HWI.out.hh))
     clear hb
     go_wp2_with fail
     try rw [hw12]
     try clear hw12
     refine Zd (fun w' => KpL w10.heap.size b w10 w') (HK12.out.t (KpL.of_below (zaa w12) HW12.out.hh)) fun RS0 => ?_
     clear t0 t1
     have z0 : (World.drew w12).cell? ⟨wr.heap.size, 0, none⟩ = some (.int .i64 (m : Int)) := KT12.out.cell 0
     have z1 : (World.drew w12).cell? ⟨wr.heap.size, 1, none⟩ = some (.int .i64 (z.t + s.p.i)) := KT12.out.cell 1
     have HLZ : Hid (∀ w9, KpL w10.heap.size b w10 w9 -> _) := Zh (fun w9 hk => Y.ls_at (HKL.out w9 hk) HZ.out)
     refine Zq 0 b 0 RS0 ?_
     refine tk 1 (.slice (some ⟨g0, off, none⟩) nl cl) RS0 ?_
     refine Zq 2 wr.heap.size 0 RS0 ?_
     refine Zq 6 wr.heap.size 1 RS0 ?_
     refine za8 (i := 3) (j := 7) (by kernel_rfl) ?_ ?_
     ·skip
      refine zam (v := .int .i64 (m : Int)) (w' := World.drew w12) rfl (by kernel_rfl) (by go_simp) ⟨RS0, ?_⟩
      refine wpAnyH_take (i := 4) (v := .pointer (some ⟨g0, off + m * 5, none⟩)) rfl (by kernel_rfl) (by kernel_rfl) (by kernel_rfl) (fun _ _ _ h => h) (.inl ⟨by kernel_rfl, fun w9 hS => by go_simp⟩) RS0 ?_
      refine Zl 5 (.agg #[z.s, z.a, z.b, z.f, z.t]) rfl (fun w9 hS => by
         obtain ⟨p0, p1, p2, p3, p4⟩ := HLZ.out w9 hS
         go_simp) RS0 ?_
      refine zat (i := 7) (v := .int .i64 (z.t + s.p.i)) (by kernel_rfl) rfl (by kernel_rfl) (by go_simp) RS0 ?_
      clear z0 z1
      refine Zc 8 139 #[.pointer (some ⟨b, 0, none⟩), .agg #[z.s, z.a, z.b, z.f, z.t], .int .i64 (z.t + s.p.i)] (zcw w10.heap.size b (Y.freeAll s.p.i (G.take q) s) A' ((G.take q).map fun x => Y.evF x (x.t + s.p.i)) ve' 0 0 z (z.t + s.p.i) _ (HW12.out.below (zaa w12)) ⟨by have h1 := (Y.freeAll_lens s.p.i (G.take q) s).1; have h2 : s.l.length = nl := HW.out.nl; omega, by have h1 := (Y.freeAll_lens s.p.i (G.take q) s).2; have h2 := Y.held_len HM.out; have h3 := List.length_take_le q G; omega, by rw [List.length_map]; have h3 := List.length_take_le q G; omega⟩ HZT.out (by rw [(Y.freeAll_keep s.p.i (G.take q) s).2.1]; have := HP.out; unfold Y.MayP at this; omega)) ?_
      rintro e w13 ⟨rfl, A3, v3, hwn, hk3, hu3⟩
      refine Zu (KpL.t RS0 hk3) fun RS1 => ?_
      refine wpAnyH_done (by kernel_rfl) ?_ _
      have htk : G.take (q + 1) = G.take q ++ [z] := by rw [List.take_add_one, HGQ.out]; rfl
      have HWI2 : Hid (Y.WIn w13 w10.heap.size b (Y.freeAll s.p.i (G.take (q + 1)) s) A3 ((G.take (q + 1)).map fun x => Y.evF x (x.t + s.p.i)) v3 0 0) := Zh (by rw [htk, Y.freeAll_snoc, List.map_append]; exact hwn)
      have HU2 : Hid (Y.Up H0 A3) := Zh ⟨fun q hq => HUr.out.1 q (hu3.2.1.symm.trans hq), fun q hq => Nat.le_trans HH0.out (Nat.le_trans HB10.out.size (hu3.1 q hq)), fun q hq => hu3.2.2.elim (fun e => HUr.out.2.2 q (e.symm.trans hq)) (fun e => Nat.le_trans HH0.out (Nat.le_trans HB10.out.size (e q hq)))⟩
      clear hu3
      have HK2 : Hid (KpL w10.heap.size b w10 w13) := Zh RS1
      clear hwn hk3 htk
      go_wp2
      go_roundw
      case rel => exact ⟨q + 1, A3, v3, by go_num, by omega, HWI2, HK2, HU2⟩
      case measure => simp [intOf] <;> omega
     ·skip
      refine zam (v := .int .i64 (z.t + s.p.i)) (w' := World.drew w12) rfl (by kernel_rfl) (by go_simp) ⟨RS0, ?_⟩
      refine zat (i := 3) (v := .int .i64 (m : Int)) (by kernel_rfl) rfl (by kernel_rfl) (by go_simp) RS0 ?_
      refine wpAnyH_take (i := 4) (v := .pointer (some ⟨g0, off + m * 5, none⟩)) rfl (by kernel_rfl) (by kernel_rfl) (by kernel_rfl) (fun _ _ _ h => h) (.inl ⟨by kernel_rfl, fun w9 hS => by go_simp⟩) RS0 ?_
      refine Zl 5 (.agg #[z.s, z.a, z.b, z.f, z.t]) rfl (fun w9 hS => by
         obtain ⟨p0, p1, p2, p3, p4⟩ := HLZ.out w9 hS
         go_simp) RS0 ?_
      clear z0 z1
      refine Zc 8 139 #[.pointer (some ⟨b, 0, none⟩), .agg #[z.s, z.a, z.b, z.f, z.t], .int .i64 (z.t + s.p.i)] (zcw w10.heap.size b (Y.freeAll s.p.i (G.take q) s) A' ((G.take q).map fun x => Y.evF x (x.t + s.p.i)) ve' 0 0 z (z.t + s.p.i) _ (HW12.out.below (zaa w12)) ⟨by have h1 := (Y.freeAll_lens s.p.i (G.take q) s).1; have h2 : s.l.length = nl := HW.out.nl; omega, by have h1 := (Y.freeAll_lens s.p.i (G.take q) s).2; have h2 := Y.held_len HM.out; have h3 := List.length_take_le q G; omega, by rw [List.length_map]; have h3 := List.length_take_le q G; omega⟩ HZT.out (by rw [(Y.freeAll_keep s.p.i (G.take q) s).2.1]; have := HP.out; unfold Y.MayP at this; omega)) ?_
      rintro e w13 ⟨rfl, A3, v3, hwn, hk3, hu3⟩
      refine Zu (KpL.t RS0 hk3) fun RS1 => ?_
      refine wpAnyH_done (by kernel_rfl) ?_ _
      have htk : G.take (q + 1) = G.take q ++ [z] := by rw [List.take_add_one, HGQ.out]; rfl
      have HWI2 : Hid (Y.WIn w13 w10.heap.size b (Y.freeAll s.p.i (G.take (q + 1)) s) A3 ((G.take (q + 1)).map fun x => Y.evF x (x.t + s.p.i)) v3 0 0) := Zh (by rw [htk, Y.freeAll_snoc, List.map_append]; exact hwn)
      have HU2 : Hid (Y.Up H0 A3) := Zh ⟨fun q hq => HUr.out.1 q (hu3.2.1.symm.trans hq), fun q hq => Nat.le_trans HH0.out (Nat.le_trans HB10.out.size (hu3.1 q hq)), fun q hq => hu3.2.2.elim (fun e => HUr.out.2.2 q (e.symm.trans hq)) (fun e => Nat.le_trans HH0.out (Nat.le_trans HB10.out.size (e q hq)))⟩
      clear hu3
      have HK2 : Hid (KpL w10.heap.size b w10 w13) := Zh RS1
      clear hwn hk3 htk
      go_wp2
      go_roundw
      case rel => exact ⟨q + 1, A3, v3, by go_num, by omega, HWI2, HK2, HU2⟩
      case measure => simp [intOf] <;> omega
   ·have hst : W.step s.now T r.n = ((s.now, T), [], 10) := by unfold W.step; rw [if_neg (by rw [hmay]; simp), if_pos hn]
    rw [hst] at cs
    clear hst hmay
    go_wp2_with fail
    refine (cs).mono ?_
    rintro e w8 ⟨a2, n2, c2, a3, n3, c3, rfl, -, hT3, hO3, hb⟩
    have HT8 := Zh (HT7.out.below hb)
    have KC8 := Zk KC7 hb
    have KR8 := Zk KR7 hb
    have HO8 := Zh (HO7.out.below hb)
    have HB8 := Zt HB7 hb
    clear hb HT7 KC7 KR7 HO7 HB7
    have HD8 := hT3
    have HQ8 := hO3
    clear cs k0 k1 r4 hT3 hO3
    have e10 : ((10 : Int) == 0) = false := by decide
    have e00 : ((0 : Int) == 0) = true := by decide
    have KN := Blok.new w8 151 #[(), .slice none 0 0]
    have n0 : (w8.alloc (.cells #[(), .slice none 0 0] 151)).cell? ⟨w8.heap.size, 0, none⟩ = some (.int .i64 0) := KN.cell 0
    have n1 : (w8.alloc (.cells #[(), .slice none 0 0] 151)).cell? ⟨w8.heap.size, 1, none⟩ = some (.slice none 0 0) := KN.cell 1
    have nf0 := KN.frozen 0
    have nf1 := KN.frozen 1
    go_wp2_with fail
    clear n0 n1 nf0 nf1 KN
    obtain ⟨w9, hw9, hb, hk⟩ := Zn w8 151 #[s.now, .slice a2 n2 c2]
    have HT9 := Zh (HT8.out.below hb)
    have KC9 := Zk KC8 hb
    have KR9 := Zk KR8 hb
    have HO9 := Zh (HO8.out.below hb)
    replace HD8 := Zh (HD8.out.below hb)
    replace HQ8 := Zh (zab HQ8.out hb)
    have HB9 := Zt HB8 hb
    have KW9 := Zh hk
    clear hb hk HT8 KC8 KR8 HO8 HB8
    rw [hw9]
    clear hw9
    refine (za0 10 _).mono ?_
    rintro e w10 ⟨rfl, hb⟩
    have HT10 := Zh (HT9.out.below hb)
    have KC10 := Zk KC9 hb
    have KR10 := Zk KR9 hb
    have HO10 := Zh (HO9.out.below hb)
    replace HD8 := Zh (HD8.out.below hb)
    replace HQ8 := Zh (zab HQ8.out hb)
    replace KW9 := Zk KW9 hb
    have HB10 := Zt HB9 hb
    clear hb HT9 KC9 KR9 HO9 HB9
    clear e10 e00
    go_wp2
    exact ⟨rfl, Y.Ends.no (by unfold Y.tick; rw [if_pos hn]) (by decide) (HB10.out.mono HH0.out)⟩
  have dj : decide ((j : Int) < (nl : Int)) = true := by simp; omega
  obtain ⟨g0, off, x, hal, hgl, hx, ⟨p0, p1, p2, p3, p4⟩, -⟩ := Y.at5q (HO7.out.i.l : RIn wr al nl cl s.l) hlt
  subst hal
  have HX := Zh hx
  clear hx
  have j0 : (0 : Int) <= j := by omega
  have j1 : (j : Int) < nl := by omega
  obtain ⟨w8, hw8, hb, hk⟩ := Zn wr 58 #[x.s, x.a, x.b, x.f, x.t]
  have HT8 := Zh (HT7.out.below hb)
  have KC8 := Zk KC7 hb
  have KR8 := Zk KR7 hb
  have HO8 := Zh (HO7.out.below hb)
  have HB8 := Zt HB7 hb
  have KX8 := Zh hk
  clear hb hk HT7 KC7 KR7 HO7 HB7
  go_wp2_with fail
  try rw [hw8]
  try clear hw8
  refine Zd (fun w' => Blok w' wr.heap.size 58 #[x.s, x.a, x.b, x.f, x.t] /\ w'.cell? ⟨b, 9, none⟩ = some (.int .i64 s.p.i)) (⟨KX8.out.drew, HO8.out.k.cell 9⟩) fun RS0 => ?_
  clear p0 p1 p2 p3 p4
  have hwr : IntKind.i64.wrap (x.t + s.p.i) = x.t + s.p.i := by have h1 := HLT.out x (List.mem_of_getElem? HX.out); have h2 := HP.out; have h3 := HN.out; unfold Y.MayP at h2; rw [IntKind.wrap_i64]; omega
  refine tk 1 (.int .i64 (j : Int)) RS0 ?_
  refine Zq 2 wr.heap.size 4 RS0 ?_
  refine Zl 3 (.int .i64 x.t) rfl (fun w9 hS => by
     have y4 := Zv hS.1 4 (.int .i64 x.t)
     go_simp) RS0 ?_
  refine Zq 4 b 0 RS0 ?_
  refine Zq 5 b 0 RS0 ?_
  refine Zq 6 b 0 RS0 ?_
  refine Zq 7 b 8 RS0 ?_
  refine Zq 8 b 9 RS0 ?_
  refine Zl 9 (.int .i64 s.p.i) rfl (fun w9 hS => by
     have y9 := hS.2
     go_simp) RS0 ?_
  refine wpAnyH_take (i := 10) (v := .int .i64 (x.t + s.p.i)) rfl (by kernel_rfl) (by kernel_rfl) (by kernel_rfl) (fun _ _ _ h => h) (.inl ⟨by kernel_rfl, fun w9 hS => by go_simp⟩) RS0 ?_
  have k0 : (World.drew w8).cell? ⟨w2.heap.size, 0, none⟩ = some (.int .i64 s.now) := KC8.out.cell 0
  have k1 : (World.drew w8).cell? ⟨w2.heap.size, 1, none⟩ = some (.slice aT nT cT) := KC8.out.cell 1
  refine zat (i := 0) (v := .agg #[s.now, .slice aT nT cT]) (by kernel_rfl) rfl (by kernel_rfl) (by go_simp) RS0 ?_
  clear k0 k1
  have ca := zlo s.now (j : Int) (x.t + s.p.i) aT nT cT T (World.drew w8) (HT8.out.below (zaa w8)) (by omega)
  obtain ⟨T2, er, hadd⟩ : ∃ T2 er, W.add s.now T (j : Int) (x.t + s.p.i) = (T2, er) := ⟨_, _, rfl⟩
  rw [hadd] at ca
  have HAD := Zh hadd
  clear hadd
  refine Zc 11 141 #[.agg #[s.now, .slice aT nT cT], .int .i64 (j : Int), .int .i64 (x.t + s.p.i)] (ca) ?_
  rintro e w9 ⟨a2, n2, c2, rfl, hT, hb⟩
  have hb2 : Below w8.heap.size w8 w9 := (zaa w8).trans hb
  refine Zu (⟨Blok.below (And.left RS0) hb (Blok.lt (And.left RS0)), zap (And.right RS0) hb⟩) fun RS1 => ?_
  refine tk 12 (.tuple #[.agg #[s.now, .slice a2 n2 c2], er]) RS1 ?_
  refine tk 13 (.agg #[s.now, .slice a2 n2 c2]) RS1 ?_
  refine tk 14 (.int .i64 er) RS1 ?_
  have KC9 := KC8.out.below hb2 KC8.out.lt
  have k0 := Zv KC9 0 (.int .i64 s.now)
  have k1 := Zv KC9 1 (.slice aT nT cT)
  have kf0 := KC9.frozen 0
  have kf1 := KC9.frozen 1
  have RS2 : (fun w' => Blok w' wr.heap.size 58 #[x.s, x.a, x.b, x.f, x.t] /\ w'.cell? ⟨b, 9, none⟩ = some (.int .i64 s.p.i)) ((w9.setCell ⟨w2.heap.size, 0, none⟩ (.int .i64 s.now)).setCell ⟨w2.heap.size, 1, none⟩ (.slice a2 n2 c2)) := ⟨Blok.far (Blok.far (And.left RS1) (by simp; omega) _) (by simp; omega) _, zdh (zdh (And.right RS1) (by simp; omega)) (by simp; omega)⟩
  refine zaf (i := 15) (by kernel_rfl) (zah (w' := (w9.setCell ⟨w2.heap.size, 0, none⟩ (.int .i64 s.now)).setCell ⟨w2.heap.size, 1, none⟩ (.slice a2 n2 c2)) rfl (by kernel_rfl) (by go_simp) ⟨RS2, ?_⟩)
  refine wpAnyH_done (by kernel_rfl) ?_ _
  have gst : w9.grownBy ((w9.setCell ⟨w2.heap.size, 0, none⟩ (.int .i64 s.now)).setCell ⟨w2.heap.size, 1, none⟩ (.slice a2 n2 c2)) (some w2.heap.size) := (grown_set _ _ _ _).trans (grown_set _ _ _ _)
  have KC10 : Hid (Blok ((w9.setCell ⟨w2.heap.size, 0, none⟩ (.int .i64 s.now)).setCell ⟨w2.heap.size, 1, none⟩ (.slice a2 n2 c2)) w2.heap.size 151 #[s.now, .slice a2 n2 c2]) := Zh (by have := (KC9.set 0 (.int .i64 s.now)).set 1 (.slice a2 n2 c2); simpa using this)
  have HT10 := Zh (zjk hT.out KC9 gst)
  have HO10 := Zh ((HO8.out.below hb2).far KC9 (by decide) (by decide) (by decide) (by decide) gst)
  have KR10 := Zh ((KR8.out.below hb2 KR8.out.lt).grown gst (by simp; omega))
  have HB10 := Zh ((HB8.out.trans (hb2.mono HB8.out.size)).grown gst (Nat.le_trans HB8.out.size hb2.size) (fun q hq => by cases hq; omega))
  have HTK2 : Hid (Y.Tk s.l s.p.i (j + 1) T2) := Zh (by have := HTK.out.add HN.out (by omega) HLS.out HX.out; rw [HAD.out] at this; exact this)
  obtain ⟨w10, hw10⟩ : ∃ W, (w9.setCell ⟨w2.heap.size, 0, none⟩ (.int .i64 s.now)).setCell ⟨w2.heap.size, 1, none⟩ (.slice a2 n2 c2) = W := ⟨_, rfl⟩
  rw [hw10] at KC10 HT10 HO10 KR10 HB10 ⊢
  clear hw10 gst k0 k1 kf0 kf1 KC9 hb hb2 hT ca
  go_wp2
  go_roundw
  case rel => exact ⟨j + 1, T2, a2, n2, c2, by go_num, by omega, HTK2, HT10, KC10, KR10, HO10, HB10⟩
  case measure => simp [intOf] <;> omega
end Go.Proofs.YtonejangijkdmaaGreat
