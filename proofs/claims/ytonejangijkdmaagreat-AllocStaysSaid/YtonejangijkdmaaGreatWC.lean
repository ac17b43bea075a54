import Derived.Test.YtonejangijkdmaaGreatWB
namespace Go.Proofs.YtonejangijkdmaaGreat
set_option maxHeartbeats 2000000
set_option maxRecDepth 100000
open Go.RowKit
def W.on (f t : Int) (x : W.Tm) : Bool := decide (f < x.2 /\ x.2 <= t)
theorem W.meets_next (f t : Int) (l : List W.Tm) (m k : Nat) (hk : (k : Int) = (f + 1 + (m : Int)) % 16) : W.meets f t l (m + 1) = W.meets f t l m ++ (W.slot (k : Int) l).filter (W.on f t) := by
 rw [W.meets_succ, <- hk]; rfl
theorem W.meets_len (f t : Int) (l : List W.Tm) (m : Nat) (hm : m <= 16) : (W.meets f t l m).length <= l.length := by
 rw [(W.meets_perm f t l m hm).length_eq]; exact List.length_filter_le _ _
theorem zgh {l : List W.Tm} {j : Nat} {x : W.Tm} (p : W.Tm -> Bool) (hx : l[j]? = some x) : (l.take (j + 1)).filter p = (l.take j).filter p ++ (if p x then [x] else []) := by
 obtain ⟨h1, h2⟩ := List.getElem?_eq_some_iff.1 hx
 rw [List.take_succ_eq_append_getElem h1, h2, List.filter_append]
 by_cases h : p x = true
 ·simp [h]
 ·simp [h]
theorem zgi (B rb : Nat) (ff tt : Int) (T R : List W.Tm) (vs : Array Value) (w : World) (hr : Blok w rb 176 vs) (h : zba B T vs w) (hf : 0 <= ff) (hft : ff <= tt) (ht : tt <= 1073741824) (hl : T.length <= 900)
  (hids : W.Ids T) (hR : W.Asc R) (hP : R.Perm (T.filter (W.on ff tt))) :
  Calls Tryz.prog 175 #[.pointer (some ⟨rb, 0, none⟩), .int .i64 ff, .int .i64 tt] w fun e w' => ∃ v, e = .returned v /\ Hid (w'.ownsRow w.heap.size 159 2 v R.length (W.flat R)) /\ Below w.heap.size w w' := by
 have HR0 := Zh hr
 have HW0 := Zh h
 have HIDS := Zh hids
 have HRA := Zh hR
 have HRP := Zh hP
 obtain ⟨M, hM⟩ : ∃ M, min tt (ff + 16) = M := ⟨_, rfl⟩
 have hMM : M = tt /\ tt <= ff + 16 \/ M = ff + 16 /\ ff + 16 <= tt := by omega
 have HMM := Zh hMM
 have hM0 : ff <= M /\ M <= ff + 16 := by omega
 clear hr h hids hR hP hMM
 go_enter Tryz.func175, Tryz.ntmps175
 go_wp2_with fail
 go_loopw [7, 8] (fun s7 s8 wr => ∃ (v : Value) (m : Nat), v = s7 /\ s8 = .int .i64 (ff + 1 + (m : Int)) /\ ff + (m : Int) <= M /\ Hid (wr.ownsRow w.heap.size 159 2 v (W.meets ff tt T m).length (W.flat (W.meets ff tt T m))) /\ Hid (Below w.heap.size w wr)) (fun _ s8 _ => (M + 1 - intOf s8).toNat)
 case atStart => exact ⟨_, 0, rfl, by go_num, by omega, Zh (World.ownsRow_nil _ _ _ _), Zh (Below.refl _ _)⟩
 case round =>
  obtain ⟨v0, m, rfl, rfl, hmM, HO, HB⟩ := hrel
  by_cases hlt : ff + 1 + (m : Int) <= M
  ·have d1 : decide (ff + 1 + (m : Int) <= M) = true := decide_eq_true hlt
   obtain ⟨N, hN⟩ : ∃ N : Nat, ff + 1 + (m : Int) = (N : Int) := ⟨(ff + 1 + (m : Int)).toNat, by omega⟩
   obtain ⟨k, hk⟩ : ∃ k, N % 16 = k := ⟨_, rfl⟩
   have hand : bits .and .i64 (ff + 1 + (m : Int)) 15 = (k : Int) := by rw [hN, zmk N (by omega), hk]
   have hk16 : k < 16 := by omega
   have HK : Hid ((k : Int) = (ff + 1 + (m : Int)) % 16) := Zh (by rw [hN]; omega)
   have k0 : (0 : Int) <= (k : Int) := by omega
   have k1 : (k : Int) < 16 := by omega
   clear hN hk
   have HR := Zh (HR0.out.on' (HB.out.mono (Nat.le_refl _)))
   have hrow := HW0.out.2.1 k hk16
   obtain ⟨a, c, hv⟩ := zao hrow
   have hvk : vs[k]? = some (.slice a (W.slot (k : Int) T).length c) := by rw [<- hv, getElem!_pos vs k (by rw [HW0.out.1]; exact hk16)]; simp
   have r0 : wr.cell? ⟨rb, k, none⟩ = some (.slice a (W.slot (k : Int) T).length c) := by rw [HR.out.cell]; exact hvk
   obtain ⟨a', c', he, htin⟩ := zal hrow rfl
   rw [hv] at he
   cases he
   have HT0 := Zh htin
   clear htin hrow hv hvk
   obtain ⟨S, hS⟩ : ∃ S, W.slot (k : Int) T = S := ⟨_, rfl⟩
   rw [hS] at r0 HT0
   have HS := Zh hS
   have hSl : S.length <= 900 := by rw [<- hS]; exact Nat.le_trans (List.length_filter_le _ _) hl
   clear hS
   obtain ⟨L, hL⟩ : ∃ L, S.length = L := ⟨_, rfl⟩
   rw [hL] at r0 HT0 hSl
   have HL := Zh hL
   clear hL
   go_wp2_with fail
   clear r0
   obtain ⟨wo, rfl⟩ : ∃ w0, w0 = wr := ⟨_, rfl⟩
   go_loopw [7, 28] (fun s7 s28 wx => ∃ (v : Value) (j q : Nat), v = s7 /\ s28 = .int .i64 j /\ j <= L /\ q <= 900 + j /\ Hid ((W.meets ff tt T m ++ (S.take j).filter (W.on ff tt)).length = q) /\ Hid (wx.ownsRow w.heap.size 159 2 v q (W.flat (W.meets ff tt T m ++ (S.take j).filter (W.on ff tt)))) /\ Hid (Below w.heap.size w wx)) (fun _ i _ => L - (intOf i).toNat)
   case atStart => exact ⟨v0, 0, (W.meets ff tt T m).length, rfl, by go_num, by omega, by have := W.meets_len ff tt T m (by omega); omega, Zh (by simp), Zh (by simpa using HO.out), HB⟩
   case round =>
    obtain ⟨v, j, q, rfl, rfl, hjL, hq9, HQ, HOx, HBx⟩ := hrel
    by_cases hjl : j < L
    ·have dj : decide ((j : Int) < L) = true := by simp; omega
     obtain ⟨b, off, x, rfl, hbl, hx, p1, p2⟩ := (HT0.out.below HBx.out).at hjl
     have HX := Zh hx
     have j0 : (0 : Int) <= j := by omega
     have j1 : (j : Int) < L := by omega
     have TB := Zh (zcc wr x)
     have TK := Zh (zct wr x)
     have HBt := Zh (HBx.out.trans (TB.out.mono HBx.out.size))
     have HOt := Zh (zab HOx.out TB.out)
     have b0 := TK.out.b0
     have b1 := TK.out.b1
     unfold tbox at b0 b1
     have hsn := zgh (W.on ff tt) hx
     clear hx
     by_cases hon : ff < x.2 /\ x.2 <= tt
     ·have o1 : decide (ff < x.2) = true := decide_eq_true hon.1
      have o2 : decide (x.2 <= tt) = true := decide_eq_true hon.2
      have HS2 : Hid (W.meets ff tt T m ++ (S.take (j + 1)).filter (W.on ff tt) = (W.meets ff tt T m ++ (S.take j).filter (W.on ff tt)) ++ [x]) := Zh (by
       rw [hsn, show W.on ff tt x = true from decide_eq_true hon, List.append_assoc]; rfl)
      clear hsn
      obtain ⟨acc, hacc⟩ : ∃ acc, W.meets ff tt T m ++ (S.take j).filter (W.on ff tt) = acc := ⟨_, rfl⟩
      rw [hacc] at HQ HOt HS2
      have hqa : acc.length = q := HQ.out
      clear hacc
      go_upto_region 9 with fail
      obtain ⟨V, hV⟩ : ∃ V, wr.alloc (.cells #[.int .i64 x.1, .int .i64 x.2] 159) = V := ⟨_, rfl⟩
      rw [hV] at b0 b1 ⊢
      have HOV : Hid (V.ownsRow w.heap.size 159 2 v q (W.flat acc)) := Zh (by rw [<- hV]; exact HOt.out)
      have HBV : Hid (Below w.heap.size w V) := Zh (by rw [<- hV]; exact HBt.out)
      clear hV
      go_wp2_with (at_builtin; refine zee rfl (.tmp 42) (.tmp 44) 202 rfl Tryz.underlying202 w.heap.size v q acc x (by simp [Act.eval]) (zab HOV.out ((Below.refl _ V).alloc (Nat.le_refl _) _)) V.heap.size 159 (by simp [Act.eval]) (Blok.new V _ _) (by omega) (Nat.le_trans HBV.out.size (by simp)) ?_; intro g cap w3 h1 h2 h3 h4)
      have HB3 : Hid (Below w.heap.size w w3) := Zh ((HBV.out.alloc HBV.out.size _).grown h2 (Nat.le_trans HBV.out.size (by simp)) (fun i hi => (zaz HOV.out hi).1))
      have H1 := Zh h1
      clear h1 h2 h3 h4
      go_wp2
      go_roundw
      case rel => exact ⟨_, j + 1, q + 1, rfl, by go_num, by omega, by omega, Zh (by rw [HS2.out]; simp [hqa]), by rw [HS2.out]; exact H1, HB3⟩
      case measure => simp [intOf] <;> omega
     ·have HS2 : Hid (W.meets ff tt T m ++ (S.take (j + 1)).filter (W.on ff tt) = W.meets ff tt T m ++ (S.take j).filter (W.on ff tt)) := Zh (by
       rw [hsn, show W.on ff tt x = false from decide_eq_false hon]; simp)
      clear hsn
      rw [<- HS2.out] at HQ HOt
      by_cases o1 : ff < x.2
      ·have o1' : decide (ff < x.2) = true := decide_eq_true o1
       have o2 : decide (x.2 <= tt) = false := decide_eq_false (fun h => hon ⟨o1, h⟩)
       go_wp2
       go_roundw
       case rel => exact ⟨_, j + 1, q, rfl, by go_num, by omega, by omega, HQ, HOt, HBt⟩
       case measure => simp [intOf] <;> omega
      ·have o1' : decide (ff < x.2) = false := decide_eq_false o1
       go_wp2
       go_roundw
       case rel => exact ⟨_, j + 1, q, rfl, by go_num, by omega, by omega, HQ, HOt, HBt⟩
       case measure => simp [intOf] <;> omega
    ·have dj : decide ((j : Int) < L) = false := by simp; omega
     have htk : S.take j = S := List.take_of_length_le (by rw [HL.out]; omega)
     rw [htk] at HQ HOx
     have HM2 : Hid (W.meets ff tt T (m + 1) = W.meets ff tt T m ++ S.filter (W.on ff tt)) := Zh (by rw [W.meets_next ff tt T m k HK.out, HS.out])
     rw [<- HM2.out] at HQ HOx
     rw [<- HQ.out] at HOx
     go_wp2
     go_roundw
     case rel => exact ⟨_, m + 1, rfl, by go_num, by omega, HOx, HBx⟩
     case measure => simp [intOf] <;> omega
  ·have d1 : decide (ff + 1 + (m : Int) <= M) = false := decide_eq_false hlt
   have hperm := W.meets_all ff tt T m (by have := HMM.out; omega)
   obtain ⟨q, hq⟩ : ∃ q, (W.meets ff tt T m).length = q := ⟨_, rfl⟩
   have hq9 : q <= 900 := by rw [<- hq, hperm.length_eq]; exact Nat.le_trans (List.length_filter_le _ _) hl
   rw [hq] at HO
   have hs := zi8 v0 q w.heap.size (W.meets ff tt T m) wr HO.out hq (by omega)
   have HPM : Hid ((W.meets ff tt T m).Perm (T.filter (W.on ff tt))) := Zh hperm
   have HQ := Zh hq
   clear hperm hq
   go_wp2_with fail
   refine hs.mono ?_
   rintro e w3 ⟨rfl, K, HK, HOK, HGK⟩
   have HE : Hid (K = R) := Zh (by
    have h1 : K.Perm (T.filter (W.on ff tt)) := HK.out.1.trans HPM.out
    have h2 : W.Ids K := (HIDS.out.filter _).perm h1.symm
    exact W.asc_eq (W.weak_asc h2 HK.out.2) HRA.out (h1.trans HRP.out.symm))
   have hKl : K.length = q := by rw [HK.out.1.length_eq]; exact HQ.out
   have HB3 : Hid (Below w.heap.size w w3) := Zh (HB.out.grown HGK.out HB.out.size (fun i hi => (zaz HO.out hi).1))
   clear hs
   go_wp2
   go_ret
   refine ⟨v0, rfl, ?_, HB3.out⟩
   rw [<- HE.out, hKl]
   exact HOK
open Go.RowKit
open Go.RowKit
theorem zml {fn : Func} {p : Tmp} (h : fn.results = #[.cell p 151]) {tmps : Array Value} {V : World} (g : Nat) (x y : Value)
  (hp : tmps.getD p undef = .pointer (some ⟨g, 0, none⟩)) (hg : Blok V g 151 #[x, y]) :
  (results fn tmps).run Tryz.prog V = .ok (.agg #[x, y]) V := by
 have hp' : tmps[p]?.getD undef = .pointer (some ⟨g, 0, none⟩) := by simpa using hp
 have hl := run_loadVar_row (P := Tryz.prog) V g 151 151 #[x, y] (0, 0) _ hg Tryz.underlying151 rfl (by kernel_rfl)
 simp [results, h, hp', asAddr, hl]
theorem zc5 {fn : Func} {p u : Tmp} (h : fn.results = #[.cell p 151, .tmp u]) {tmps : Array Value} {V : World} (g : Nat) (x y : Value) {z : Value}
  (hp : tmps.getD p undef = .pointer (some ⟨g, 0, none⟩)) (hu : tmps.getD u undef = z) (hg : Blok V g 151 #[x, y]) :
  (results fn tmps).run Tryz.prog V = .ok (.tuple #[.agg #[x, y], z]) V := by
 have hp' : tmps[p]?.getD undef = .pointer (some ⟨g, 0, none⟩) := by simpa using hp
 have hu' : tmps[u]?.getD undef = z := by simpa using hu
 have hl := run_loadVar_row (P := Tryz.prog) V g 151 151 #[x, y] (0, 0) _ hg Tryz.underlying151 rfl (by kernel_rfl)
 simp [results, h, hp', hu', asAddr, hl, Result.andThen]
theorem zg1 {fn : Func} {p u q : Tmp} (h : fn.results = #[.cell p 151, .tmp u, .tmp q]) {tmps : Array Value} {V : World} (g : Nat) (x y : Value) {z r : Value}
  (hp : tmps.getD p undef = .pointer (some ⟨g, 0, none⟩)) (hu : tmps.getD u undef = z) (hq : tmps.getD q undef = r) (hg : Blok V g 151 #[x, y]) :
  (results fn tmps).run Tryz.prog V = .ok (.tuple #[.agg #[x, y], z, r]) V := by
 have hp' : tmps[p]?.getD undef = .pointer (some ⟨g, 0, none⟩) := by simpa using hp
 have hu' : tmps[u]?.getD undef = z := by simpa using hu
 have hq' : tmps[q]?.getD undef = r := by simpa using hq
 have hl := run_loadVar_row (P := Tryz.prog) V g 151 151 #[x, y] (0, 0) _ hg Tryz.underlying151 rfl (by kernel_rfl)
 simp [results, h, hp', hu', hq', asAddr, hl, Result.andThen]
theorem set2 {V : World} {g : Nat} {t : TypeId} {u v : Value} (h : Blok V g t #[u, v]) (x y : Value) : Blok ((V.setCell ⟨g, 0, none⟩ x).setCell ⟨g, 1, none⟩ y) g t #[x, y] /\ V.grownBy ((V.setCell ⟨g, 0, none⟩ x).setCell ⟨g, 1, none⟩ y) (some g) := by
 refine ⟨?_, (zae _ _ _ _).trans (zae _ _ _ _)⟩
 have := (h.set 0 x).set 1 y
 simpa using this
theorem zmz {V : World} {g : Nat} {t : TypeId} {u v : Value} (h : Blok V g t #[u, v]) (y : Value) : Blok (V.setCell ⟨g, 1, none⟩ y) g t #[u, y] /\ V.grownBy (V.setCell ⟨g, 1, none⟩ y) (some g) := by
 refine ⟨?_, zae _ _ _ _⟩
 have := h.set 1 y
 simpa using this
def zdz (w : World) (k : Int) (a : Option Addr) (n c : Nat) : World := wbox (wbox w k a n c) 0 none 0 0
theorem zci (w : World) (k : Int) (a : Option Addr) (n c : Nat) : Below w.heap.size w (zdz w k a n c) := (zby _ _ _ _ _).trans ((zby _ _ _ _ _).mono (by rw [zff]; omega))
theorem zc2 (w : World) (k : Int) (a : Option Addr) (n c : Nat) : (zdz w k a n c).heap.size = w.heap.size + 2 := by simp [zdz, wbox]
theorem zd0 (w : World) (k : Int) (a : Option Addr) (n c : Nat) : Blok (zdz w k a n c) w.heap.size 151 #[.int .i64 k, .slice a n c] := (zdt w k a n c).on' (zby _ _ _ _ _)
theorem zd1 (w : World) (k : Int) (a : Option Addr) (n c : Nat) : Blok (zdz w k a n c) (w.heap.size + 1) 151 #[.int .i64 0, .slice none 0 0] := by
 have := zdt (wbox w k a n c) 0 none 0 0
 rw [zff] at this
 exact this
theorem zbk (k : Int) (a : Option Addr) (n c : Nat) (l : List W.Tm) (w : World) (h : TIn w a n c l) (hn : n <= 1000) :
  Calls Tryz.prog 170 #[.agg #[.int .i64 k, .slice a n c]] w fun e w' => ∃ a2 c2, e = .returned (.agg #[.int .i64 k, .slice a2 n c2]) /\ Hid (w'.ownsRow w.heap.size 159 2 (.slice a2 n c2) n (W.flat l)) /\ Below w.heap.size w w' := by
 have HT := Zh h
 have HB := Zh (zci w k a n c)
 have KA := Zh (zd0 w k a n c)
 have KR := Zh (zd1 w k a n c)
 have hsz := zc2 w k a n c
 obtain ⟨W1, hW1⟩ : ∃ W1, zdz w k a n c = W1 := ⟨_, rfl⟩
 rw [hW1] at HB KA KR hsz
 unfold zdz wbox at hW1
 have a0 := KA.out.b0
 have a1 := KA.out.b1
 clear h
 go_enter Tryz.func170, Tryz.ntmps170
 go_wp2_with fail
 refine (zhk a n c l W1 hn (HT.out.below HB.out)).mono ?_
 rintro e w3 ⟨v, rfl, HO, hb3⟩
 obtain ⟨a2, c2, rfl, -⟩ := zal HO.out HT.out.1
 have HB3 := Zt HB hb3
 have KA3 := Zh (KA.out.on' hb3)
 have KR3 := Zh (KR.out.on' hb3)
 clear hb3 a0 a1 hW1
 have a0 := KA3.out.b0
 have a1 := KA3.out.b1
 have fa := KA3.out.frozen 1
 obtain ⟨w4, hw4⟩ : ∃ w4, w3.setCell ⟨w.heap.size, 1, none⟩ (.slice a2 n c2) = w4 := ⟨_, rfl⟩
 obtain ⟨KA4, G4⟩ := zmz KA3.out (.slice a2 n c2)
 rw [hw4] at KA4 G4
 have KR4 := KR3.out.grown G4 (by simp)
 obtain ⟨w5, hw5⟩ : ∃ w5, (w4.setCell ⟨w.heap.size + 1, 0, none⟩ (.int .i64 k)).setCell ⟨w.heap.size + 1, 1, none⟩ (.slice a2 n c2) = w5 := ⟨_, rfl⟩
 obtain ⟨KR5, G5⟩ := set2 KR4 (.int .i64 k) (.slice a2 n c2)
 rw [hw5] at KR5 G5
 have HK5 := Zh KR5
 have hown : Hid (w5.ownsRow w.heap.size 159 2 (.slice a2 n c2) n (W.flat l)) := Zh (by
  have hlt : ∀ g, (Value.slice a2 n c2).ownBlock = some g -> w.heap.size + 2 <= g := fun g hg => by have := (zaz HO.out hg).1; rw [hsz] at this; exact this
  refine zan ((HO.out.kept G4 ?_).kept G5 ?_) (by rw [hsz]; omega)
  ·exact .inr (fun e => by have := hlt _ e; omega)
  ·exact .inr (fun e => by have := hlt _ e; omega))
 have HB5 := Zh ((HB3.out.grown G4 HB3.out.size (fun j hj => by cases hj; exact Nat.le_refl _)).grown G5 (Nat.le_trans HB3.out.size G4.size) (fun j hj => by cases hj; exact Nat.le_succ _))
 have x0 := KA4.b0
 have x1 := KA4.b1
 have z0 := KR4.b0
 have z1 := KR4.b1
 have g0 := KR4.frozen 0
 have g1 := KR4.frozen 1
 clear KA4 G4 KR4 KR5 G5
 go_wp2
 refine bodyPost_ret (zml rfl (w.heap.size + 1) (.int .i64 k) (.slice a2 n c2) (by kernel_rfl) HK5.out) rfl ?_
 exact ⟨a2, c2, rfl, hown, HB5.out⟩
open Go.RowKit
theorem zja (k : Int) (w : World) :
  Calls Tryz.prog 140 #[.int .i64 k] w fun e w' => e = .returned (.tuple #[.agg #[.int .i64 (W.new k).1, .slice none 0 0], .bool (W.new k).2]) /\ Below w.heap.size w w' := by
 obtain ⟨W1, hW1⟩ : ∃ W1, (w.alloc (.cells #[.int .i64 0, .slice none 0 0] 151)).alloc (.cells #[.int .i64 k, .slice none 0 0] 151) = W1 := ⟨_, rfl⟩
 have s0 : (w.alloc (.cells #[.int .i64 0, .slice none 0 0] 151)).heap.size = w.heap.size + 1 := by simp
 have HB : Hid (Below w.heap.size w W1) := Zh (by rw [<- hW1]; exact ((Below.refl _ w).alloc (Nat.le_refl _) _).alloc (by simp) _)
 have KR : Hid (Blok W1 w.heap.size 151 #[.int .i64 0, .slice none 0 0]) := Zh (by rw [<- hW1]; exact (Blok.new _ _ _).alloc _)
 have KW : Hid (Blok W1 (w.heap.size + 1) 151 #[.int .i64 k, .slice none 0 0]) := Zh (by rw [<- hW1, <- s0]; exact Blok.new _ _ _)
 have HW1 := Zh hW1
 clear s0 hW1
 obtain ⟨p, hp⟩ : ∃ p, W.may k [] = p := ⟨_, rfl⟩
 have hm := zdv k none 0 0 [] W1 (TIn.nil _) (by omega) p hp
 have HP : Hid (W.new k = if p then (k, true) else (0, false)) := Zh (by
  rw [<- hp, W.may_nil]; unfold W.new
  by_cases h : 0 <= k /\ k <= 1073741824
  ·rw [if_pos h, if_pos (decide_eq_true h)]
  ·rw [if_neg h, decide_eq_false h]; rfl)
 clear hp
 go_enter Tryz.func140, Tryz.ntmps140
 go_wp2_with fail
 rw [HW1.out]
 refine hm.mono ?_
 rintro e w3 ⟨rfl, hb3⟩
 have HB3 := Zt HB hb3
 have KR3 := Zh (KR.out.on' hb3)
 have KW3 := Zh (KW.out.on' hb3)
 clear hm hb3
 have a0 := KW3.out.b0
 have a1 := KW3.out.b1
 have r0 := KR3.out.b0
 have r1 := KR3.out.b1
 have f0 := KR3.out.frozen 0
 have f1 := KR3.out.frozen 1
 cases p with
 | false =>
  obtain ⟨K5, G5⟩ := set2 KR3.out (.int .i64 0) (.slice none 0 0)
  have HK5 := Zh K5
  have HB5 := Zh (HB3.out.grown G5 HB3.out.size (fun j hj => by cases hj; exact Nat.le_refl _))
  clear K5 G5
  go_wp2
  refine bodyPost_ret (zc5 rfl w.heap.size (.int .i64 0) (.slice none 0 0) (by kernel_rfl) rfl (by first | exact HK5.out | exact KR3.out)) rfl ?_
  exact ⟨by rw [HP.out]; rfl, by first | exact HB5.out | exact HB3.out⟩
 | true =>
  obtain ⟨K5, G5⟩ := set2 KR3.out (.int .i64 k) (.slice none 0 0)
  have HK5 := Zh K5
  have HB5 := Zh (HB3.out.grown G5 HB3.out.size (fun j hj => by cases hj; exact Nat.le_refl _))
  obtain ⟨w5, hw5⟩ : ∃ w5, (w3.setCell ⟨w.heap.size, 0, none⟩ (.int .i64 k)).setCell ⟨w.heap.size, 1, none⟩ (.slice none 0 0) = w5 := ⟨_, rfl⟩
  rw [hw5] at HK5 HB5
  clear K5 G5
  go_wp2
  refine bodyPost_ret (zc5 rfl w.heap.size (.int .i64 k) (.slice none 0 0) (by kernel_rfl) rfl HK5.out) rfl ?_
  exact ⟨by rw [HP.out]; rfl, HB5.out⟩
open Go.RowKit
theorem W.filter_all {l : List W.Tm} {p : W.Tm -> Bool} (h : ∀ t ∈ l, p t = true) : l.filter p = l := List.filter_eq_self.2 h
open Go.RowKit
theorem W.ids_add {l : List W.Tm} {x : W.Tm} (h : W.Ids l) (hn : W.has l x.1 = false) : W.Ids (l ++ [x]) := by
 refine List.pairwise_append.2 ⟨h, List.pairwise_singleton _ _, fun a ha b hb => ?_⟩
 simp only [List.mem_singleton] at hb
 subst hb
 exact W.has_false.1 hn a ha
theorem W.add_perm {k : Int} {l : List W.Tm} {x : W.Tm} (h : ∀ t ∈ l, W.ok k t = true) (hx : k < x.2 /\ x.2 <= 1073741824) : (W.ins x l).Perm ((l ++ [x]).filter (W.on k 1073741824)) := by
 rw [W.filter_all (fun t ht => ?_)]
 ·exact (W.ins_perm x l).trans (List.perm_append_comm (l₁ := [x]) (l₂ := l))
 ·rcases List.mem_append.1 ht with ht | ht
  ·have := W.ok_iff.1 (h t ht); exact decide_eq_true this.2
  ·simp only [List.mem_singleton] at ht; rw [ht]; exact decide_eq_true hx
theorem zlo (k id at' : Int) (a : Option Addr) (n c : Nat) (l : List W.Tm) (w : World) (h : TIn w a n c l) (hn : n <= 800) :
  Calls Tryz.prog 141 #[.agg #[.int .i64 k, .slice a n c], .int .i64 id, .int .i64 at'] w fun e w' => ∃ a2 n2 c2, e = .returned (.tuple #[.agg #[.int .i64 k, .slice a2 n2 c2], .int .i64 (W.add k l id at').2]) /\ Hid (TIn w' a2 n2 c2 (W.add k l id at').1) /\ Below w.heap.size w w' := by
 have HT := Zh h
 have HB := Zh (zci w k a n c)
 have KA := Zh (zd0 w k a n c)
 have KR := Zh (zd1 w k a n c)
 have hsz := zc2 w k a n c
 obtain ⟨W1, hW1⟩ : ∃ W1, zdz w k a n c = W1 := ⟨_, rfl⟩
 rw [hW1] at HB KA KR hsz
 unfold zdz wbox at hW1
 have a0 := KA.out.b0
 have a1 := KA.out.b1
 clear h
 obtain ⟨p, hp⟩ : ∃ p, W.may k l = p := ⟨_, rfl⟩
 have HP := Zh hp
 go_enter Tryz.func141, Tryz.ntmps141
 go_wp2_with fail
 refine (zdv k a n c l W1 (HT.out.below HB.out) (by omega) p hp).mono ?_
 rintro e w3 ⟨rfl, hbw3⟩
 have HBw3 := Zt HB hbw3
 have KAw3 := Zh (KA.out.on' hbw3)
 have KRw3 := Zh (KR.out.on' hbw3)
 clear hbw3 a0 a1
 have a0 := KAw3.out.b0
 have a1 := KAw3.out.b1
 clear hp hW1
 by_cases hbad : p = false \/ id < 0
 ·have HD : Hid (W.add k l id at' = (l, 1)) := Zh (by unfold W.add; rw [if_pos (by rw [HP.out]; exact hbad)])
  cases p with
  | false =>
   go_wp2_with fail
   refine (zbk k a n c l w3 (HT.out.below HBw3.out) (by omega)).mono ?_
   rintro e wE ⟨a2, c2, rfl, HOE, hbE⟩
   have HBE := Zt HBw3 hbE
   have KRE := Zh (KRw3.out.on' hbE)
   obtain ⟨KR9, G9⟩ := set2 KRE.out (.int .i64 k) (.slice a2 n c2)
   obtain ⟨w9, hw9⟩ : ∃ w9, (wE.setCell ⟨w.heap.size + 1, 0, none⟩ (.int .i64 k)).setCell ⟨w.heap.size + 1, 1, none⟩ (.slice a2 n c2) = w9 := ⟨_, rfl⟩
   rw [hw9] at KR9 G9
   have HK9 := Zh KR9
   have HB9 := Zh (HBE.out.grown G9 HBE.out.size (fun j hj => by cases hj; omega))
   have hT9 : Hid (TIn w9 a2 n c2 l) := Zh (by
    have h9 := HOE.out.kept G9 (.inr (fun e => by have h1 := (zaz HOE.out e).1; have h2 := (KRw3.out).lt; omega))
    obtain ⟨a9, c9, he, ht⟩ := zal h9 HT.out.1
    cases he
    exact ht)
   clear KR9 G9 hbE a0 a1
   have z0 := KRE.out.b0
   have z1 := KRE.out.b1
   have g0 := KRE.out.frozen 0
   have g1 := KRE.out.frozen 1
   go_wp2
   refine bodyPost_ret (zc5 rfl (w.heap.size + 1) (.int .i64 k) (.slice a2 n c2) (by kernel_rfl) rfl HK9.out) rfl ?_
   exact ⟨_, _, _, by rw [HD.out]; rfl, by rw [HD.out]; exact hT9, HB9.out⟩
  | true =>
   have d1 : decide (id < 0) = true := decide_eq_true (by rcases hbad with h | h; cases h; exact h)
   go_wp2_with fail
   refine (zbk k a n c l w3 (HT.out.below HBw3.out) (by omega)).mono ?_
   rintro e wE ⟨a2, c2, rfl, HOE, hbE⟩
   have HBE := Zt HBw3 hbE
   have KRE := Zh (KRw3.out.on' hbE)
   obtain ⟨KR9, G9⟩ := set2 KRE.out (.int .i64 k) (.slice a2 n c2)
   obtain ⟨w9, hw9⟩ : ∃ w9, (wE.setCell ⟨w.heap.size + 1, 0, none⟩ (.int .i64 k)).setCell ⟨w.heap.size + 1, 1, none⟩ (.slice a2 n c2) = w9 := ⟨_, rfl⟩
   rw [hw9] at KR9 G9
   have HK9 := Zh KR9
   have HB9 := Zh (HBE.out.grown G9 HBE.out.size (fun j hj => by cases hj; omega))
   have hT9 : Hid (TIn w9 a2 n c2 l) := Zh (by
    have h9 := HOE.out.kept G9 (.inr (fun e => by have h1 := (zaz HOE.out e).1; have h2 := (KRw3.out).lt; omega))
    obtain ⟨a9, c9, he, ht⟩ := zal h9 HT.out.1
    cases he
    exact ht)
   clear KR9 G9 hbE a0 a1
   have z0 := KRE.out.b0
   have z1 := KRE.out.b1
   have g0 := KRE.out.frozen 0
   have g1 := KRE.out.frozen 1
   go_wp2
   refine bodyPost_ret (zc5 rfl (w.heap.size + 1) (.int .i64 k) (.slice a2 n c2) (by kernel_rfl) rfl HK9.out) rfl ?_
   exact ⟨_, _, _, by rw [HD.out]; rfl, by rw [HD.out]; exact hT9, HB9.out⟩
 ·obtain rfl : p = true := by cases p; exact absurd (.inl rfl) hbad; rfl
  have hid0 : ¬ id < 0 := fun h => hbad (.inr h)
  have d1 : decide (id < 0) = false := decide_eq_false hid0
  have HMay : Hid (W.May k l) := Zh (W.may_iff.1 HP.out)
  obtain ⟨q, hq⟩ : ∃ q, decide (k < at' /\ at' <= 1073741824) = q := ⟨_, rfl⟩
  go_wp2_with fail
  refine (zfg k at' a n c w3 q hq).mono ?_
  rintro e w4 ⟨rfl, hbw4⟩
  have HBw4 := Zt HBw3 hbw4
  have KAw4 := Zh (KAw3.out.on' hbw4)
  have KRw4 := Zh (KRw3.out.on' hbw4)
  clear hbw4 a0 a1
  have a0 := KAw4.out.b0
  have a1 := KAw4.out.b1
  cases q with
  | false =>
   have HD : Hid (W.add k l id at' = (l, 10)) := Zh (by
    have := of_decide_eq_false hq
    unfold W.add; rw [if_neg (by rw [HP.out]; simpa using hid0), if_pos (by omega)])
   clear hq
   go_wp2_with fail
   refine (zbk k a n c l w4 (HT.out.below HBw4.out) (by omega)).mono ?_
   rintro e wE ⟨a2, c2, rfl, HOE, hbE⟩
   have HBE := Zt HBw4 hbE
   have KRE := Zh (KRw4.out.on' hbE)
   obtain ⟨KR9, G9⟩ := set2 KRE.out (.int .i64 k) (.slice a2 n c2)
   obtain ⟨w9, hw9⟩ : ∃ w9, (wE.setCell ⟨w.heap.size + 1, 0, none⟩ (.int .i64 k)).setCell ⟨w.heap.size + 1, 1, none⟩ (.slice a2 n c2) = w9 := ⟨_, rfl⟩
   rw [hw9] at KR9 G9
   have HK9 := Zh KR9
   have HB9 := Zh (HBE.out.grown G9 HBE.out.size (fun j hj => by cases hj; omega))
   have hT9 : Hid (TIn w9 a2 n c2 l) := Zh (by
    have h9 := HOE.out.kept G9 (.inr (fun e => by have h1 := (zaz HOE.out e).1; have h2 := (KRw4.out).lt; omega))
    obtain ⟨a9, c9, he, ht⟩ := zal h9 HT.out.1
    cases he
    exact ht)
   clear KR9 G9 hbE a0 a1
   have z0 := KRE.out.b0
   have z1 := KRE.out.b1
   have g0 := KRE.out.frozen 0
   have g1 := KRE.out.frozen 1
   go_wp2
   refine bodyPost_ret (zc5 rfl (w.heap.size + 1) (.int .i64 k) (.slice a2 n c2) (by kernel_rfl) rfl HK9.out) rfl ?_
   exact ⟨_, _, _, by rw [HD.out]; rfl, by rw [HD.out]; exact hT9, HB9.out⟩
  | true =>
   have HQ : Hid (k < at' /\ at' <= 1073741824) := Zh (of_decide_eq_true hq)
   clear hq
   obtain ⟨r, hr⟩ : ∃ r, W.idx l id = r := ⟨_, rfl⟩
   have hf := zev a n c id l w4 (HT.out.below HBw4.out) (by omega)
   rw [hr] at hf
   go_wp2_with fail
   refine (hf).mono ?_
   rintro e w5 ⟨rfl, hbw5⟩
   have HBw5 := Zt HBw4 hbw5
   have KAw5 := Zh (KAw4.out.on' hbw5)
   have KRw5 := Zh (KRw4.out.on' hbw5)
   clear hbw5 a0 a1
   have a0 := KAw5.out.b0
   have a1 := KAw5.out.b1
   clear hf
   obtain ⟨hs, hhs⟩ : ∃ q, decide (0 <= r) = q := ⟨_, rfl⟩
   have HH : Hid (W.has l id = hs) := Zh (by rw [<- W.idx_has, hr, hhs])
   clear hr
   cases hs with
   | true =>
    have HD : Hid (W.add k l id at' = (l, 11)) := Zh (by
     have h1 := HQ.out
     unfold W.add; rw [if_neg (by rw [HP.out]; simpa using hid0), if_neg (by omega), if_pos HH.out])
    go_wp2_with fail
    refine (zbk k a n c l w5 (HT.out.below HBw5.out) (by omega)).mono ?_
    rintro e wE ⟨a2, c2, rfl, HOE, hbE⟩
    have HBE := Zt HBw5 hbE
    have KRE := Zh (KRw5.out.on' hbE)
    obtain ⟨KR9, G9⟩ := set2 KRE.out (.int .i64 k) (.slice a2 n c2)
    obtain ⟨w9, hw9⟩ : ∃ w9, (wE.setCell ⟨w.heap.size + 1, 0, none⟩ (.int .i64 k)).setCell ⟨w.heap.size + 1, 1, none⟩ (.slice a2 n c2) = w9 := ⟨_, rfl⟩
    rw [hw9] at KR9 G9
    have HK9 := Zh KR9
    have HB9 := Zh (HBE.out.grown G9 HBE.out.size (fun j hj => by cases hj; omega))
    have hT9 : Hid (TIn w9 a2 n c2 l) := Zh (by
     have h9 := HOE.out.kept G9 (.inr (fun e => by have h1 := (zaz HOE.out e).1; have h2 := (KRw5.out).lt; omega))
     obtain ⟨a9, c9, he, ht⟩ := zal h9 HT.out.1
     cases he
     exact ht)
    clear KR9 G9 hbE a0 a1
    have z0 := KRE.out.b0
    have z1 := KRE.out.b1
    have g0 := KRE.out.frozen 0
    have g1 := KRE.out.frozen 1
    go_wp2
    refine bodyPost_ret (zc5 rfl (w.heap.size + 1) (.int .i64 k) (.slice a2 n c2) (by kernel_rfl) rfl HK9.out) rfl ?_
    exact ⟨_, _, _, by rw [HD.out]; rfl, by rw [HD.out]; exact hT9, HB9.out⟩
   | false =>
    by_cases h64 : n = 64
    ·have d64 : ((n : Int) == 64) = true := by simp; omega
     have HD : Hid (W.add k l id at' = (l, 9)) := Zh (by
      have h1 := HQ.out
      unfold W.add; rw [if_neg (by rw [HP.out]; simpa using hid0), if_neg (by omega), if_neg (by rw [HH.out]; simp), if_pos (by rw [HT.out.1]; exact h64)])
     have h64' := Zh h64
     clear h64
     go_wp2_with fail
     refine (zbk k a n c l w5 (HT.out.below HBw5.out) (by omega)).mono ?_
     rintro e wE ⟨a2, c2, rfl, HOE, hbE⟩
     have HBE := Zt HBw5 hbE
     have KRE := Zh (KRw5.out.on' hbE)
     obtain ⟨KR9, G9⟩ := set2 KRE.out (.int .i64 k) (.slice a2 n c2)
     obtain ⟨w9, hw9⟩ : ∃ w9, (wE.setCell ⟨w.heap.size + 1, 0, none⟩ (.int .i64 k)).setCell ⟨w.heap.size + 1, 1, none⟩ (.slice a2 n c2) = w9 := ⟨_, rfl⟩
     rw [hw9] at KR9 G9
     have HK9 := Zh KR9
     have HB9 := Zh (HBE.out.grown G9 HBE.out.size (fun j hj => by cases hj; omega))
     have hT9 : Hid (TIn w9 a2 n c2 l) := Zh (by
      have h9 := HOE.out.kept G9 (.inr (fun e => by have h1 := (zaz HOE.out e).1; have h2 := (KRw5.out).lt; omega))
      obtain ⟨a9, c9, he, ht⟩ := zal h9 HT.out.1
      cases he
      exact ht)
     clear KR9 G9 hbE a0 a1
     have z0 := KRE.out.b0
     have z1 := KRE.out.b1
     have g0 := KRE.out.frozen 0
     have g1 := KRE.out.frozen 1
     go_wp2
     refine bodyPost_ret (zc5 rfl (w.heap.size + 1) (.int .i64 k) (.slice a2 n c2) (by kernel_rfl) rfl HK9.out) rfl ?_
     exact ⟨_, _, _, by rw [HD.out]; rfl, by rw [HD.out]; exact hT9, HB9.out⟩
    ·have d64 : ((n : Int) == 64) = false := by simp; omega
     have HD : Hid (W.add k l id at' = (W.ins (id, at') l, 0)) := Zh (by
      have h1 := HQ.out
      unfold W.add; rw [if_neg (by rw [HP.out]; simpa using hid0), if_neg (by omega), if_neg (by rw [HH.out]; simp), if_neg (by rw [HT.out.1]; exact h64)])
     have h64' := Zh h64
     clear h64
     have hlay := zi9 a n c l w5 (HT.out.below HBw5.out) (by omega) (fun t ht => by have := W.ok_iff.1 (HMay.out.2.2.2.1 t ht); have h0 := HMay.out.1; omega)
     go_wp2_with fail
     refine hlay.mono ?_
     rintro e wl ⟨vs, rfl, HRows, hbl⟩
     obtain ⟨b0, n0, c0, b1, n1, c1, b2, n2, c2, b3, n3, c3, b4, n4, c4, b5, n5, c5, b6, n6, c6, b7, n7, c7, b8, n8, c8, b9, n9, c9, b10, n10, c10, b11, n11, c11, b12, n12, c12, b13, n13, c13, b14, n14, c14, b15, n15, c15, rfl⟩ := HRows.out.letters
     have hbl2 := hbl
     have HBl := Zt HBw5 hbl
     have KAl := Zh (KAw5.out.on' hbl)
     have KRl := Zh (KRw5.out.on' hbl)
     obtain ⟨wr, hwr⟩ : ∃ wr, wl.alloc (.cells #[.slice b0 n0 c0, .slice b1 n1 c1, .slice b2 n2 c2, .slice b3 n3 c3, .slice b4 n4 c4, .slice b5 n5 c5, .slice b6 n6 c6, .slice b7 n7 c7, .slice b8 n8 c8, .slice b9 n9 c9, .slice b10 n10 c10, .slice b11 n11 c11, .slice b12 n12 c12, .slice b13 n13 c13, .slice b14 n14 c14, .slice b15 n15 c15] 176) = wr := ⟨_, rfl⟩
     have hbr : Below wl.heap.size wl wr := by rw [<- hwr]; exact (Below.refl _ _).alloc (Nat.le_refl _) _
     have HRing : Hid (Blok wr wl.heap.size 176 #[.slice b0 n0 c0, .slice b1 n1 c1, .slice b2 n2 c2, .slice b3 n3 c3, .slice b4 n4 c4, .slice b5 n5 c5, .slice b6 n6 c6, .slice b7 n7 c7, .slice b8 n8 c8, .slice b9 n9 c9, .slice b10 n10 c10, .slice b11 n11 c11, .slice b12 n12 c12, .slice b13 n13 c13, .slice b14 n14 c14, .slice b15 n15 c15]) := Zh (by rw [<- hwr]; exact Blok.new _ _ _)
     have HRows2 := Zh (HRows.out.on hbr)
     have HBr := Zt HBl hbr
     have KAr := Zh (KAl.out.on' hbr)
     have KRr := Zh (KRl.out.on' hbr)
     have hrbB : w5.heap.size <= wl.heap.size := hbl2.size
     have hrbr : wl.heap.size <= wr.heap.size := hbr.size
     have hKAlt := KAw5.out.lt
     have hKRlt := KRw5.out.lt
     clear hlay hbl hbl2 a0 a1
     have hput := zfj w5.heap.size wl.heap.size l (id, at') _ wr HRing.out HRows2.out (Nat.le_trans hrbB hrbr) hrbB (by have h1 := HQ.out; have h2 := HMay.out.1; simp only; omega) (by rw [HT.out.1]; omega)
     simp only at hput
     go_wp2_with fail
     refine hput.mono ?_
     rintro e wp ⟨rfl, vs', HRing3, HRows3, HOth, HBp⟩
     have KAp := Zh (HOth.out _ _ _ KAr.out (by decide) (by omega))
     have KRp := Zh (HOth.out _ _ _ KRr.out (by decide) (by omega))
     have HBp2 := Zh (HBr.out.trans (HBp.out.mono HBw5.out.size))
     clear hput hbr hwr
     have hdue := zgi w5.heap.size wl.heap.size k 1073741824 (l ++ [(id, at')]) (W.ins (id, at') l) vs' wp.drew HRing3.out.drew (HRows3.out.on (zaa wp)) HMay.out.1 (by have := HMay.out.2.1; omega) (Int.le_refl _) (by have := HT.out.1; simp; omega)
      (W.ids_add HMay.out.2.2.2.2.2 HH.out) (W.ins_asc HMay.out.2.2.2.2.1 (fun t ht e => W.has_false.1 HH.out t ht (by rw [e]))) (W.add_perm HMay.out.2.2.2.1 HQ.out)
     obtain ⟨R, hR⟩ : ∃ R, W.ins (id, at') l = R := ⟨_, rfl⟩
     rw [hR] at hdue HD
     obtain ⟨N, hN⟩ : ∃ N, R.length = N := ⟨_, rfl⟩
     rw [hN] at hdue
     have a0 := KAp.out.b0
     have a1 := KAp.out.b1
     have HN := Zh hN
     clear hR hN
     go_wp2_with fail
     go_region_with (go_at_call 175; refine hdue.mono ?_; rintro e w9 ⟨v9, rfl, HO9, hb9⟩; obtain ⟨a9, c9, rfl, ht9⟩ := zal HO9.out HN.out; have HT9 := Zh ht9; clear ht9; have KA9 := Zh (KAp.out.drew.on' hb9); have KR9 := Zh (KRp.out.drew.on' hb9); have y0 := KA9.out.b0; have y1 := KA9.out.b1; have z0 := KR9.out.b0; have z1 := KR9.out.b1; have g0 := KR9.out.frozen 0; have g1 := KR9.out.frozen 1)
     clear hdue a0 a1
     have hBp := HBp.out.size
     all_goals (
      obtain ⟨KR10, G10⟩ := set2 KR9.out (.int .i64 k) (.slice a9 N c9)
      obtain ⟨w10, hw10⟩ : ∃ w10, (w9.setCell ⟨w.heap.size + 1, 0, none⟩ (.int .i64 k)).setCell ⟨w.heap.size + 1, 1, none⟩ (.slice a9 N c9) = w10 := ⟨_, rfl⟩
      rw [hw10] at KR10 G10
      have HK10 := Zh KR10
      have HB9 : Below w.heap.size w w9 := (HBp2.out.drew).trans (hb9.mono HBp2.out.size)
      have HB10 := Zh (HB9.grown G10 HB9.size (fun j hj => by cases hj; omega))
      have hlt : ∀ g, (Value.slice a9 N c9).ownBlock = some g -> w.heap.size + 1 < g := fun g hg => by
       have h1 := (zaz HO9.out hg).1
       have h2 : wp.heap.size <= g := h1
       have h3 := (KRp.out).lt
       omega
      have HT10 : Hid (TIn w10 a9 N c9 R) := Zh (by
       have h9 := HO9.out.kept G10 (.inr (fun e => by have := hlt _ e; omega))
       obtain ⟨a10, c10, he, ht⟩ := zal h9 HN.out
       cases he
       exact ht)
      rw [hw10]
      clear KR10 G10 hlt HB9 y0 y1 z0 z1 g0 g1 hb9 hw10
      go_wp2
      refine bodyPost_ret (zc5 rfl (w.heap.size + 1) (.int .i64 k) (.slice a9 N c9) (by kernel_rfl) rfl HK10.out) rfl ?_
      exact ⟨_, _, _, by rw [HD.out]; rfl, by rw [HD.out]; exact HT10, HB10.out⟩)
open Go.RowKit
theorem W.left_on {k tt : Int} {l : List W.Tm} (h : ∀ t ∈ l, W.ok k t = true) : W.left tt l = l.filter (W.on tt 1073741824) := by
 unfold W.left
 refine List.filter_congr fun t ht => ?_
 have := W.ok_iff.1 (h t ht)
 exact decide_eq_decide.2 ⟨fun h1 => ⟨h1, this.2.2⟩, fun h1 => h1.1⟩
theorem W.due_on {k tt : Int} {l : List W.Tm} (h : ∀ t ∈ l, W.ok k t = true) : W.due tt l = l.filter (W.on k tt) := by
 unfold W.due
 refine List.filter_congr fun t ht => ?_
 have := W.ok_iff.1 (h t ht)
 exact decide_eq_decide.2 ⟨fun h1 => ⟨this.2.1, h1⟩, fun h1 => h1.2⟩
theorem zde {w : World} {B B' k n : Nat} {t : TypeId} {v : Value} {xs : List Value} (h : w.ownsRow B t k v n xs) (hb : B' <= B) : w.ownsRow B' t k v n xs :=
 ⟨h.1, h.2.imp id fun ⟨q, cap, cur, h1, h2, h3⟩ => ⟨q, cap, cur, h1, Nat.le_trans hb h2, h3⟩⟩
theorem zku (k tt : Int) (a : Option Addr) (n c : Nat) (l : List W.Tm) (w : World) (h : TIn w a n c l) (hn : n <= 800) :
  Calls Tryz.prog 142 #[.agg #[.int .i64 k, .slice a n c], .int .i64 tt] w fun e w' => ∃ a2 n2 c2 a3 n3 c3, e = .returned (.tuple #[.agg #[.int .i64 (W.step k l tt).1.1, .slice a2 n2 c2], .slice a3 n3 c3, .int .i64 (W.step k l tt).2.2]) /\ Hid (TIn w' a2 n2 c2 (W.step k l tt).1.2) /\ Hid (TIn w' a3 n3 c3 (W.step k l tt).2.1) /\ Hid (w'.ownsRow w.heap.size 159 2 (.slice a3 n3 c3) n3 (W.flat (W.step k l tt).2.1)) /\ Below w.heap.size w w' := by
 have HT := Zh h
 have HB := Zh (zci w k a n c)
 have KA := Zh (zd0 w k a n c)
 have KR := Zh (zd1 w k a n c)
 have hsz := zc2 w k a n c
 obtain ⟨W1, hW1⟩ : ∃ W1, zdz w k a n c = W1 := ⟨_, rfl⟩
 rw [hW1] at HB KA KR hsz
 unfold zdz wbox at hW1
 have a0 := KA.out.b0
 have a1 := KA.out.b1
 clear h
 obtain ⟨p, hp⟩ : ∃ p, W.may k l = p := ⟨_, rfl⟩
 have HP := Zh hp
 go_enter Tryz.func142, Tryz.ntmps142
 go_wp2_with fail
 refine (zdv k a n c l W1 (HT.out.below HB.out) (by omega) p hp).mono ?_
 rintro e w3 ⟨rfl, hbw3⟩
 have HBw3 := Zt HB hbw3
 have KAw3 := Zh (KA.out.on' hbw3)
 have KRw3 := Zh (KR.out.on' hbw3)
 clear hbw3 a0 a1
 have a0 := KAw3.out.b0
 have a1 := KAw3.out.b1
 clear hp hW1
 cases p with
 | false =>
  have HD : Hid (W.step k l tt = ((k, l), [], 1)) := Zh (by unfold W.step; rw [if_pos HP.out])
  go_wp2_with fail
  refine (zbk k a n c l w3 (HT.out.below HBw3.out) (by omega)).mono ?_
  rintro e wE ⟨a2, c2, rfl, HOE, hbE⟩
  have HBE := Zt HBw3 hbE
  have KRE := Zh (KRw3.out.on' hbE)
  obtain ⟨KR9, G9⟩ := set2 KRE.out (.int .i64 k) (.slice a2 n c2)
  obtain ⟨w9, hw9⟩ : ∃ w9, (wE.setCell ⟨w.heap.size + 1, 0, none⟩ (.int .i64 k)).setCell ⟨w.heap.size + 1, 1, none⟩ (.slice a2 n c2) = w9 := ⟨_, rfl⟩
  rw [hw9] at KR9 G9
  have HK9 := Zh KR9
  have HB9 := Zh (HBE.out.grown G9 HBE.out.size (fun j hj => by cases hj; omega))
  have hT9 : Hid (TIn w9 a2 n c2 l) := Zh (by
   have h9 := HOE.out.kept G9 (.inr (fun e => by have h1 := (zaz HOE.out e).1; have h2 := (KRw3.out).lt; omega))
   obtain ⟨a9, c9, he, ht⟩ := zal h9 HT.out.1
   cases he
   exact ht)
  clear KR9 G9 hbE a0 a1
  have z0 := KRE.out.b0
  have z1 := KRE.out.b1
  have g0 := KRE.out.frozen 0
  have g1 := KRE.out.frozen 1
  go_wp2
  refine bodyPost_ret (zg1 rfl (w.heap.size + 1) (.int .i64 k) (.slice a2 n c2) (by kernel_rfl) rfl rfl HK9.out) rfl ?_
  exact ⟨_, _, _, _, _, _, by rw [HD.out]; rfl, by rw [HD.out]; exact hT9, by rw [HD.out]; exact Zh (TIn.nil _), by rw [HD.out]; exact Zh (World.ownsRow_nil _ _ _ _), HB9.out⟩
 | true =>
  have HMay : Hid (W.May k l) := Zh (W.may_iff.1 HP.out)
  by_cases hbad : tt < k \/ 1073741824 < tt
  ·have HD : Hid (W.step k l tt = ((k, l), [], 10)) := Zh (by unfold W.step; rw [if_neg (by rw [HP.out]; simp), if_pos hbad])
   by_cases hb1 : tt < k
   ·have d1 : decide (tt < k) = true := decide_eq_true hb1
    go_wp2_with fail
    refine (zbk k a n c l w3 (HT.out.below HBw3.out) (by omega)).mono ?_
    rintro e wE ⟨a2, c2, rfl, HOE, hbE⟩
    have HBE := Zt HBw3 hbE
    have KRE := Zh (KRw3.out.on' hbE)
    obtain ⟨KR9, G9⟩ := set2 KRE.out (.int .i64 k) (.slice a2 n c2)
    obtain ⟨w9, hw9⟩ : ∃ w9, (wE.setCell ⟨w.heap.size + 1, 0, none⟩ (.int .i64 k)).setCell ⟨w.heap.size + 1, 1, none⟩ (.slice a2 n c2) = w9 := ⟨_, rfl⟩
    rw [hw9] at KR9 G9
    have HK9 := Zh KR9
    have HB9 := Zh (HBE.out.grown G9 HBE.out.size (fun j hj => by cases hj; omega))
    have hT9 : Hid (TIn w9 a2 n c2 l) := Zh (by
     have h9 := HOE.out.kept G9 (.inr (fun e => by have h1 := (zaz HOE.out e).1; have h2 := (KRw3.out).lt; omega))
     obtain ⟨a9, c9, he, ht⟩ := zal h9 HT.out.1
     cases he
     exact ht)
    clear KR9 G9 hbE a0 a1
    have z0 := KRE.out.b0
    have z1 := KRE.out.b1
    have g0 := KRE.out.frozen 0
    have g1 := KRE.out.frozen 1
    go_wp2
    refine bodyPost_ret (zg1 rfl (w.heap.size + 1) (.int .i64 k) (.slice a2 n c2) (by kernel_rfl) rfl rfl HK9.out) rfl ?_
    exact ⟨_, _, _, _, _, _, by rw [HD.out]; rfl, by rw [HD.out]; exact hT9, by rw [HD.out]; exact Zh (TIn.nil _), by rw [HD.out]; exact Zh (World.ownsRow_nil _ _ _ _), HB9.out⟩
   ·have d1 : decide (tt < k) = false := decide_eq_false hb1
    have d2 : decide ((1073741824 : Int) < tt) = true := decide_eq_true (by omega)
    go_wp2_with fail
    refine (zbk k a n c l w3 (HT.out.below HBw3.out) (by omega)).mono ?_
    rintro e wE ⟨a2, c2, rfl, HOE, hbE⟩
    have HBE := Zt HBw3 hbE
    have KRE := Zh (KRw3.out.on' hbE)
    obtain ⟨KR9, G9⟩ := set2 KRE.out (.int .i64 k) (.slice a2 n c2)
    obtain ⟨w9, hw9⟩ : ∃ w9, (wE.setCell ⟨w.heap.size + 1, 0, none⟩ (.int .i64 k)).setCell ⟨w.heap.size + 1, 1, none⟩ (.slice a2 n c2) = w9 := ⟨_, rfl⟩
    rw [hw9] at KR9 G9
    have HK9 := Zh KR9
    have HB9 := Zh (HBE.out.grown G9 HBE.out.size (fun j hj => by cases hj; omega))
    have hT9 : Hid (TIn w9 a2 n c2 l) := Zh (by
     have h9 := HOE.out.kept G9 (.inr (fun e => by have h1 := (zaz HOE.out e).1; have h2 := (KRw3.out).lt; omega))
     obtain ⟨a9, c9, he, ht⟩ := zal h9 HT.out.1
     cases he
     exact ht)
    clear KR9 G9 hbE a0 a1
    have z0 := KRE.out.b0
    have z1 := KRE.out.b1
    have g0 := KRE.out.frozen 0
    have g1 := KRE.out.frozen 1
    go_wp2
    refine bodyPost_ret (zg1 rfl (w.heap.size + 1) (.int .i64 k) (.slice a2 n c2) (by kernel_rfl) rfl rfl HK9.out) rfl ?_
    exact ⟨_, _, _, _, _, _, by rw [HD.out]; rfl, by rw [HD.out]; exact hT9, by rw [HD.out]; exact Zh (TIn.nil _), by rw [HD.out]; exact Zh (World.ownsRow_nil _ _ _ _), HB9.out⟩
  ·have d1 : decide (tt < k) = false := decide_eq_false (fun h => hbad (.inl h))
   have d2 : decide ((1073741824 : Int) < tt) = false := decide_eq_false (fun h => hbad (.inr h))
   have hkt : k <= tt := by omega
   have htm : tt <= 1073741824 := by omega
   have HD : Hid (W.step k l tt = ((tt, W.left tt l), W.due tt l, 0)) := Zh (by unfold W.step; rw [if_neg (by rw [HP.out]; simp), if_neg hbad])
   clear hbad
   have hlay := zi9 a n c l w3 (HT.out.below HBw3.out) (by omega) (fun t ht => by have := W.ok_iff.1 (HMay.out.2.2.2.1 t ht); have h0 := HMay.out.1; omega)
   go_wp2_with fail
   refine hlay.mono ?_
   rintro e wl ⟨vs, rfl, HRows, hbl⟩
   obtain ⟨b0, n0, c0, b1, n1, c1, b2, n2, c2, b3, n3, c3, b4, n4, c4, b5, n5, c5, b6, n6, c6, b7, n7, c7, b8, n8, c8, b9, n9, c9, b10, n10, c10, b11, n11, c11, b12, n12, c12, b13, n13, c13, b14, n14, c14, b15, n15, c15, rfl⟩ := HRows.out.letters
   have hbl2 := hbl
   have HBl := Zt HBw3 hbl
   have KAl := Zh (KAw3.out.on' hbl)
   have KRl := Zh (KRw3.out.on' hbl)
   obtain ⟨wr, hwr⟩ : ∃ wr, wl.alloc (.cells #[.slice b0 n0 c0, .slice b1 n1 c1, .slice b2 n2 c2, .slice b3 n3 c3, .slice b4 n4 c4, .slice b5 n5 c5, .slice b6 n6 c6, .slice b7 n7 c7, .slice b8 n8 c8, .slice b9 n9 c9, .slice b10 n10 c10, .slice b11 n11 c11, .slice b12 n12 c12, .slice b13 n13 c13, .slice b14 n14 c14, .slice b15 n15 c15] 176) = wr := ⟨_, rfl⟩
   have hbr : Below wl.heap.size wl wr := by rw [<- hwr]; exact (Below.refl _ _).alloc (Nat.le_refl _) _
   have HRing : Hid (Blok wr wl.heap.size 176 #[.slice b0 n0 c0, .slice b1 n1 c1, .slice b2 n2 c2, .slice b3 n3 c3, .slice b4 n4 c4, .slice b5 n5 c5, .slice b6 n6 c6, .slice b7 n7 c7, .slice b8 n8 c8, .slice b9 n9 c9, .slice b10 n10 c10, .slice b11 n11 c11, .slice b12 n12 c12, .slice b13 n13 c13, .slice b14 n14 c14, .slice b15 n15 c15]) := Zh (by rw [<- hwr]; exact Blok.new _ _ _)
   have HRows2 := Zh (HRows.out.on hbr)
   have HBr := Zt HBl hbr
   have KAr := Zh (KAl.out.on' hbr)
   have KRr := Zh (KRl.out.on' hbr)
   have hrbB : w3.heap.size <= wl.heap.size := hbl2.size
   have hrbr : wl.heap.size <= wr.heap.size := hbr.size
   have hKAlt := KAw3.out.lt
   have hKRlt := KRw3.out.lt
   clear hlay hbl hbl2 a0 a1
   have hdue1 := fun (V : World) (hb : Below wr.heap.size wr V) => zgi w3.heap.size wl.heap.size tt 1073741824 l (W.left tt l) _ V (HRing.out.on' hb) (HRows2.out.on hb) (by have := HMay.out.1; omega) htm (Int.le_refl _) (by rw [HT.out.1]; omega)
    HMay.out.2.2.2.2.2 (W.Asc.filter HMay.out.2.2.2.2.1 _) (by rw [W.left_on HMay.out.2.2.2.1])
   have hdue2 := fun (V : World) (hb : Below wr.heap.size wr V) => zgi w3.heap.size wl.heap.size k tt l (W.due tt l) _ V (HRing.out.on' hb) (HRows2.out.on hb) HMay.out.1 hkt htm (by rw [HT.out.1]; omega)
    HMay.out.2.2.2.2.2 (W.Asc.filter HMay.out.2.2.2.2.1 _) (by rw [W.due_on HMay.out.2.2.2.1])
   obtain ⟨R1, hR1⟩ : ∃ R, W.left tt l = R := ⟨_, rfl⟩
   obtain ⟨R2, hR2⟩ : ∃ R, W.due tt l = R := ⟨_, rfl⟩
   rw [hR1] at hdue1 HD
   rw [hR2] at hdue2 HD
   obtain ⟨N1, hN1⟩ : ∃ N, R1.length = N := ⟨_, rfl⟩
   obtain ⟨N2, hN2⟩ : ∃ N, R2.length = N := ⟨_, rfl⟩
   rw [hN1] at hdue1
   rw [hN2] at hdue2
   have HN1 := Zh hN1
   have HN2 := Zh hN2
   have HU1 := Zh hdue1
   have HU2 := Zh hdue2
   have a0 := KAr.out.b0
   have a1 := KAr.out.b1
   clear hR1 hR2 hN1 hN2 hdue1 hdue2
   go_wp2_with fail
   go_region_with (first
    | (go_at_call 175; with_reducible refine (HU1.out _ (zaa wr)).mono ?_; rintro e w8 ⟨v8, rfl, HO8, hb8⟩; obtain ⟨a8, c8, rfl, ht8⟩ := zal HO8.out HN1.out; have HT8 := Zh ht8; clear ht8; have HB8 := Zh ((zaa wr).trans (hb8.mono (Nat.le_refl _))); have KA8 := Zh (KAr.out.on' HB8.out); have y0 := KA8.out.b0; have y1 := KA8.out.b1)
    | (go_at_call 175; with_reducible refine (HU2.out _ HB8.out).mono ?_; rintro e w9 ⟨v9, rfl, HO9, hb9⟩; obtain ⟨a9, c9, rfl, ht9⟩ := zal HO9.out HN2.out; have HT9 := Zh ht9; clear ht9; have HB9 := Zh (HB8.out.trans (hb9.mono HB8.out.size)); have KA9 := Zh (KAr.out.on' HB9.out); have KR9 := Zh (KRr.out.on' HB9.out); have x0 := KA9.out.b0; have x1 := KA9.out.b1; have z0 := KR9.out.b0; have z1 := KR9.out.b1; have g0 := KR9.out.frozen 0; have g1 := KR9.out.frozen 1))
   clear a0 a1
   all_goals (
    obtain ⟨KR10, G10⟩ := set2 KR9.out (.int .i64 tt) (.slice a8 N1 c8)
    obtain ⟨w10, hw10⟩ : ∃ w10, (w9.setCell ⟨w.heap.size + 1, 0, none⟩ (.int .i64 tt)).setCell ⟨w.heap.size + 1, 1, none⟩ (.slice a8 N1 c8) = w10 := ⟨_, rfl⟩
    rw [hw10] at KR10 G10
    have HK10 := Zh KR10
    have hB9 : Below w.heap.size w w9 := HBr.out.trans (HB9.out.mono HBr.out.size)
    have HB10 := Zh (hB9.grown G10 hB9.size (fun j hj => by cases hj; omega))
    have hkr := (KRr.out).lt
    have hs8 := HB8.out.size
    have HT10 : Hid (TIn w10 a8 N1 c8 R1) := Zh (by
     have h9 := (zab HO8.out hb9).kept G10 (.inr (fun e => by have h1 : wr.heap.size <= _ := (zaz HO8.out e).1; omega))
     obtain ⟨a10, c10, he, ht⟩ := zal h9 HN1.out
     cases he
     exact ht)
    have HO11 : Hid (w10.ownsRow w.heap.size 159 2 (.slice a9 N2 c9) N2 (W.flat R2)) := Zh (zde (HO9.out.kept G10 (.inr (fun e => by have h1 := (zaz HO9.out e).1; omega))) (by have := hB9.size; have := HB8.out.size; have := HBr.out.size; omega))
    have HT11 : Hid (TIn w10 a9 N2 c9 R2) := Zh (by
     have h9 := HO9.out.kept G10 (.inr (fun e => by have h1 := (zaz HO9.out e).1; omega))
     obtain ⟨a10, c10, he, ht⟩ := zal h9 HN2.out
     cases he
     exact ht)
    rw [hw10]
    clear KR10 G10 hB9 y0 y1 x0 x1 z0 z1 g0 g1 hb8 hb9 hw10
    go_wp2
    refine bodyPost_ret (zg1 rfl (w.heap.size + 1) (.int .i64 tt) (.slice a8 N1 c8) (by kernel_rfl) rfl rfl HK10.out) rfl ?_
    exact ⟨_, _, _, _, _, _, by rw [HD.out]; rfl, by rw [HD.out]; exact HT10, by rw [HD.out]; exact HT11, by rw [HD.out]; exact HO11, HB10.out⟩)
end Go.Proofs.YtonejangijkdmaaGreat
