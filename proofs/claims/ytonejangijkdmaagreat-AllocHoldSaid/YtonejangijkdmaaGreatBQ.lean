import Derived.Test.YtonejangijkdmaaGreatBL
import Derived.Test.YtonejangijkdmaaGreatBG
import Derived.Test.YtonejangijkdmaaGreatBU
import Derived.Lib.RowBridge
namespace Go.Proofs.YtonejangijkdmaaGreat
set_option maxHeartbeats 600000
set_option maxRecDepth 100000
open Go.RowKit
namespace L
def use1 (N at' u : Int) (x : T3) : Int := if x.a = at' then U.take N u x.b else u
def uses (N at' u : Int) (l : List T3) : Int := l.foldl (use1 N at') u
theorem uses_snoc {N at' u : Int} {l : List T3} {j : Nat} {x : T3} (hx : l[j]? = some x) : uses N at' u (l.take (j + 1)) = use1 N at' (uses N at' u (l.take j)) x := by
 unfold uses; rw [take_snoc hx, List.foldl_append]; rfl
end L
theorem zdn {fn : Func} {p : Tmp} (h : fn.results = #[.cell p 163]) {tmps : Array Value} {w : World} (g : Nat) (a b : Int)
  (hp : tmps.getD p undef = .pointer (some ⟨g, 0, none⟩)) (hg : Blok w g 163 #[.int .i64 a, .int .i64 b]) :
  (results fn tmps).run Tryz.prog w = .ok (.agg #[.int .i64 a, .int .i64 b]) w := by
 have hp' : tmps[p]?.getD undef = .pointer (some ⟨g, 0, none⟩) := by simpa using hp
 have hl := run_loadVar_row (P := Tryz.prog) w g 163 163 #[.int .i64 a, .int .i64 b] (0, 0) _ hg Tryz.underlying163 rfl (by kernel_rfl)
 simp [results, h, hp', asAddr, hl]
theorem ze0 {V : World} {g : Nat} {u v : Value} (h : Blok V g 163 #[u, v]) (x y : Value) : Blok ((V.setCell ⟨g, 0, none⟩ x).setCell ⟨g, 1, none⟩ y) g 163 #[x, y] /\ V.grownBy ((V.setCell ⟨g, 0, none⟩ x).setCell ⟨g, 1, none⟩ y) (some g) := by
 refine ⟨?_, (grown_set _ _ _ _).trans (grown_set _ _ _ _)⟩
 have := (h.set 0 x).set 1 y
 simpa using this
theorem zfa (x : L.T3) (N u at' r : Int) (hr : L.use1 N at' u x = r) (w : World) :
  Calls Tryz.prog 211 #[.agg #[.int .i64 x.a, .int .i64 x.b], .agg #[.int .i64 N, .int .i64 u], .int .i64 at'] w fun e w' => e = .returned (.agg #[.int .i64 N, .int .i64 r]) /\ Below w.heap.size w w' := by
 obtain ⟨W0, hW0⟩ : ∃ W, ((w.alloc (.cells #[.int .i64 x.a, .int .i64 x.b] 106)).alloc (.cells #[.int .i64 N, .int .i64 u] 163)).alloc (.cells #[.int .i64 0, .int .i64 0] 163) = W := ⟨_, rfl⟩
 have B0 : Below w.heap.size w W0 := by rw [<- hW0]; exact (((Below.refl _ w).alloc (Nat.le_refl _) _).alloc (by simp) _).alloc (by simp; omega) _
 have KB : Blok W0 w.heap.size 106 #[.int .i64 x.a, .int .i64 x.b] := by rw [<- hW0]; exact ((Blok.new w _ _).alloc _).alloc _
 have KU : Blok W0 (w.heap.size + 1) 163 #[.int .i64 N, .int .i64 u] := by
  rw [<- hW0]; have := (Blok.new (w.alloc (.cells #[.int .i64 x.a, .int .i64 x.b] 106)) 163 #[.int .i64 N, .int .i64 u]).alloc (.cells #[.int .i64 0, .int .i64 0] 163)
  rwa [World.size_alloc] at this
 have KR : Blok W0 (w.heap.size + 2) 163 #[.int .i64 0, .int .i64 0] := by
  rw [<- hW0]; have := Blok.new ((w.alloc (.cells #[.int .i64 x.a, .int .i64 x.b] 106)).alloc (.cells #[.int .i64 N, .int .i64 u] 163)) 163 #[.int .i64 0, .int .i64 0]
  rwa [World.size_alloc, World.size_alloc] at this
 have HB0 := Zh B0
 have HKU := Zh KU
 have HKR := Zh KR
 have b0 := Zv KB 0 (.int .i64 x.a)
 have b1 := Zv KB 1 (.int .i64 x.b)
 have g0 := Zv KU 0 (.int .i64 N)
 have g1 := Zv KU 1 (.int .i64 u)
 clear B0 KB KU KR
 by_cases h1 : x.a = at'
 ·have e1 : (x.a == at') = true := by simpa using h1
  have HR : Hid (U.take N u x.b = r) := Zh (by rw [<- hr]; unfold L.use1; rw [if_pos h1])
  have ct := fun W => zjy N u x.b r _ W rfl HR.out
  clear hr h1
  go_enter Tryz.func211, Tryz.ntmps211
  go_wp2_with fail
  refine (ct _).mono ?_
  rintro e w2 ⟨rfl, hb2⟩
  have K2 := HKU.out.below hb2 HKU.out.lt
  have HB2 := Zt HB0 hb2
  have HR2 := Zh (HKR.out.below hb2 HKR.out.lt)
  clear hb2 ct b0 b1 g0 g1 hW0
  have g0 := Zv K2 0 (.int .i64 N)
  have g1 := Zv K2 1 (.int .i64 u)
  have f0 := K2.frozen 0
  have f1 := K2.frozen 1
  obtain ⟨K3, G3⟩ := ze0 K2 (.int .i64 N) (.int .i64 r)
  obtain ⟨w3, hw3⟩ : ∃ W, (w2.setCell ⟨w.heap.size + 1, 0, none⟩ (.int .i64 N)).setCell ⟨w.heap.size + 1, 1, none⟩ (.int .i64 r) = W := ⟨_, rfl⟩
  rw [hw3] at K3 G3
  have HB3 := Zh (HB2.out.grown G3 HB2.out.size (fun k hk => by cases hk; omega))
  have HR3 := Zh (HR2.out.grown G3 (by simp))
  have k0 := Zv K3 0 (.int .i64 N)
  have k1 := Zv K3 1 (.int .i64 r)
  have r0 := HR3.out.frozen 0
  have r1 := HR3.out.frozen 1
  have q0 := Zv HR3.out 0 (.int .i64 0)
  have q1 := Zv HR3.out 1 (.int .i64 0)
  have HFP := Zh (zbs (w := w) (w.heap.size + 2) (by omega) HR3.out HB3.out N r)
  clear K2 K3 G3
  go_wp2_with fail
  refine bodyPost_ret (zdn rfl (w.heap.size + 2) N r (by kernel_rfl) HFP.out.1) rfl ?_
  exact ⟨rfl, HFP.out.2⟩
 ·have e1 : (x.a == at') = false := by simpa using h1
  have HR : Hid (u = r) := Zh (by rw [<- hr]; unfold L.use1; rw [if_neg h1])
  have r0 := HKR.out.frozen 0
  have r1 := HKR.out.frozen 1
  have q0 := Zv HKR.out 0 (.int .i64 0)
  have q1 := Zv HKR.out 1 (.int .i64 0)
  have HFP := Zh (zbs (w := w) (w.heap.size + 2) (by omega) HKR.out HB0.out N u)
  clear hr h1
  go_enter Tryz.func211, Tryz.ntmps211
  go_wp2_with fail
  refine bodyPost_ret (zdn rfl (w.heap.size + 2) N u (by kernel_rfl) HFP.out.1) rfl ?_
  exact ⟨by rw [<- HR.out], HFP.out.2⟩
theorem zll (x : E.D) (a a' : Option Addr) (n n' c c' : Nat) (l : List L.Ls) (k : List L.T3) (at' N u v : Int) (hN : U.newN (E.nb x) = N) (hu : L.uses N at' 0 (l.map L.had) = u) (hv : L.uses N at' u k = v) (w : World) (hl : RIn w a n c l) (hk : RIn w a' n' c' k) (hn : n <= 800) (hn' : n' <= 800) (hb : x.b <= 9223372036854775807) (hc : x.c <= 9223372036854775807) :
  Calls Tryz.prog 189 #[.agg #[.int .i64 x.b, .int .i64 x.k, .int .i64 x.c, .int .i64 x.j, .int .i64 x.lo, .int .i64 x.hi, .int .i64 x.dy, .int .i64 x.bl], .slice a n c, .slice a' n' c', .int .i64 at'] w fun e w' => e = .returned (.agg #[.int .i64 N, .int .i64 v]) /\ Below w.heap.size w w' := by
 have HL := Zh hl
 have HK := Zh hk
 have HU := Zh hu
 have HV := Zh hv
 have hlm : (l.map L.had).length = n := by rw [List.length_map]; exact hl.1
 have hkm : k.length = n' := hk.1
 obtain ⟨W0, hW0⟩ : ∃ W, (ebox w x).alloc (.cells #[.int .i64 0, .int .i64 0] 163) = W := ⟨_, rfl⟩
 have B0 : Below w.heap.size w W0 := by rw [<- hW0]; exact (zaq w x).alloc (by rw [zcm]; omega) _
 have KE : Blok W0 w.heap.size 25 #[.int .i64 x.b, .int .i64 x.k, .int .i64 x.c, .int .i64 x.j, .int .i64 x.lo, .int .i64 x.hi, .int .i64 x.dy, .int .i64 x.bl] := by rw [<- hW0]; exact (zau w x).alloc _
 have KR : Blok W0 (w.heap.size + 1) 163 #[.int .i64 0, .int .i64 0] := by
  rw [<- hW0]; have := Blok.new (ebox w x) 163 #[.int .i64 0, .int .i64 0]
  rwa [zcm] at this
 have HB0 := Zh B0
 have HR0 := Zh KR
 have i0 := Zv KE 0 (.int .i64 x.b)
 have i1 := Zv KE 1 (.int .i64 x.k)
 have i2 := Zv KE 2 (.int .i64 x.c)
 have i3 := Zv KE 3 (.int .i64 x.j)
 have i4 := Zv KE 4 (.int .i64 x.lo)
 have i5 := Zv KE 5 (.int .i64 x.hi)
 have i6 := Zv KE 6 (.int .i64 x.dy)
 have i7 := Zv KE 7 (.int .i64 x.bl)
 have cb := zem x _ W0 rfl hb hc
 have cn := fun W => zlf (E.nb x) N _ W rfl hN
 unfold ebox at hW0
 clear hl hk hN hu hv B0 KE KR
 go_enter Tryz.func189, Tryz.ntmps189
 go_wp2_with fail
 refine cb.mono ?_
 rintro e w1 ⟨rfl, hb1⟩
 have HB1 := Zt HB0 hb1
 have HR1 := Zh (HR0.out.below hb1 HR0.out.lt)
 clear cb hb1 hW0 i0 i1 i2 i3 i4 i5 i6 i7
 go_wp2_with fail
 refine (cn _).mono ?_
 rintro e w2 ⟨rfl, hb2⟩
 have HB2 := Zt HB1 hb2
 have HR2 := Zh (HR1.out.below hb2 HR1.out.lt)
 clear cn hb2
 obtain ⟨W3, hW3⟩ : ∃ W, w2.alloc (.cells #[.int .i64 N, .int .i64 0] 163) = W := ⟨_, rfl⟩
 have B3 : Below w2.heap.size w2 W3 := by rw [<- hW3]; exact (Below.refl _ w2).alloc (Nat.le_refl _) _
 have HU3 : Hid (Blok W3 w2.heap.size 163 #[.int .i64 N, .int .i64 0]) := Zh (by rw [<- hW3]; exact Blok.new w2 _ _)
 have HB3 := Zt HB2 B3
 have HR3 := Zh (HR2.out.below B3 HR2.out.lt)
 have hr2 := HR2.out.lt
 have cl := zco a n c l W3 (HL.out.below HB3.out) (by omega)
 have hs3 : W3.heap.size = w2.heap.size + 1 := by rw [<- hW3]; simp
 have HW3 := Zh hW3
 clear B3 hW3
 go_wp2_with fail
 rw [HW3.out]
 refine cl.mono ?_
 rintro e w4 ⟨a4, c4, rfl, hr4, hb4, hf4⟩
 have HB4 := Zt HB3 hb4
 have HR4 := Zh (HR3.out.below hb4 HR3.out.lt)
 have HU4 := Zh (HU3.out.below hb4 HU3.out.lt)
 obtain ⟨bu, hbu⟩ : ∃ b, w2.heap.size = b := ⟨_, rfl⟩
 rw [hbu] at HU4 hr2 hs3 ⊢
 have HF4 : Hid (∀ y, a4 = some y -> bu < y.block) := Zh (fun y hy => by have := hf4.out y hy; omega)
 have hbw : w.heap.size <= bu := by rw [<- hbu]; exact HB2.out.size
 clear cl hb4 hf4 HU3 HW3
 go_wp2_with fail
 go_loopw [24] (fun i wr => ∃ j : Nat, i = .int .i64 j /\ j <= n /\ Hid (Blok wr bu 163 #[.int .i64 N, .int .i64 (L.uses N at' 0 ((l.map L.had).take j))]) /\ Hid (RIn wr a4 n c4 (l.map L.had)) /\ Hid (Blok wr (w.heap.size + 1) 163 #[.int .i64 0, .int .i64 0]) /\ Hid (Below w.heap.size w wr)) (fun i _ => n - (intOf i).toNat)
 case atStart => exact ⟨0, rfl, by omega, HU4, hr4, HR4, HB4⟩
 case round =>
  obtain ⟨j, rfl, hj, HUj, HLj, HRj, HBj⟩ := hrel
  by_cases hlt : j < n
  ·have dj : decide ((j : Int) < n) = true := by simp; omega
   obtain ⟨b, off, y, hay, hbl, hy, p0, p1, p2⟩ := HLj.out.at3 hlt
   have j0 : (0 : Int) <= j := by omega
   have j1 : (j : Int) < n := by omega
   have HS := Zh (L.uses_snoc (N := N) (at' := at') (u := 0) hy)
   obtain ⟨uj, huj⟩ : ∃ q, L.uses N at' 0 ((l.map L.had).take j) = q := ⟨_, rfl⟩
   rw [huj] at HUj HS
   obtain ⟨un, hun⟩ : ∃ q, L.use1 N at' uj y = q := ⟨_, rfl⟩
   have cu := fun W => zfa y N uj at' un hun W
   rw [hun] at HS
   obtain ⟨V, hV⟩ : ∃ V, wr.alloc (.cells #[.int .i64 y.a, .int .i64 y.b, .int .i64 y.x] 108) = V := ⟨_, rfl⟩
   have BV : Below wr.heap.size wr V := by rw [<- hV]; exact (Below.refl _ wr).alloc (Nat.le_refl _) _
   have KV : Blok V wr.heap.size 108 #[.int .i64 y.a, .int .i64 y.b, .int .i64 y.x] := by rw [<- hV]; exact Blok.new wr _ _
   have KU := HUj.out.below BV HUj.out.lt
   have q0 := Zv KV 0 (.int .i64 y.a)
   have q1 := Zv KV 1 (.int .i64 y.b)
   have g0 := Zv KU 0 (.int .i64 N)
   have g1 := Zv KU 1 (.int .i64 uj)
   have HKU := Zh KU
   have HLV := Zh (HLj.out.below BV)
   have HRV := Zh (HRj.out.below BV HRj.out.lt)
   have HBV := Zt HBj BV
   have HAY : Hid (bu < b) := Zh (by have := HF4.out _ hay; exact this)
   have HF := HF4
   subst hay
   clear KV KU BV hy huj hun
   go_wp2_with fail
   refine (cu _).mono ?_
   rintro e w5 ⟨rfl, hb5⟩
   have K5 := HKU.out.below hb5 HKU.out.lt
   have L5 := HLV.out.below hb5
   have R5 := HRV.out.below hb5 HRV.out.lt
   have B5 := HBV.out.trans (hb5.mono HBV.out.size)
   have h0 := Zv K5 0 (.int .i64 N)
   have h1 := Zv K5 1 (.int .i64 uj)
   have f0 := K5.frozen 0
   have f1 := K5.frozen 1
   obtain ⟨K6, G6⟩ := ze0 K5 (.int .i64 N) (.int .i64 un)
   have HK6 := Zh K6
   have HL6 := Zh (L5.grown G6 (fun z hz => by have := HF.out z hz; simp; omega))
   have HR6 := Zh (R5.grown G6 (by simp; omega))
   have HB6 := Zh (B5.grown G6 B5.size (fun i hi => by cases hi; exact hbw))
   clear hb5 cu K5 L5 R5 B5 K6 G6 hV
   go_wp2
   go_roundw
   case rel => exact ⟨j + 1, by go_num, by omega, by rw [HS.out]; exact HK6, HL6, HR6, HB6⟩
   case measure => simp [intOf] <;> omega
  ·have dj : decide ((j : Int) < n) = false := by simp; omega
   have HE : Hid (L.uses N at' 0 ((l.map L.had).take j) = u) := Zh (by rw [List.take_of_length_le (by omega)]; exact HU.out)
   rw [HE.out] at HUj
   have ch := zc9 a' n' c' k wr (HK.out.below HBj.out) (by omega)
   clear HLj
   go_wp2_with fail
   refine ch.mono ?_
   rintro e w7 ⟨a7, c7, rfl, hr7, hb7, hf7⟩
   have HB7 := Zt HBj hb7
   have HR7 := Zh (HRj.out.below hb7 HRj.out.lt)
   have HU7 := Zh (HUj.out.below hb7 HUj.out.lt)
   have HF7 : Hid (∀ y, a7 = some y -> bu < y.block) := Zh (fun y hy => by have := hf7.out y hy; have := HUj.out.lt; omega)
   clear ch hb7 hf7
   go_wp2_with fail
   go_loopw [37] (fun i wr => ∃ j : Nat, i = .int .i64 j /\ j <= n' /\ Hid (Blok wr bu 163 #[.int .i64 N, .int .i64 (L.uses N at' u (k.take j))]) /\ Hid (RIn wr a7 n' c7 k) /\ Hid (Blok wr (w.heap.size + 1) 163 #[.int .i64 0, .int .i64 0]) /\ Hid (Below w.heap.size w wr)) (fun i _ => n' - (intOf i).toNat)
   case atStart => exact ⟨0, rfl, by omega, HU7, hr7, HR7, HB7⟩
   case round =>
    obtain ⟨i, rfl, hi, HUi, HLi, HRi, HBi⟩ := hrel
    by_cases hlt2 : i < n'
    ·have di : decide ((i : Int) < n') = true := by simp; omega
     obtain ⟨b, off, y, hay, hbl, hy, p0, p1, p2⟩ := HLi.out.at3 hlt2
     have j0 : (0 : Int) <= i := by omega
     have j1 : (i : Int) < n' := by omega
     have HS := Zh (L.uses_snoc (N := N) (at' := at') (u := u) hy)
     obtain ⟨uj, huj⟩ : ∃ q, L.uses N at' u (k.take i) = q := ⟨_, rfl⟩
     rw [huj] at HUi HS
     obtain ⟨un, hun⟩ : ∃ q, L.use1 N at' uj y = q := ⟨_, rfl⟩
     have cu := fun W => zfa y N uj at' un hun W
     rw [hun] at HS
     obtain ⟨V, hV⟩ : ∃ V, wr.alloc (.cells #[.int .i64 y.a, .int .i64 y.b, .int .i64 y.x] 183) = V := ⟨_, rfl⟩
     have BV : Below wr.heap.size wr V := by rw [<- hV]; exact (Below.refl _ wr).alloc (Nat.le_refl _) _
     have KV : Blok V wr.heap.size 183 #[.int .i64 y.a, .int .i64 y.b, .int .i64 y.x] := by rw [<- hV]; exact Blok.new wr _ _
     have KU := HUi.out.below BV HUi.out.lt
     have q0 := Zv KV 0 (.int .i64 y.a)
     have q1 := Zv KV 1 (.int .i64 y.b)
     have g0 := Zv KU 0 (.int .i64 N)
     have g1 := Zv KU 1 (.int .i64 uj)
     have HKU := Zh KU
     have HLV := Zh (HLi.out.below BV)
     have HRV := Zh (HRi.out.below BV HRi.out.lt)
     have HBV := Zt HBi BV
     have HF := HF7
     subst hay
     clear KV KU BV hy huj hun
     go_wp2_with fail
     refine (cu _).mono ?_
     rintro e w5 ⟨rfl, hb5⟩
     have K5 := HKU.out.below hb5 HKU.out.lt
     have L5 := HLV.out.below hb5
     have R5 := HRV.out.below hb5 HRV.out.lt
     have B5 := HBV.out.trans (hb5.mono HBV.out.size)
     have h0 := Zv K5 0 (.int .i64 N)
     have h1 := Zv K5 1 (.int .i64 uj)
     have f0 := K5.frozen 0
     have f1 := K5.frozen 1
     obtain ⟨K6, G6⟩ := ze0 K5 (.int .i64 N) (.int .i64 un)
     have HK6 := Zh K6
     have HL6 := Zh (L5.grown G6 (fun z hz => by have := HF.out z hz; simp; omega))
     have HR6 := Zh (R5.grown G6 (by simp; omega))
     have HB6 := Zh (B5.grown G6 B5.size (fun i hi => by cases hi; exact hbw))
     clear hb5 cu K5 L5 R5 B5 K6 G6 hV
     go_wp2
     go_roundw
     case rel => exact ⟨i + 1, by go_num, by omega, by rw [HS.out]; exact HK6, HL6, HR6, HB6⟩
     case measure => simp [intOf] <;> omega
    ·have di : decide ((i : Int) < n') = false := by simp; omega
     have HE2 : Hid (L.uses N at' u (k.take i) = v) := Zh (by rw [List.take_of_length_le (by omega)]; exact HV.out)
     rw [HE2.out] at HUi
     have h0 := Zv HUi.out 0 (.int .i64 N)
     have h1 := Zv HUi.out 1 (.int .i64 v)
     have f0 := HRi.out.frozen 0
     have f1 := HRi.out.frozen 1
     have r0 := Zv HRi.out 0 (.int .i64 0)
     have r1 := Zv HRi.out 1 (.int .i64 0)
     have HFP := Zh (zbs (w := w) (w.heap.size + 1) (by omega) HRi.out HBi.out N v)
     go_wp2
     refine bodyPost_ret (zdn rfl (w.heap.size + 1) N v (by kernel_rfl) HFP.out.1) rfl ?_
     exact ⟨rfl, HFP.out.2⟩
namespace L
theorem has_or {N u i : Int} (h : U.may N u = true) (h0 : 0 <= i) (h1 : i < N) : U.has N u i = !U.off N u i := by
 unfold U.has U.off U.at'
 rw [h, decide_eq_true h0, decide_eq_true h1]
 simp only [Bool.and_self, if_true]
 cases U.bit u i.toNat <;> decide
theorem take_may {N u b : Int} (h : U.may N u = true) : U.may N (U.take N u b) = true := by
 cases ho : U.off N u b with
 | true => exact (U.back ho).1
 | false => rw [U.stay ho]; exact h
theorem take_has {N u b i : Int} (h : U.may N u = true) (h0 : 0 <= i) (h1 : i < N) : U.has N (U.take N u b) i = (U.has N u i || decide (b = i)) := by
 cases ho : U.off N u b with
 | true =>
  by_cases hb : b = i
  ·subst hb; rw [(U.back ho).2.1, decide_eq_true rfl]; simp
  ·rw [U.rest ho (fun e => hb e.symm), decide_eq_false hb]; simp
 | false =>
  rw [U.stay ho]
  by_cases hb : b = i
  ·subst hb; rw [has_or h h0 h1, ho]; rfl
  ·rw [decide_eq_false hb]; simp
theorem use1_may {N at' u : Int} {x : T3} (h : U.may N u = true) : U.may N (use1 N at' u x) = true := by
 unfold use1; split
 ·exact take_may h
 ·exact h
theorem uses_may {N at' : Int} : ∀ (l : List T3) {u : Int}, U.may N u = true -> U.may N (uses N at' u l) = true
 | [], _, h => h
 | x :: l, u, h => uses_may l (u := use1 N at' u x) (use1_may h)
theorem use1_has {N at' u i : Int} {x : T3} (h : U.may N u = true) (h0 : 0 <= i) (h1 : i < N) : U.has N (use1 N at' u x) i = (U.has N u i || isOf at' i x) := by
 unfold use1; split
 ·rename_i hx
  rw [take_has h h0 h1]
  congr 1
  unfold isOf
  by_cases hb : x.b = i
  ·rw [decide_eq_true hb, decide_eq_true ⟨hx, hb⟩]
  ·rw [decide_eq_false hb, decide_eq_false (fun e => hb e.2)]
 ·rename_i hx
  have : isOf at' i x = false := by unfold isOf; exact decide_eq_false (fun e => hx e.1)
  rw [this]; simp
theorem uses_has {N at' i : Int} (h0 : 0 <= i) (h1 : i < N) : ∀ (l : List T3) {u : Int}, U.may N u = true -> U.has N (uses N at' u l) i = (U.has N u i || l.any (isOf at' i))
 | [], u, h => by simp [uses]
 | x :: l, u, h => by
  have := uses_has (at' := at') h0 h1 l (u := use1 N at' u x) (use1_may h)
  rw [show uses N at' u (x :: l) = uses N at' (use1 N at' u x) l from rfl, this, use1_has h h0 h1, List.any_cons, Bool.or_assoc]
theorem new_may (n : Int) : U.may (U.newN n) 0 = true := by
 unfold U.newN
 cases h : U.may n 0 with
 | true => rw [if_pos rfl]; exact h
 | false => rw [if_neg (by simp)]; decide
theorem has_zero (N i : Int) : U.has N 0 i = false := by
 unfold U.has U.at' U.bit
 split
 ·simp [U.num]
 ·decide
theorem find_any (l : List Ls) (a b : Int) : decide (0 <= find l a b) = (l.map had).any (isOf a b) := by
 rcases find_cases l a b with ⟨h, h2⟩ | ⟨i, x, h, hi, ha, hb, _⟩
 ·rw [h]
  symm
  rw [show decide (0 <= (-1 : Int)) = false by decide, List.any_eq_false]
  intro y hy
  obtain ⟨z, hz, rfl⟩ := List.mem_map.1 hy
  intro e
  exact h2 z hz (isOf_iff.1 e)
 ·rw [h]
  symm
  rw [show decide (0 <= (i : Int)) = true from decide_eq_true (by omega), List.any_eq_true]
  exact ⟨had x, List.mem_map.2 ⟨x, List.mem_of_getElem? hi, rfl⟩, isOf_iff.2 ⟨ha, hb⟩⟩
theorem map_has {N at' i u v : Int} {l : List Ls} {k : List T3} {nb : Int} (hN : U.newN nb = N) (hu : uses N at' 0 (l.map had) = u) (hv : uses N at' u k = v) (h0 : 0 <= i) (h1 : i < N) : U.has N v i = (decide (0 <= find l at' i) || k.any (isOf at' i)) := by
 have hm : U.may N 0 = true := by rw [<- hN]; exact new_may nb
 have hm2 : U.may N u = true := by rw [<- hu]; exact uses_may _ hm
 rw [<- hv, uses_has h0 h1 k hm2, <- hu, uses_has h0 h1 _ hm, has_zero, find_any]; simp
theorem map_may {N at' u v : Int} {l : List Ls} {k : List T3} {nb : Int} (hN : U.newN nb = N) (hu : uses N at' 0 (l.map had) = u) (hv : uses N at' u k = v) : U.may N v = true := by
 have hm : U.may N 0 = true := by rw [<- hN]; exact new_may nb
 rw [<- hv]; refine uses_may _ ?_; rw [<- hu]; exact uses_may _ hm
theorem map_first {N at' u v f : Int} {l : List Ls} {k : List T3} {nb : Int} (hN : U.newN nb = N) (hu : uses N at' 0 (l.map had) = u) (hv : uses N at' u k = v) (hf : U.first N v = f) (h0 : 0 <= f) : find l at' f = -1 := by
 have hm := map_may hN hu hv
 obtain ⟨_, h2, h3, _⟩ := U.free_facts hm
 rw [hf] at h2 h3
 have hne : (f == -1) = false := by simp; omega
 have hlen : 0 < (U.free N v).length := by
  rw [hne] at h2
  rcases Nat.eq_zero_or_pos (U.free N v).length with e | e
  ·rw [e] at h2; cases h2
  ·exact e
 rw [decide_eq_true hlen] at h3
 have hin := U.off_in h3
 have hh := map_has (i := f) hN hu hv hin.2.1 hin.2.2
 rw [has_or hm hin.2.1 hin.2.2, h3] at hh
 have h9 : decide (0 <= find l at' f) = false := by
  cases h : decide (0 <= find l at' f) with
  | false => rfl
  | true => rw [h] at hh; cases hh
 have h10 := (find_lt l at' f).1
 have h11 : ¬ (0 <= find l at' f) := by simpa using h9
 omega
end L
open Go.RowKit
instance : L.Rec Int := ⟨1, fun x => [x], fun _ => rfl, by decide⟩
theorem L.flat_int (l : List Int) : L.flat l = l.map (Value.int .i64) := by
 induction l with
 | nil => rfl
 | cons x l ih => rw [L.flat_cons, ih]; rfl
namespace L
def sorted' (l : List Ls) : List Int := (l.map (·.a)).mergeSort fun x y => decide (x <= y)
def busy (l : List Ls) : List Int := Lib.compact (sorted' l)
theorem sorted_le (l : List Ls) : (sorted' l).Pairwise (· <= ·) := by
 unfold sorted'
 have := List.pairwise_mergeSort (le := fun x y : Int => decide (x <= y)) (fun a b c h1 h2 => by simp at *; omega) (fun a b => by simp; omega) (l.map (·.a))
 exact this.imp (fun h => by simpa using h)
theorem sorted_len (l : List Ls) : (sorted' l).length = l.length := by unfold sorted'; simp
theorem compact_facts {zs : List Int} (h : zs.Pairwise (· <= ·)) : ∀ m, m <= zs.length -> (∀ x ∈ Lib.compactUpTo zs.toArray m, ∃ j, j < m /\ zs.toArray[j]! = x) /\ (∀ j, j < m -> zs.toArray[j]! ∈ Lib.compactUpTo zs.toArray m) /\ (Lib.compactUpTo zs.toArray m).Pairwise (· < ·)
 | 0, _ => ⟨fun x hx => by simp [Lib.compactUpTo] at hx, fun j hj => by omega, by simp [Lib.compactUpTo]⟩
 | m + 1, hm => by
  obtain ⟨h1, h2, h3⟩ := compact_facts h m (by omega)
  have hle : ∀ i j, i <= j -> j < zs.length -> zs.toArray[i]! <= zs.toArray[j]! := fun i j hij hj => by
   rw [getElem!_pos _ i (by simp; omega), getElem!_pos _ j (by simpa using hj)]
   rcases Nat.eq_or_lt_of_le hij with rfl | hlt
   ·exact Int.le_refl _
   ·simpa using List.pairwise_iff_getElem.1 h i j (by omega) hj hlt
  rw [Lib.compactUpTo_succ]
  by_cases hk : Lib.keeps zs.toArray m = true
  ·rw [if_pos hk]
   refine ⟨fun x hx => ?_, fun j hj => ?_, ?_⟩
   ·rcases List.mem_append.1 hx with hx | hx
    ·obtain ⟨j, hj, e⟩ := h1 x hx; exact ⟨j, by omega, e⟩
    ·exact ⟨m, by omega, (List.mem_singleton.1 hx).symm⟩
   ·by_cases hjm : j = m
    ·subst hjm; simp
    ·exact List.mem_append_left _ (h2 j (by omega))
   ·rw [List.pairwise_append]
    refine ⟨h3, by simp, fun x hx y hy => ?_⟩
    obtain ⟨j, hj, rfl⟩ := h1 x hx
    obtain rfl : y = zs.toArray[m]! := by simpa using hy
    have hne : m = 0 \/ zs.toArray[m]! ≠ zs.toArray[m - 1]! := by simpa [Lib.keeps] using hk
    have a1 := hle j (m - 1) (by omega) (by omega)
    have a2 := hle (m - 1) m (by omega) (by omega)
    rcases hne with h0 | h0
    ·omega
    ·omega
  ·rw [if_neg hk, List.append_nil]
   have hne : ¬ (m = 0) /\ zs.toArray[m]! = zs.toArray[m - 1]! := by simpa [Lib.keeps] using hk
   refine ⟨fun x hx => ?_, fun j hj => ?_, h3⟩
   ·obtain ⟨j, hj, e⟩ := h1 x hx; exact ⟨j, by omega, e⟩
   ·by_cases hjm : j = m
    ·subst hjm; rw [hne.2]; exact h2 _ (by omega)
    ·exact h2 j (by omega)
theorem busy_mem {l : List Ls} {x : Int} : x ∈ busy l ↔ ∃ y ∈ l, y.a = x := by
 have hf := compact_facts (sorted_le l) _ (Nat.le_refl _)
 have hs : x ∈ sorted' l ↔ ∃ y ∈ l, y.a = x := by unfold sorted'; rw [List.mem_mergeSort, List.mem_map]
 rw [<- hs]
 unfold busy Lib.compact
 constructor
 ·intro h
  obtain ⟨j, hj, rfl⟩ := hf.1 x h
  rw [getElem!_pos _ j (by simpa using hj)]
  simp
 ·intro h
  obtain ⟨j, hj, rfl⟩ := List.mem_iff_getElem.1 h
  have := hf.2.1 j hj
  rw [getElem!_pos _ j (by simpa using hj)] at this
  simpa using this
theorem busy_len (l : List Ls) : (busy l).length <= l.length := by
 unfold busy; rw [<- sorted_len l]; exact Lib.compact_length_le _
theorem adr_snoc {l : List Ls} {j : Nat} {x : Ls} (hx : l[j]? = some x) : (l.take (j + 1)).map (·.a) = (l.take j).map (·.a) ++ [x.a] := by
 rw [take_snoc hx, List.map_append]; rfl
end L
end Go.Proofs.YtonejangijkdmaaGreat
