/-
  lease.Map: useIn, and its two loops.
-/
import Derived.Test.YtbnhaoimdponkaaLList
import Derived.Test.YtbnhaoimdponkaaEBase
import Derived.Test.YtbnhaoimdponkaaUTake
namespace Go.Proofs.Ytbnhaoimdponkaa
open Go.RowKit

namespace L
/-- One block used, if it is of that address. -/
def use1 (N at' u : Int) (x : T3) : Int := if x.a = at' then U.take N u x.b else u
def uses (N at' u : Int) (l : List T3) : Int := l.foldl (use1 N at') u
theorem uses_snoc {N at' u : Int} {l : List T3} {j : Nat} {x : T3} (hx : l[j]? = some x) : uses N at' u (l.take (j + 1)) = use1 N at' (uses N at' u (l.take j)) x := by
  unfold uses; rw [take_snoc hx, List.foldl_append]; rfl
end L
theorem ret_used1 {fn : Func} {p : Tmp} (h : fn.results = #[.cell p 42]) {tmps : Array Value} {w : World} (g : Nat) (a b : Int)
    (hp : tmps.getD p undef = .pointer (some ⟨g, 0, none⟩)) (hg : Blok w g 42 #[.int .i64 a, .int .i64 b]) :
    (results fn tmps).run Try.prog w = .ok (.agg #[.int .i64 a, .int .i64 b]) w := by
  have hp' : tmps[p]?.getD undef = .pointer (some ⟨g, 0, none⟩) := by simpa using hp
  have hl := run_loadVar_row (P := Try.prog) w g 42 42 #[.int .i64 a, .int .i64 b] (0, 0) _ hg Try.underlying42 rfl (by kernel_rfl)
  simp [results, h, hp', asAddr, hl]
theorem set_used {V : World} {g : Nat} {u v : Value} (h : Blok V g 42 #[u, v]) (x y : Value) : Blok ((V.setCell ⟨g, 0, none⟩ x).setCell ⟨g, 1, none⟩ y) g 42 #[x, y] ∧ V.grownBy ((V.setCell ⟨g, 0, none⟩ x).setCell ⟨g, 1, none⟩ y) (some g) := by
  refine ⟨?_, (grown_set _ _ _ _).trans (grown_set _ _ _ _)⟩
  have := (h.set 0 x).set 1 y
  simpa using this

set_option maxRecDepth 100000 in
set_option maxHeartbeats 400000 in
theorem useIn_any (x : L.T3) (N u at' r : Int) (hr : L.use1 N at' u x = r) (w : World) :
    Calls Try.prog 41 #[.agg #[.int .i64 x.a, .int .i64 x.b], .agg #[.int .i64 N, .int .i64 u], .int .i64 at'] w fun e w' => e = .returned (.agg #[.int .i64 N, .int .i64 r]) ∧ Below w.heap.size w w' := by
  obtain ⟨W0, hW0⟩ : ∃ W, ((w.alloc (.cells #[.int .i64 x.a, .int .i64 x.b] 60)).alloc (.cells #[.int .i64 N, .int .i64 u] 42)).alloc (.cells #[.int .i64 0, .int .i64 0] 42) = W := ⟨_, rfl⟩
  have B0 : Below w.heap.size w W0 := by rw [← hW0]; exact (((Below.refl _ w).alloc (Nat.le_refl _) _).alloc (by simp) _).alloc (by simp; omega) _
  have KB : Blok W0 w.heap.size 60 #[.int .i64 x.a, .int .i64 x.b] := by rw [← hW0]; exact ((Blok.new w _ _).alloc _).alloc _
  have KU : Blok W0 (w.heap.size + 1) 42 #[.int .i64 N, .int .i64 u] := by
    rw [← hW0]; have := (Blok.new (w.alloc (.cells #[.int .i64 x.a, .int .i64 x.b] 60)) 42 #[.int .i64 N, .int .i64 u]).alloc (.cells #[.int .i64 0, .int .i64 0] 42)
    rwa [World.size_alloc] at this
  have KR : Blok W0 (w.heap.size + 2) 42 #[.int .i64 0, .int .i64 0] := by
    rw [← hW0]; have := Blok.new ((w.alloc (.cells #[.int .i64 x.a, .int .i64 x.b] 60)).alloc (.cells #[.int .i64 N, .int .i64 u] 42)) 42 #[.int .i64 0, .int .i64 0]
    rwa [World.size_alloc, World.size_alloc] at this
  have HB0 := Lib.hid B0
  have HKU := Lib.hid KU
  have HKR := Lib.hid KR
  have b0 : W0.cell? ⟨w.heap.size, 0, none⟩ = some (.int .i64 x.a) := KB.cell 0
  have b1 : W0.cell? ⟨w.heap.size, 1, none⟩ = some (.int .i64 x.b) := KB.cell 1
  have g0 : W0.cell? ⟨w.heap.size + 1, 0, none⟩ = some (.int .i64 N) := KU.cell 0
  have g1 : W0.cell? ⟨w.heap.size + 1, 1, none⟩ = some (.int .i64 u) := KU.cell 1
  clear B0 KB KU KR
  by_cases h1 : x.a = at'
  · have e1 : (x.a == at') = true := by simpa using h1
    have HR : Hid (U.take N u x.b = r) := Lib.hid (by rw [← hr]; unfold L.use1; rw [if_pos h1])
    have ct := fun W => take_any N u x.b r _ W rfl HR.out
    clear hr h1
    go_enter Try.func41, Try.ntmps41
    go_wp2_with fail
    refine (ct _).mono ?_
    rintro e w2 ⟨rfl, hb2⟩
    have K2 := HKU.out.below hb2 HKU.out.lt
    have HB2 := Lib.hid (HB0.out.trans (hb2.mono HB0.out.size))
    have HR2 := Lib.hid (HKR.out.below hb2 HKR.out.lt)
    clear hb2 ct b0 b1 g0 g1 hW0
    have g0 : w2.cell? ⟨w.heap.size + 1, 0, none⟩ = some (.int .i64 N) := K2.cell 0
    have g1 : w2.cell? ⟨w.heap.size + 1, 1, none⟩ = some (.int .i64 u) := K2.cell 1
    have f0 := K2.frozen 0
    have f1 := K2.frozen 1
    obtain ⟨K3, G3⟩ := set_used K2 (.int .i64 N) (.int .i64 r)
    obtain ⟨w3, hw3⟩ : ∃ W, (w2.setCell ⟨w.heap.size + 1, 0, none⟩ (.int .i64 N)).setCell ⟨w.heap.size + 1, 1, none⟩ (.int .i64 r) = W := ⟨_, rfl⟩
    rw [hw3] at K3 G3
    have HB3 := Lib.hid (HB2.out.grown G3 HB2.out.size (fun k hk => by cases hk; omega))
    have HR3 := Lib.hid (HR2.out.grown G3 (by simp))
    have k0 : w3.cell? ⟨w.heap.size + 1, 0, none⟩ = some (.int .i64 N) := K3.cell 0
    have k1 : w3.cell? ⟨w.heap.size + 1, 1, none⟩ = some (.int .i64 r) := K3.cell 1
    have r0 := HR3.out.frozen 0
    have r1 := HR3.out.frozen 1
    have q0 : w3.cell? ⟨w.heap.size + 2, 0, none⟩ = some (.int .i64 0) := HR3.out.cell 0
    have q1 : w3.cell? ⟨w.heap.size + 2, 1, none⟩ = some (.int .i64 0) := HR3.out.cell 1
    have HFP := Lib.hid (fin_used (w := w) (w.heap.size + 2) (by omega) HR3.out HB3.out N r)
    clear K2 K3 G3
    go_wp2_with fail
    refine bodyPost_ret (ret_used1 rfl (w.heap.size + 2) N r (by kernel_rfl) HFP.out.1) rfl ?_
    exact ⟨rfl, HFP.out.2⟩
  · have e1 : (x.a == at') = false := by simpa using h1
    have HR : Hid (u = r) := Lib.hid (by rw [← hr]; unfold L.use1; rw [if_neg h1])
    have r0 := HKR.out.frozen 0
    have r1 := HKR.out.frozen 1
    have q0 : W0.cell? ⟨w.heap.size + 2, 0, none⟩ = some (.int .i64 0) := HKR.out.cell 0
    have q1 : W0.cell? ⟨w.heap.size + 2, 1, none⟩ = some (.int .i64 0) := HKR.out.cell 1
    have HFP := Lib.hid (fin_used (w := w) (w.heap.size + 2) (by omega) HKR.out HB0.out N u)
    clear hr h1
    go_enter Try.func41, Try.ntmps41
    go_wp2_with fail
    refine bodyPost_ret (ret_used1 rfl (w.heap.size + 2) N u (by kernel_rfl) HFP.out.1) rfl ?_
    exact ⟨by rw [← HR.out], HFP.out.2⟩

set_option maxRecDepth 100000 in
set_option maxHeartbeats 600000 in
theorem map_any (x : E.D) (a a' : Option Addr) (n n' c c' : Nat) (l : List L.Ls) (k : List L.T3) (at' N u v : Int) (hN : U.newN (E.nb x) = N) (hu : L.uses N at' 0 (l.map L.had) = u) (hv : L.uses N at' u k = v) (w : World) (hl : RIn w a n c l) (hk : RIn w a' n' c' k) (hn : n ≤ 800) (hn' : n' ≤ 800) (hb : x.b ≤ 9223372036854775807) (hc : x.c ≤ 9223372036854775807) :
    Calls Try.prog 18 #[.agg #[.int .i64 x.b, .int .i64 x.k, .int .i64 x.c, .int .i64 x.j, .int .i64 x.lo, .int .i64 x.hi, .int .i64 x.dy, .int .i64 x.bl], .slice a n c, .slice a' n' c', .int .i64 at'] w fun e w' => e = .returned (.agg #[.int .i64 N, .int .i64 v]) ∧ Below w.heap.size w w' := by
  have HL := Lib.hid hl
  have HK := Lib.hid hk
  have HU := Lib.hid hu
  have HV := Lib.hid hv
  have hlm : (l.map L.had).length = n := by rw [List.length_map]; exact hl.1
  have hkm : k.length = n' := hk.1
  obtain ⟨W0, hW0⟩ : ∃ W, (ebox w x).alloc (.cells #[.int .i64 0, .int .i64 0] 42) = W := ⟨_, rfl⟩
  have B0 : Below w.heap.size w W0 := by rw [← hW0]; exact (ebox_below w x).alloc (by rw [ebox_size]; omega) _
  have KE : Blok W0 w.heap.size 40 #[.int .i64 x.b, .int .i64 x.k, .int .i64 x.c, .int .i64 x.j, .int .i64 x.lo, .int .i64 x.hi, .int .i64 x.dy, .int .i64 x.bl] := by rw [← hW0]; exact (ebox_blok w x).alloc _
  have KR : Blok W0 (w.heap.size + 1) 42 #[.int .i64 0, .int .i64 0] := by
    rw [← hW0]; have := Blok.new (ebox w x) 42 #[.int .i64 0, .int .i64 0]
    rwa [ebox_size] at this
  have HB0 := Lib.hid B0
  have HR0 := Lib.hid KR
  have i0 : W0.cell? ⟨w.heap.size, 0, none⟩ = some (.int .i64 x.b) := KE.cell 0
  have i1 : W0.cell? ⟨w.heap.size, 1, none⟩ = some (.int .i64 x.k) := KE.cell 1
  have i2 : W0.cell? ⟨w.heap.size, 2, none⟩ = some (.int .i64 x.c) := KE.cell 2
  have i3 : W0.cell? ⟨w.heap.size, 3, none⟩ = some (.int .i64 x.j) := KE.cell 3
  have i4 : W0.cell? ⟨w.heap.size, 4, none⟩ = some (.int .i64 x.lo) := KE.cell 4
  have i5 : W0.cell? ⟨w.heap.size, 5, none⟩ = some (.int .i64 x.hi) := KE.cell 5
  have i6 : W0.cell? ⟨w.heap.size, 6, none⟩ = some (.int .i64 x.dy) := KE.cell 6
  have i7 : W0.cell? ⟨w.heap.size, 7, none⟩ = some (.int .i64 x.bl) := KE.cell 7
  have cb := blocks_any x _ W0 rfl hb hc
  have cn := fun W => new_any (E.nb x) N _ W rfl hN
  unfold ebox at hW0
  clear hl hk hN hu hv B0 KE KR
  go_enter Try.func18, Try.ntmps18
  go_wp2_with fail
  refine cb.mono ?_
  rintro e w1 ⟨rfl, hb1⟩
  have HB1 := Lib.hid (HB0.out.trans (hb1.mono HB0.out.size))
  have HR1 := Lib.hid (HR0.out.below hb1 HR0.out.lt)
  clear cb hb1 hW0 i0 i1 i2 i3 i4 i5 i6 i7
  go_wp2_with fail
  refine (cn _).mono ?_
  rintro e w2 ⟨rfl, hb2⟩
  have HB2 := Lib.hid (HB1.out.trans (hb2.mono HB1.out.size))
  have HR2 := Lib.hid (HR1.out.below hb2 HR1.out.lt)
  clear cn hb2
  obtain ⟨W3, hW3⟩ : ∃ W, w2.alloc (.cells #[.int .i64 N, .int .i64 0] 42) = W := ⟨_, rfl⟩
  have B3 : Below w2.heap.size w2 W3 := by rw [← hW3]; exact (Below.refl _ w2).alloc (Nat.le_refl _) _
  have HU3 : Hid (Blok W3 w2.heap.size 42 #[.int .i64 N, .int .i64 0]) := Lib.hid (by rw [← hW3]; exact Blok.new w2 _ _)
  have HB3 := Lib.hid (HB2.out.trans (B3.mono HB2.out.size))
  have HR3 := Lib.hid (HR2.out.below B3 HR2.out.lt)
  have hr2 := HR2.out.lt
  have cl := leases_is a n c l W3 (HL.out.below HB3.out) (by omega)
  have hs3 : W3.heap.size = w2.heap.size + 1 := by rw [← hW3]; simp
  have HW3 := Lib.hid hW3
  clear B3 hW3
  go_wp2_with fail
  rw [HW3.out]
  refine cl.mono ?_
  rintro e w4 ⟨a4, c4, rfl, hr4, hb4, hf4⟩
  have HB4 := Lib.hid (HB3.out.trans (hb4.mono HB3.out.size))
  have HR4 := Lib.hid (HR3.out.below hb4 HR3.out.lt)
  have HU4 := Lib.hid (HU3.out.below hb4 HU3.out.lt)
  obtain ⟨bu, hbu⟩ : ∃ b, w2.heap.size = b := ⟨_, rfl⟩
  rw [hbu] at HU4 hr2 hs3 ⊢
  have HF4 : Hid (∀ y, a4 = some y → bu < y.block) := Lib.hid (fun y hy => by have := hf4.out y hy; omega)
  have hbw : w.heap.size ≤ bu := by rw [← hbu]; exact HB2.out.size
  clear cl hb4 hf4 HU3 HW3
  go_wp2_with fail
  go_loopw [24] (fun i wr => ∃ j : Nat, i = .int .i64 j ∧ j ≤ n ∧ Hid (Blok wr bu 42 #[.int .i64 N, .int .i64 (L.uses N at' 0 ((l.map L.had).take j))]) ∧ Hid (RIn wr a4 n c4 (l.map L.had)) ∧ Hid (Blok wr (w.heap.size + 1) 42 #[.int .i64 0, .int .i64 0]) ∧ Hid (Below w.heap.size w wr)) (fun i _ => n - (intOf i).toNat)
  case atStart => exact ⟨0, rfl, by omega, HU4, hr4, HR4, HB4⟩
  case round =>
    obtain ⟨j, rfl, hj, HUj, HLj, HRj, HBj⟩ := hrel
    by_cases hlt : j < n
    · have dj : decide ((j : Int) < n) = true := by simp; omega
      obtain ⟨b, off, y, hay, hbl, hy, p0, p1, p2⟩ := HLj.out.at3 hlt
      have j0 : (0 : Int) ≤ j := by omega
      have j1 : (j : Int) < n := by omega
      have HS := Lib.hid (L.uses_snoc (N := N) (at' := at') (u := 0) hy)
      obtain ⟨uj, huj⟩ : ∃ q, L.uses N at' 0 ((l.map L.had).take j) = q := ⟨_, rfl⟩
      rw [huj] at HUj HS
      obtain ⟨un, hun⟩ : ∃ q, L.use1 N at' uj y = q := ⟨_, rfl⟩
      have cu := fun W => useIn_any y N uj at' un hun W
      rw [hun] at HS
      obtain ⟨V, hV⟩ : ∃ V, wr.alloc (.cells #[.int .i64 y.a, .int .i64 y.b, .int .i64 y.x] 66) = V := ⟨_, rfl⟩
      have BV : Below wr.heap.size wr V := by rw [← hV]; exact (Below.refl _ wr).alloc (Nat.le_refl _) _
      have KV : Blok V wr.heap.size 66 #[.int .i64 y.a, .int .i64 y.b, .int .i64 y.x] := by rw [← hV]; exact Blok.new wr _ _
      have KU := HUj.out.below BV HUj.out.lt
      have q0 : V.cell? ⟨wr.heap.size, 0, none⟩ = some (.int .i64 y.a) := KV.cell 0
      have q1 : V.cell? ⟨wr.heap.size, 1, none⟩ = some (.int .i64 y.b) := KV.cell 1
      have g0 : V.cell? ⟨bu, 0, none⟩ = some (.int .i64 N) := KU.cell 0
      have g1 : V.cell? ⟨bu, 1, none⟩ = some (.int .i64 uj) := KU.cell 1
      have HKU := Lib.hid KU
      have HLV := Lib.hid (HLj.out.below BV)
      have HRV := Lib.hid (HRj.out.below BV HRj.out.lt)
      have HBV := Lib.hid (HBj.out.trans (BV.mono HBj.out.size))
      have HAY : Hid (bu < b) := Lib.hid (by have := HF4.out _ hay; exact this)
      have HF := HF4
      subst hay
      clear KV KU BV hy huj hun
      go_wp2_with fail
      refine (cu _).mono ?_
      rintro e w5 ⟨rfl, hb5⟩
      have K5 := HKU.out.below hb5 HKU.out.lt
      have L5 := HLV.out.below hb5
      have R5 := HRV.out.below hb5 HRV.out.lt
      have B5 := HBV.out.trans (hb5.mono HBV.out.size)
      have h0 : w5.cell? ⟨bu, 0, none⟩ = some (.int .i64 N) := K5.cell 0
      have h1 : w5.cell? ⟨bu, 1, none⟩ = some (.int .i64 uj) := K5.cell 1
      have f0 := K5.frozen 0
      have f1 := K5.frozen 1
      obtain ⟨K6, G6⟩ := set_used K5 (.int .i64 N) (.int .i64 un)
      have HK6 := Lib.hid K6
      have HL6 := Lib.hid (L5.grown G6 (fun z hz => by have := HF.out z hz; simp; omega))
      have HR6 := Lib.hid (R5.grown G6 (by simp; omega))
      have HB6 := Lib.hid (B5.grown G6 B5.size (fun i hi => by cases hi; exact hbw))
      clear hb5 cu K5 L5 R5 B5 K6 G6 hV
      go_wp2
      go_roundw
      case rel => exact ⟨j + 1, by go_num, by omega, by rw [HS.out]; exact HK6, HL6, HR6, HB6⟩
      case measure => simp [intOf] <;> omega
    · have dj : decide ((j : Int) < n) = false := by simp; omega
      have HE : Hid (L.uses N at' 0 ((l.map L.had).take j) = u) := Lib.hid (by rw [List.take_of_length_le (by omega)]; exact HU.out)
      rw [HE.out] at HUj
      have ch := helds_is a' n' c' k wr (HK.out.below HBj.out) (by omega)
      clear HLj
      go_wp2_with fail
      refine ch.mono ?_
      rintro e w7 ⟨a7, c7, rfl, hr7, hb7, hf7⟩
      have HB7 := Lib.hid (HBj.out.trans (hb7.mono HBj.out.size))
      have HR7 := Lib.hid (HRj.out.below hb7 HRj.out.lt)
      have HU7 := Lib.hid (HUj.out.below hb7 HUj.out.lt)
      have HF7 : Hid (∀ y, a7 = some y → bu < y.block) := Lib.hid (fun y hy => by have := hf7.out y hy; have := HUj.out.lt; omega)
      clear ch hb7 hf7
      go_wp2_with fail
      go_loopw [37] (fun i wr => ∃ j : Nat, i = .int .i64 j ∧ j ≤ n' ∧ Hid (Blok wr bu 42 #[.int .i64 N, .int .i64 (L.uses N at' u (k.take j))]) ∧ Hid (RIn wr a7 n' c7 k) ∧ Hid (Blok wr (w.heap.size + 1) 42 #[.int .i64 0, .int .i64 0]) ∧ Hid (Below w.heap.size w wr)) (fun i _ => n' - (intOf i).toNat)
      case atStart => exact ⟨0, rfl, by omega, HU7, hr7, HR7, HB7⟩
      case round =>
        obtain ⟨i, rfl, hi, HUi, HLi, HRi, HBi⟩ := hrel
        by_cases hlt2 : i < n'
        · have di : decide ((i : Int) < n') = true := by simp; omega
          obtain ⟨b, off, y, hay, hbl, hy, p0, p1, p2⟩ := HLi.out.at3 hlt2
          have j0 : (0 : Int) ≤ i := by omega
          have j1 : (i : Int) < n' := by omega
          have HS := Lib.hid (L.uses_snoc (N := N) (at' := at') (u := u) hy)
          obtain ⟨uj, huj⟩ : ∃ q, L.uses N at' u (k.take i) = q := ⟨_, rfl⟩
          rw [huj] at HUi HS
          obtain ⟨un, hun⟩ : ∃ q, L.use1 N at' uj y = q := ⟨_, rfl⟩
          have cu := fun W => useIn_any y N uj at' un hun W
          rw [hun] at HS
          obtain ⟨V, hV⟩ : ∃ V, wr.alloc (.cells #[.int .i64 y.a, .int .i64 y.b, .int .i64 y.x] 80) = V := ⟨_, rfl⟩
          have BV : Below wr.heap.size wr V := by rw [← hV]; exact (Below.refl _ wr).alloc (Nat.le_refl _) _
          have KV : Blok V wr.heap.size 80 #[.int .i64 y.a, .int .i64 y.b, .int .i64 y.x] := by rw [← hV]; exact Blok.new wr _ _
          have KU := HUi.out.below BV HUi.out.lt
          have q0 : V.cell? ⟨wr.heap.size, 0, none⟩ = some (.int .i64 y.a) := KV.cell 0
          have q1 : V.cell? ⟨wr.heap.size, 1, none⟩ = some (.int .i64 y.b) := KV.cell 1
          have g0 : V.cell? ⟨bu, 0, none⟩ = some (.int .i64 N) := KU.cell 0
          have g1 : V.cell? ⟨bu, 1, none⟩ = some (.int .i64 uj) := KU.cell 1
          have HKU := Lib.hid KU
          have HLV := Lib.hid (HLi.out.below BV)
          have HRV := Lib.hid (HRi.out.below BV HRi.out.lt)
          have HBV := Lib.hid (HBi.out.trans (BV.mono HBi.out.size))
          have HF := HF7
          subst hay
          clear KV KU BV hy huj hun
          go_wp2_with fail
          refine (cu _).mono ?_
          rintro e w5 ⟨rfl, hb5⟩
          have K5 := HKU.out.below hb5 HKU.out.lt
          have L5 := HLV.out.below hb5
          have R5 := HRV.out.below hb5 HRV.out.lt
          have B5 := HBV.out.trans (hb5.mono HBV.out.size)
          have h0 : w5.cell? ⟨bu, 0, none⟩ = some (.int .i64 N) := K5.cell 0
          have h1 : w5.cell? ⟨bu, 1, none⟩ = some (.int .i64 uj) := K5.cell 1
          have f0 := K5.frozen 0
          have f1 := K5.frozen 1
          obtain ⟨K6, G6⟩ := set_used K5 (.int .i64 N) (.int .i64 un)
          have HK6 := Lib.hid K6
          have HL6 := Lib.hid (L5.grown G6 (fun z hz => by have := HF.out z hz; simp; omega))
          have HR6 := Lib.hid (R5.grown G6 (by simp; omega))
          have HB6 := Lib.hid (B5.grown G6 B5.size (fun i hi => by cases hi; exact hbw))
          clear hb5 cu K5 L5 R5 B5 K6 G6 hV
          go_wp2
          go_roundw
          case rel => exact ⟨i + 1, by go_num, by omega, by rw [HS.out]; exact HK6, HL6, HR6, HB6⟩
          case measure => simp [intOf] <;> omega
        · have di : decide ((i : Int) < n') = false := by simp; omega
          have HE2 : Hid (L.uses N at' u (k.take i) = v) := Lib.hid (by rw [List.take_of_length_le (by omega)]; exact HV.out)
          rw [HE2.out] at HUi
          have h0 : wr.cell? ⟨bu, 0, none⟩ = some (.int .i64 N) := HUi.out.cell 0
          have h1 : wr.cell? ⟨bu, 1, none⟩ = some (.int .i64 v) := HUi.out.cell 1
          have f0 := HRi.out.frozen 0
          have f1 := HRi.out.frozen 1
          have r0 : wr.cell? ⟨w.heap.size + 1, 0, none⟩ = some (.int .i64 0) := HRi.out.cell 0
          have r1 : wr.cell? ⟨w.heap.size + 1, 1, none⟩ = some (.int .i64 0) := HRi.out.cell 1
          have HFP := Lib.hid (fin_used (w := w) (w.heap.size + 1) (by omega) HRi.out HBi.out N v)
          go_wp2
          refine bodyPost_ret (ret_used1 rfl (w.heap.size + 1) N v (by kernel_rfl) HFP.out.1) rfl ?_
          exact ⟨rfl, HFP.out.2⟩
end Go.Proofs.Ytbnhaoimdponkaa
