import Derived.Test.YtnbkkjcmblfhpaaGreatP13
import Derived.Test.YtnbkkjcmblfhpaaGreatP29
import Derived.Test.YtnbkkjcmblfhpaaGreatP28
import Derived.Test.YtnbkkjcmblfhpaaGreatP8
namespace Go.Proofs.YtnbkkjcmblfhpaaGreat
set_option maxHeartbeats 3000000
set_option maxRecDepth 100000
open Go.RowKit
theorem box0 {w w1 w2 : World} {t1 : TypeId} {z1 c1 : Array Value} (h1 : w.alloc (.cells z1 t1) = w1) (h3 : w1.setRow w.heap.size c1 = w2) :
  Blok w1 w.heap.size t1 z1 /\ Blok w2 w.heap.size t1 c1 /\ Below w.heap.size w w2 /\ w1.heap.size = w.heap.size + 1 := by
 have e1 : w1.heap.size = w.heap.size + 1 := by rw [<- h1]; simp
 have k1 : Blok w1 w.heap.size t1 z1 := by rw [<- h1]; exact Blok.new w t1 z1
 have g1 : w1.grownBy w2 (some w.heap.size) := by rw [<- h3]; exact zbr _ _ _
 have hb1 : Below w.heap.size w w1 := by rw [<- h1]; exact (Below.refl _ w).alloc (Nat.le_refl _) _
 exact ⟨k1, by rw [<- h3]; exact k1.put _, hb1.grown g1 hb1.size (fun q hq => by cases hq; exact Nat.le_refl _), e1⟩
theorem zl0 (a a' : Option Addr) (n n' c c' : Nat) (b : Bool) (hb : (decide (n <= 40) && decide (n' <= 40)) = b) (w : World) :
  Calls Tryz.prog 37 #[.slice a n c, .slice a' n' c'] w fun e w' => e = .returned (.bool b) /\ Below w.heap.size w w' := by
 by_cases h1 : n <= 40
 ·have d1 : decide ((n : Int) <= 40) = true := by simp; omega
  have d2 : decide (n <= 40) = true := by simpa using h1
  obtain ⟨u, hu⟩ : ∃ u, decide (n' <= 40) = u := ⟨_, rfl⟩
  have d3 : decide ((n' : Int) <= 40) = u := by rw [<- hu]; congr 1; simp; omega
  have HE : Hid (b = u) := Zh (by rw [<- hb, d2, hu]; rfl)
  clear hb
  go_enter Tryz.func37, Tryz.ntmps37
  go_wp2
  go_ret
  exact ⟨by rw [HE.out]; rfl, Below.refl _ _⟩
 ·have d1 : decide ((n : Int) <= 40) = false := by simp; omega
  have d2 : decide (n <= 40) = false := by simpa using h1
  have HE : Hid (b = false) := Zh (by rw [<- hb, d2]; rfl)
  clear hb
  go_enter Tryz.func37, Tryz.ntmps37
  go_wp2
  go_ret
  exact ⟨by rw [HE.out]; rfl, Below.refl _ _⟩
theorem zjo {fn : Func} {p : Tmp} (h : fn.results = #[.cell p 30]) {tmps : Array Value} {V : World} (g : Nat) {cs : Array Value} (hz : cs.size = 8)
  (hp : tmps.getD p undef = .pointer (some ⟨g, 0, none⟩)) (hg : Blok V g 30 cs) :
  (results fn tmps).run Tryz.prog V = .ok (.agg cs) V := by
 have hp' : tmps[p]?.getD undef = .pointer (some ⟨g, 0, none⟩) := by simpa using hp
 have hl := run_loadVar_row (P := Tryz.prog) V g 30 30 cs (0, 0) _ hg Tryz.underlying30 rfl (by rw [hz]; kernel_rfl)
 simp [results, h, hp', asAddr, hl]
theorem zjp (w : World) : Calls Tryz.prog 79 #[] w fun e w' => e = .returned (.agg #[.int .i64 167772160, .int .i64 31, .int .i64 184549376, .int .i64 32, .int .i64 1000, .int .i64 1099, .int .i64 20, .int .i64 10]) /\ Below w.heap.size w w' := by
 have HB0 := Zh (Below.refl w.heap.size w)
 obtain ⟨w1, he1⟩ : ∃ W, w.alloc (.cells #[.int .i64 0, .int .i64 0, .int .i64 0, .int .i64 0, .int .i64 0, .int .i64 0, .int .i64 0, .int .i64 0] 30) = W := ⟨_, rfl⟩
 obtain ⟨w2, hp2⟩ : ∃ W, w1.setRow w.heap.size #[.int .i64 167772160, .int .i64 31, .int .i64 184549376, .int .i64 32, .int .i64 1000, .int .i64 1099, .int .i64 20, .int .i64 10] = W := ⟨_, rfl⟩
 obtain ⟨kz1, ka, hb, hsz⟩ := box0 he1 hp2
 have HZ2 := Zh kz1
 have HP2 := Zh hp2
 have KA := Zh ka
 have HB2 := Zh hb
 clear hsz kz1 ka hb hp2 HB0
 go_enter Tryz.func79, Tryz.ntmps79
 go_wp2_with (refine Zw HZ2.out HP2.out ?_)
 refine bodyPost_ret (zjo rfl w.heap.size rfl (by kernel_rfl) KA.out) rfl ?_
 exact ⟨rfl, HB2.out⟩
theorem zcx (s : Y.St) (ap : Option Addr) (np cp : Nat) (al : Option Addr) (nl cl : Nat) (ah : Option Addr) (nh ch : Nat) (v : Bool) (hv : (decide (nl <= 40) && decide (nh <= 40) && decide (np <= 6)) = v) (w : World) :
  Calls Tryz.prog 12 #[.agg #[.int .i64 s.d.b, .int .i64 s.d.k, .int .i64 s.d.c, .int .i64 s.d.j, .int .i64 s.d.lo, .int .i64 s.d.hi, .int .i64 s.d.dy, .int .i64 s.d.bl, .int .i64 s.p.q, .int .i64 s.p.i, .int .i64 s.p.h, .bool s.p.pair, .int .i64 s.now, .slice ap np cp, .slice al nl cl, .slice ah nh ch]] w fun e w' => e = .returned (.bool v) /\ Below w.heap.size w w' := by
 have HB0 := Zh (Below.refl w.heap.size w)
 obtain ⟨w1, hw1, hb, hk⟩ := Zn w 37 #[.int .i64 s.d.b, .int .i64 s.d.k, .int .i64 s.d.c, .int .i64 s.d.j, .int .i64 s.d.lo, .int .i64 s.d.hi, .int .i64 s.d.dy, .int .i64 s.d.bl, .int .i64 s.p.q, .int .i64 s.p.i, .int .i64 s.p.h, .bool s.p.pair, .int .i64 s.now, .slice ap np cp, .slice al nl cl, .slice ah nh ch]
 replace HB0 := Zt HB0 hb
 have KS1 := Zh hk
 clear hb hk
 have c0 := Y.cs16 KS1.out
 obtain ⟨u, hu⟩ : ∃ u, (decide (nl <= 40) && decide (nh <= 40)) = u := ⟨_, rfl⟩
 obtain ⟨u2, hu2⟩ : ∃ u, decide (np <= 6) = u := ⟨_, rfl⟩
 have HV : Hid (v = (u && u2)) := Zh (by rw [<- hv, hu, hu2])
 have HU := Zh hu
 have d1 : decide ((np : Int) <= 6) = u2 := by rw [<- hu2]; congr 1; simp; omega
 clear hv hu
 go_enter Tryz.func12, Tryz.ntmps12
 go_wp2_with fail
 try rw [hw1]
 refine (zl0 al ah nl nh cl ch u HU.out w1).mono ?_
 clear c0
 rintro e w2 ⟨rfl, hb⟩
 replace KS1 := Zk KS1 hb
 replace HB0 := Zt HB0 hb
 clear hb
 have c0 := Y.cs16 KS1.out
 clear hw1
 cases u with
 | false =>
  go_wp2
  go_ret
  exact ⟨by rw [HV.out]; rfl, HB0.out⟩
 | true =>
  go_wp2
  go_ret
  exact ⟨by rw [HV.out]; rfl, HB0.out⟩
end Go.Proofs.YtnbkkjcmblfhpaaGreat
namespace Go.Proofs.YtnbkkjcmblfhpaaGreat
set_option maxHeartbeats 1000000
set_option maxRecDepth 100000
open Go.RowKit
namespace G
theorem ret_ws {fn : Func} {p q : Tmp} (h : fn.results = #[.cell p 26, .cell q 37]) {tmps : Array Value} {V : World} (g g2 : Nat) {x y z u : Value} {cs : Array Value} (hz : cs.size = 16)
  (hp : tmps.getD p undef = .pointer (some ⟨g, 0, none⟩)) (hq : tmps.getD q undef = .pointer (some ⟨g2, 0, none⟩)) (hg : Blok V g 26 #[x, y, z, u]) (hg2 : Blok V g2 37 cs) :
  (results fn tmps).run Tryz.prog V = .ok (.tuple #[.agg #[x, y, z, u], .agg cs]) V := by
 have hp' : tmps[p]?.getD undef = .pointer (some ⟨g, 0, none⟩) := by simpa using hp
 have hq' : tmps[q]?.getD undef = .pointer (some ⟨g2, 0, none⟩) := by simpa using hq
 have hl := run_loadVar_row (P := Tryz.prog) V g 26 26 #[x, y, z, u] (0, 0) _ hg Tryz.underlying26 rfl info_wal
 have hl2 := run_loadVar_row (P := Tryz.prog) V g2 37 37 cs (0, 0) _ hg2 Tryz.underlying37 rfl (by rw [hz]; kernel_rfl)
 simp [results, h, hp', hq', asAddr, hl, hl2, Result.andThen]
end G
theorem G.start_any (w : World) :
  Calls Tryz.prog 35 #[] w fun e w' => ∃ (a : Option Addr) (n c : Nat) (ys : List FP), e = .returned (.tuple #[.agg #[.int .i64 2000, .slice a n c, .int .i64 1, .int .i64 0], .agg #[.int .i64 167772160, .int .i64 31, .int .i64 184549376, .int .i64 32, .int .i64 1000, .int .i64 1099, .int .i64 20, .int .i64 10, .int .i64 1, .int .i64 9, .int .i64 5, .bool false, .int .i64 0, .slice none 0 0, .slice none 0 0, .slice none 0 0]]) /\ Hid (zf0 w' a n c ys) /\ Hid (FP.files ys = G.w0.1.2) /\ Below w.heap.size w w' := by
 have HB0 := Zh (Below.refl w.heap.size w)
 obtain ⟨w1, hw1, hb, hk⟩ := Zn w 26 #[.int .i64 0, .slice none 0 0, .int .i64 0, .int .i64 0]
 replace HB0 := Zt HB0 hb
 have KA1 := Zh hk
 clear hb hk
 have HKA0 := Zh KA1.out.lt
 have HW19 := Zh HB0.out.size
 obtain ⟨w2, hw2, hb, hk⟩ := Zn w1 37 #[.int .i64 0, .int .i64 0, .int .i64 0, .int .i64 0, .int .i64 0, .int .i64 0, .int .i64 0, .int .i64 0, .int .i64 0, .int .i64 0, .int .i64 0, .bool false, .int .i64 0, .slice none 0 0, .slice none 0 0, .slice none 0 0]
 replace KA1 := Zk KA1 hb
 replace HB0 := Zt HB0 hb
 have KB2 := Zh hk
 clear hb hk
 have HS9 : Hid (w.heap.size <= w1.heap.size /\ w.heap.size ≠ w1.heap.size) := Zh ⟨HW19.out, fun e => by have h1 := HKA0.out; omega⟩
 go_enter Tryz.func35, Tryz.ntmps35
 go_wp2_with fail
 try rw [hw1]
 try rw [hw2]
 refine (zjp w2).mono ?_
 rintro e w3 ⟨rfl, hb⟩
 replace KA1 := Zk KA1 hb
 replace KB2 := Zk KB2 hb
 replace HB0 := Zt HB0 hb
 clear hb
 clear hw1 hw2
 go_wp2_with fail
 refine (zlz ⟨167772160, 31, 184549376, 32, 1000, 1099, 20, 10⟩ ⟨1, 9, 5, false⟩ w3 (by decide) (by decide) (by decide +kernel)).mono ?_
 rintro e w4 ⟨rfl, hb⟩
 replace KA1 := Zk KA1 hb
 replace KB2 := Zk KB2 hb
 replace HB0 := Zt HB0 hb
 clear hb
 have HSA : Hid (w.heap.size < w4.heap.size /\ w1.heap.size < w4.heap.size) := Zh ⟨KA1.out.lt, KB2.out.lt⟩
 obtain ⟨w5, hw5, hb, hk⟩ := Zn w4 37 #[.int .i64 167772160, .int .i64 31, .int .i64 184549376, .int .i64 32, .int .i64 1000, .int .i64 1099, .int .i64 20, .int .i64 10, .int .i64 1, .int .i64 9, .int .i64 5, .bool false, .int .i64 0, .slice none 0 0, .slice none 0 0, .slice none 0 0]
 replace KA1 := Zk KA1 hb
 replace KB2 := Zk KB2 hb
 replace HB0 := Zt HB0 hb
 have KS5 := Zh hk
 clear hb hk
 obtain ⟨wz5, hz5⟩ : ∃ W, w4.alloc (.cells #[.int .i64 0, .int .i64 0, .int .i64 0, .int .i64 0, .int .i64 0, .int .i64 0, .int .i64 0, .int .i64 0, .int .i64 0, .int .i64 0, .int .i64 0, .bool false, .int .i64 0, .slice none 0 0, .slice none 0 0, .slice none 0 0] 37) = W := ⟨_, rfl⟩
 have HZK5 : Hid (Blok wz5 w4.heap.size 37 #[.int .i64 0, .int .i64 0, .int .i64 0, .int .i64 0, .int .i64 0, .int .i64 0, .int .i64 0, .int .i64 0, .int .i64 0, .int .i64 0, .int .i64 0, .bool false, .int .i64 0, .slice none 0 0, .slice none 0 0, .slice none 0 0]) := Zh (by rw [<- hz5]; exact Blok.new w4 _ _)
 have HPZ5 : Hid (wz5.setRow w4.heap.size #[.int .i64 167772160, .int .i64 31, .int .i64 184549376, .int .i64 32, .int .i64 1000, .int .i64 1099, .int .i64 20, .int .i64 10, .int .i64 1, .int .i64 9, .int .i64 5, .bool false, .int .i64 0, .slice none 0 0, .slice none 0 0, .slice none 0 0] = w5) := Zh (by rw [<- hz5, World.setRow_alloc_new, hw5])
 clear hw5
 go_wp2_with (refine Zw HZK5.out HPZ5.out ?_)
 refine (zws 2000 true w5 (decide_eq_true (G.may0 2000 (by decide)))).mono ?_
 rintro e w6 ⟨rfl, hb⟩
 replace KA1 := Zk KA1 hb
 replace KB2 := Zk KB2 hb
 replace KS5 := Zk KS5 hb
 replace HB0 := Zt HB0 hb
 clear hb
 obtain ⟨w7, hw7, hb, hk⟩ := Zn w6 24 #[.int .i64 2000, .slice none 0 0]
 replace KA1 := Zk KA1 hb
 replace KB2 := Zk KB2 hb
 replace KS5 := Zk KS5 hb
 replace HB0 := Zt HB0 hb
 have KD7 := Zh hk
 clear hb hk
 obtain ⟨wz7, hz7⟩ : ∃ W, w6.alloc (.cells #[.int .i64 0, .slice none 0 0] 24) = W := ⟨_, rfl⟩
 have HZK7 : Hid (Blok wz7 w6.heap.size 24 #[.int .i64 0, .slice none 0 0]) := Zh (by rw [<- hz7]; exact Blok.new w6 _ _)
 have HPZ7 : Hid (wz7.setRow w6.heap.size #[.int .i64 2000, .slice none 0 0] = w7) := Zh (by rw [<- hz7, World.setRow_alloc_new, hw7])
 clear hw7
 have HNL0 : Hid (w.heap.size < w7.heap.size /\ w1.heap.size < w7.heap.size) := Zh ⟨KA1.out.lt, KB2.out.lt⟩
 have hp := G.new_any 2000 none 0 0 [] (⟨⟨167772160, 31, 184549376, 32, 1000, 1099, 20, 10⟩, ⟨1, 9, 5, false⟩, 0, [], [], []⟩ : Y.St) none 0 0 none 0 0 none 0 0 w7 (zf0.empty _) zv3 ⟨QIn.nil _, RIn.nil _, RIn.nil _⟩ ⟨Nat.zero_le _, Nat.zero_le _, Nat.zero_le _, (fun x hx => by cases hx), by decide, by decide⟩
 rw [show G.new (2000, FP.files []) (⟨⟨167772160, 31, 184549376, 32, 1000, 1099, 20, 10⟩, ⟨1, 9, 5, false⟩, 0, [], [], []⟩ : Y.St) = (G.w0, 0) from G.new00] at hp
 have HZS := Zh (KS5.out.lt)
 go_wp2_with (first | (refine Zw HZK7.out HPZ7.out ?_) | (refine zak KS5.out rfl rfl (by kernel_rfl) Tryz.underlying37 rfl (by kernel_rfl) ?_) | (refine zak KD7.out rfl rfl (by kernel_rfl) Tryz.underlying24 rfl (by kernel_rfl) ?_))
 refine (hp).mono ?_
 rintro e w8 ⟨a, n, c, ys, rfl, HDq, HFF, HXX, hb⟩
 replace KA1 := Zk KA1 hb
 replace KB2 := Zk KB2 hb
 replace KS5 := Zk KS5 hb
 replace KD7 := Zk KD7 hb
 replace HB0 := Zt HB0 hb
 clear hb
 have HDD8 := HDq
 clear hp HDq
 have HNL : Hid (w.heap.size < w7.heap.size /\ w1.heap.size < w7.heap.size) := HNL0
 have HXA : Hid (w.heap.size < w8.heap.size /\ w1.heap.size < w8.heap.size) := Zh ⟨KA1.out.lt, KB2.out.lt⟩
 obtain ⟨w9, hw9, hb, hk⟩ := Zn w8 26 #[.int .i64 2000, .slice a n c, .int .i64 1, .int .i64 0]
 replace KA1 := Zk KA1 hb
 replace KB2 := Zk KB2 hb
 replace KS5 := Zk KS5 hb
 replace KD7 := Zk KD7 hb
 replace HDD8 := Zh (HDD8.out.below hb)
 replace HB0 := Zt HB0 hb
 have KX9 := Zh hk
 clear hb hk
 obtain ⟨wz9, hz9⟩ : ∃ W, w8.alloc (.cells #[.int .i64 0, .slice none 0 0, .int .i64 0, .int .i64 0] 26) = W := ⟨_, rfl⟩
 have HZK9 : Hid (Blok wz9 w8.heap.size 26 #[.int .i64 0, .slice none 0 0, .int .i64 0, .int .i64 0]) := Zh (by rw [<- hz9]; exact Blok.new w8 _ _)
 have HPZ9 : Hid (wz9.setRow w8.heap.size #[.int .i64 2000, .slice a n c, .int .i64 1, .int .i64 0] = w9) := Zh (by rw [<- hz9, World.setRow_alloc_new, hw9])
 clear hw9
 have HR0 : Hid (Blok (World.drew w9) w8.heap.size 26 #[.int .i64 2000, .slice a n c, .int .i64 1, .int .i64 0] /\ Blok (World.drew w9) w4.heap.size 37 #[.int .i64 167772160, .int .i64 31, .int .i64 184549376, .int .i64 32, .int .i64 1000, .int .i64 1099, .int .i64 20, .int .i64 10, .int .i64 1, .int .i64 9, .int .i64 5, .bool false, .int .i64 0, .slice none 0 0, .slice none 0 0, .slice none 0 0]) := Zh ⟨KX9.out.below (zaa _) KX9.out.lt, KS5.out.below (zaa _) KS5.out.lt⟩
 obtain ⟨wd, hwd⟩ : ∃ V, World.drew w9 = V := ⟨_, rfl⟩
 have hbd : Below w9.heap.size w9 wd := by rw [<- hwd]; exact zaa w9
 have KAd := Zh (KA1.out.below hbd KA1.out.lt)
 have KBd := Zh (KB2.out.below hbd KB2.out.lt)
 have HDd := Zh (HDD8.out.below hbd)
 have HBd := Zt HB0 hbd
 have HNX : Hid (w.heap.size < w8.heap.size /\ w1.heap.size < w8.heap.size /\ w.heap.size < w4.heap.size /\ w1.heap.size < w4.heap.size) := Zh ⟨HXA.out.1, HXA.out.2, HSA.out.1, HSA.out.2⟩
 clear hbd
 go_wp2_with (refine Zw HZK9.out HPZ9.out ?_)
 refine Zd (fun w' => Blok w' w8.heap.size 26 #[.int .i64 2000, .slice a n c, .int .i64 1, .int .i64 0] /\ Blok w' w4.heap.size 37 #[.int .i64 167772160, .int .i64 31, .int .i64 184549376, .int .i64 32, .int .i64 1000, .int .i64 1099, .int .i64 20, .int .i64 10, .int .i64 1, .int .i64 9, .int .i64 5, .bool false, .int .i64 0, .slice none 0 0, .slice none 0 0, .slice none 0 0]) (HR0.out) fun RS0 => ?_
 rw [hwd] at RS0 ⊢
 refine Zl 0 (.agg #[.int .i64 2000, .slice a n c, .int .i64 1, .int .i64 0]) rfl (fun w9 hS => by
    have q := hS.1
    have y0 := Zv q 0 (.int .i64 2000)
    have y1 := Zv q 1 (.slice a n c)
    have y2 := Zv q 2 (.int .i64 1)
    have y3 := Zv q 3 (.int .i64 0)
    go_simp) RS0 ?_
 refine Zl 1 (.agg #[.int .i64 167772160, .int .i64 31, .int .i64 184549376, .int .i64 32, .int .i64 1000, .int .i64 1099, .int .i64 20, .int .i64 10, .int .i64 1, .int .i64 9, .int .i64 5, .bool false, .int .i64 0, .slice none 0 0, .slice none 0 0, .slice none 0 0]) rfl (fun w9 hS => by
    have q := hS.2
    have y0 := Zv q 0 (.int .i64 167772160)
    have y1 := Zv q 1 (.int .i64 31)
    have y2 := Zv q 2 (.int .i64 184549376)
    have y3 := Zv q 3 (.int .i64 32)
    have y4 := Zv q 4 (.int .i64 1000)
    have y5 := Zv q 5 (.int .i64 1099)
    have y6 := Zv q 6 (.int .i64 20)
    have y7 := Zv q 7 (.int .i64 10)
    have y8 := Zv q 8 (.int .i64 1)
    have y9 := Zv q 9 (.int .i64 9)
    have y10 := Zv q 10 (.int .i64 5)
    have y11 := Zv q 11 (.bool false)
    have y12 := Zv q 12 (.int .i64 0)
    have y13 := Zv q 13 (.slice none 0 0)
    have y14 := Zv q 14 (.slice none 0 0)
    have y15 := Zv q 15 (.slice none 0 0)
    go_simp) RS0 ?_
 obtain ⟨wa, hwa⟩ : ∃ V, wd.setRow w.heap.size #[.int .i64 2000, .slice a n c, .int .i64 1, .int .i64 0] = V := ⟨_, rfl⟩
 have ga : wd.grownBy wa (some w.heap.size) := by rw [<- hwa]; exact zbr _ _ _
 have R1 : (fun w' => Blok w' w8.heap.size 26 #[.int .i64 2000, .slice a n c, .int .i64 1, .int .i64 0] /\ Blok w' w4.heap.size 37 #[.int .i64 167772160, .int .i64 31, .int .i64 184549376, .int .i64 32, .int .i64 1000, .int .i64 1099, .int .i64 20, .int .i64 10, .int .i64 1, .int .i64 9, .int .i64 5, .bool false, .int .i64 0, .slice none 0 0, .slice none 0 0, .slice none 0 0]) wa := ⟨(RS0.1 : Blok wd _ _ _).grown ga (fun e => by have := HNX.out; simp only [Option.some.injEq] at e; omega), (RS0.2 : Blok wd _ _ _).grown ga (fun e => by have := HNX.out; simp only [Option.some.injEq] at e; omega)⟩
 refine zaf (i := 2) (by kernel_rfl) (zah (w' := wa) rfl (by kernel_rfl) (by rw [<- hwa]; exact zm0 KAd.out rfl (by kernel_rfl) (by kernel_rfl) (by kernel_rfl) rfl (by kernel_rfl)) ⟨R1, ?_⟩)
 have ka : Blok wa (w.heap.size) 26 #[.int .i64 2000, .slice a n c, .int .i64 1, .int .i64 0] := by rw [<- hwa]; exact KAd.out.put _
 have kb := KBd.out.grown ga (fun e => by have := HS9.out.2; simp only [Option.some.injEq] at e; omega)
 obtain ⟨wb, hwb⟩ : ∃ V, wa.setRow w1.heap.size #[.int .i64 167772160, .int .i64 31, .int .i64 184549376, .int .i64 32, .int .i64 1000, .int .i64 1099, .int .i64 20, .int .i64 10, .int .i64 1, .int .i64 9, .int .i64 5, .bool false, .int .i64 0, .slice none 0 0, .slice none 0 0, .slice none 0 0] = V := ⟨_, rfl⟩
 have gb : wa.grownBy wb (some w1.heap.size) := by rw [<- hwb]; exact zbr _ _ _
 have R2 : (fun w' => Blok w' w8.heap.size 26 #[.int .i64 2000, .slice a n c, .int .i64 1, .int .i64 0] /\ Blok w' w4.heap.size 37 #[.int .i64 167772160, .int .i64 31, .int .i64 184549376, .int .i64 32, .int .i64 1000, .int .i64 1099, .int .i64 20, .int .i64 10, .int .i64 1, .int .i64 9, .int .i64 5, .bool false, .int .i64 0, .slice none 0 0, .slice none 0 0, .slice none 0 0]) wb := ⟨(R1.1 : Blok wa _ _ _).grown gb (fun e => by have := HNX.out; simp only [Option.some.injEq] at e; omega), (R1.2 : Blok wa _ _ _).grown gb (fun e => by have := HNX.out; simp only [Option.some.injEq] at e; omega)⟩
 refine zaf (i := 3) (by kernel_rfl) (zah (w' := wb) rfl (by kernel_rfl) (by rw [<- hwb]; exact zm0 kb rfl (by kernel_rfl) (by kernel_rfl) (by kernel_rfl) rfl (by kernel_rfl)) ⟨R2, ?_⟩)
 have kc : Blok wb (w1.heap.size) 37 #[.int .i64 167772160, .int .i64 31, .int .i64 184549376, .int .i64 32, .int .i64 1000, .int .i64 1099, .int .i64 20, .int .i64 10, .int .i64 1, .int .i64 9, .int .i64 5, .bool false, .int .i64 0, .slice none 0 0, .slice none 0 0, .slice none 0 0] := by rw [<- hwb]; exact kb.put _
 have kd := ka.grown gb (fun e => by have := HS9.out.2; simp only [Option.some.injEq] at e; omega)
 have hd := G.disk_grown (G.disk_grown HDd.out (HXX.out _ HNL.out.1) ga) (HXX.out _ HNL.out.2) gb
 have hb := (HBd.out.grown ga HBd.out.size (fun q hq => by cases hq; exact Nat.le_refl _)).grown gb (Nat.le_trans HBd.out.size ga.size) (fun q hq => by cases hq; exact HS9.out.1)
 refine wpAnyH_done (by kernel_rfl) ?_ _
 clear RS0 R1 R2
 go_wp2
 refine bodyPost_ret (G.ret_ws rfl w.heap.size w1.heap.size rfl (by kernel_rfl) (by kernel_rfl) kd kc) rfl ?_
 exact ⟨a, n, c, ys, rfl, Zh hd, HFF, hb⟩
end Go.Proofs.YtnbkkjcmblfhpaaGreat
namespace Go.Proofs.YtnbkkjcmblfhpaaGreat
open Go.RowKit
theorem zyv {W : World} {g : Nat} {t : TypeId} (ev : Y.Ev) (h : Blok W g t #[.int .i64 ev.k, .int .i64 ev.t, .int .i64 ev.a, .int .i64 ev.b, .int .i64 ev.c, .int .i64 ev.p.q, .int .i64 ev.p.i, .int .i64 ev.p.h, .bool ev.p.pair]) : VIn W (some ⟨g, 0, none⟩) 1 1 [ev] := by
 refine ⟨rfl, ⟨Nat.le_refl _, by decide⟩, fun e => (by cases e), .inr ⟨g, 0, rfl, h.lt, fun i x hi j u hj => ?_⟩⟩
 match i, hi with
 | 0, hi =>
  obtain rfl : ev = x := by simpa using hi
  rw [show 0 + 0 * V.Rec.k Y.Ev + j = j by omega, h.cell]
  have hj2 : [Value.int .i64 ev.k, .int .i64 ev.t, .int .i64 ev.a, .int .i64 ev.b, .int .i64 ev.c, .int .i64 ev.p.q, .int .i64 ev.p.i, .int .i64 ev.p.h, .bool ev.p.pair][j]? = some u := hj
  simpa using hj2
 | i + 1, hi => simp at hi
end Go.Proofs.YtnbkkjcmblfhpaaGreat
