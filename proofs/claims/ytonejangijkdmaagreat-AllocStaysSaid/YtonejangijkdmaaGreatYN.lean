import Derived.Test.YtonejangijkdmaaGreatYM4
import Derived.Test.YtonejangijkdmaaGreatYK
namespace Go.Proofs.YtonejangijkdmaaGreat
set_option maxHeartbeats 2000000
set_option maxRecDepth 100000
open Go.RowKit
def Y.dval (x : E.D) : Value := .agg #[.int .i64 x.b, .int .i64 x.k, .int .i64 x.c, .int .i64 x.j, .int .i64 x.lo, .int .i64 x.hi, .int .i64 x.dy, .int .i64 x.bl]
def Y.st0 (d : E.D) (p : Y.Po) : Y.St := ⟨d, p, 0, [], [], []⟩
def Y.a0 : Y.A9 := ⟨none, 0, 0, none, 0, 0, none, 0, 0⟩
theorem Y.in0 (w : World) (d : E.D) (p : Y.Po) : Y.SIn w Y.a0 (Y.st0 d p) := ⟨QIn.nil w, RIn.nil w, RIn.nil w⟩
theorem Y.fits0 {d : E.D} (p : Y.Po) (hb : d.b <= 9223372036854775807) (hc : d.c <= 9223372036854775807) : Y.Fits Y.a0 (Y.st0 d p) := ⟨Nat.zero_le _, Nat.zero_le _, Nat.zero_le _, (fun x hx => by cases hx), hb, hc⟩
def Y.nil16 : Value := .agg #[.int .i64 0, .int .i64 0, .int .i64 0, .int .i64 0, .int .i64 0, .int .i64 0, .int .i64 0, .int .i64 0, .int .i64 0, .int .i64 0, .int .i64 0, .bool false, .int .i64 0, .slice none 0 0, .slice none 0 0, .slice none 0 0]
theorem zly {fn : Func} {p q : Tmp} (h : fn.results = #[.cell p 32, .tmp q]) {tmps : Array Value} {V : World} (g : Nat) {cs : Array Value} {v : Value} (hz : cs.size = 16)
  (hp : tmps.getD p undef = .pointer (some ⟨g, 0, none⟩)) (hq : tmps.getD q undef = v) (hg : Blok V g 32 cs) :
  (results fn tmps).run Tryz.prog V = .ok (.tuple #[.agg cs, v]) V := by
 have hp' : tmps[p]?.getD undef = .pointer (some ⟨g, 0, none⟩) := by simpa using hp
 have hq' : tmps[q]?.getD undef = v := by simpa using hq
 have hl := run_loadVar_row (P := Tryz.prog) V g 32 32 cs (0, 0) _ hg Tryz.underlying32 rfl (by rw [hz]; kernel_rfl)
 simp [results, h, hp', hq', asAddr, hl]
theorem zlz (d : E.D) (p : Y.Po) (w : World) (hb : d.b <= 9223372036854775807) (hc : d.c <= 9223372036854775807) (hv : decide (Y.May (Y.st0 d p)) = true) :
  Calls Tryz.prog 16 #[Y.dval d, Y.pval p] w fun e w' => e = .returned (.tuple #[Y.val (Y.st0 d p) Y.a0, .bool true]) /\ Below w.heap.size w w' := by
 have HB0 := Zh (Below.refl w.heap.size w)
 have hcm := fun W => zbj (Y.st0 d p) Y.a0 true hv W (Y.in0 W d p) (Y.fits0 p hb hc)
 unfold Y.val Y.st0 Y.a0 at hcm
 clear hv hb hc
 unfold Y.dval Y.pval
 obtain ⟨w1, hw1, hb, hk⟩ := Zn w 25 #[.int .i64 d.b, .int .i64 d.k, .int .i64 d.c, .int .i64 d.j, .int .i64 d.lo, .int .i64 d.hi, .int .i64 d.dy, .int .i64 d.bl]
 have HB1 := Zt HB0 hb
 have KD1 := Zh hk
 clear hb hk HB0
 obtain ⟨w2, hw2, hb, hk⟩ := Zn w1 27 #[.int .i64 p.q, .int .i64 p.i, .int .i64 p.h, .bool p.pair]
 replace KD1 := Zk KD1 hb
 have HB2 := Zt HB1 hb
 have KP2 := Zh hk
 clear hb hk HB1
 obtain ⟨w3, hw3, hb, hk⟩ := Zn w2 32 #[.int .i64 0, .int .i64 0, .int .i64 0, .int .i64 0, .int .i64 0, .int .i64 0, .int .i64 0, .int .i64 0, .int .i64 0, .int .i64 0, .int .i64 0, .bool false, .int .i64 0, .slice none 0 0, .slice none 0 0, .slice none 0 0]
 replace KD1 := Zk KD1 hb
 replace KP2 := Zk KP2 hb
 have HB3 := Zt HB2 hb
 have KR3 := Zh hk
 clear hb hk HB2
 have d0 := Zv KD1.out 0 (.int .i64 d.b)
 have d1 := Zv KD1.out 1 (.int .i64 d.k)
 have d2 := Zv KD1.out 2 (.int .i64 d.c)
 have d3 := Zv KD1.out 3 (.int .i64 d.j)
 have d4 := Zv KD1.out 4 (.int .i64 d.lo)
 have d5 := Zv KD1.out 5 (.int .i64 d.hi)
 have d6 := Zv KD1.out 6 (.int .i64 d.dy)
 have d7 := Zv KD1.out 7 (.int .i64 d.bl)
 have p0 := Zv KP2.out 0 (.int .i64 p.q)
 have p1 := Zv KP2.out 1 (.int .i64 p.i)
 have p2 := Zv KP2.out 2 (.int .i64 p.h)
 have p3 := Zv KP2.out 3 (.bool p.pair)
 obtain ⟨w4, hw4, hb, hk⟩ := Zn w3 32 #[.int .i64 0, .int .i64 0, .int .i64 0, .int .i64 0, .int .i64 0, .int .i64 0, .int .i64 0, .int .i64 0, .int .i64 0, .int .i64 0, .int .i64 0, .bool false, .int .i64 0, .slice none 0 0, .slice none 0 0, .slice none 0 0]
 replace KD1 := Zk KD1 hb
 replace KP2 := Zk KP2 hb
 have KR4 := Zk KR3 hb
 have HB4 := Zt HB3 hb
 have KS4 := Zh hk
 clear hb hk KR3 HB3
 have HZ : Hid (w2.heap.size ≠ w3.heap.size /\ w.heap.size <= w3.heap.size /\ w.heap.size <= w2.heap.size) := Zh (by
  have h1 : w3.heap.size = w2.heap.size + 1 := by rw [<- hw3]; simp
  have h2 : w2.heap.size = w1.heap.size + 1 := by rw [<- hw2]; simp
  have h3 : w1.heap.size = w.heap.size + 1 := by rw [<- hw1]; simp
  omega)
 obtain ⟨w5, hp5⟩ : ∃ W, w4.setRow (w3.heap.size) #[.int .i64 d.b, .int .i64 d.k, .int .i64 d.c, .int .i64 d.j, .int .i64 d.lo, .int .i64 d.hi, .int .i64 d.dy, .int .i64 d.bl, .int .i64 p.q, .int .i64 p.i, .int .i64 p.h, .bool p.pair, .int .i64 0, .slice none 0 0, .slice none 0 0, .slice none 0 0] = W := ⟨_, rfl⟩
 have hg5 : w4.grownBy w5 (some (w3.heap.size)) := by rw [<- hp5]; exact zbr _ _ _
 have HP5 := Zh hp5
 have KS5 : Hid (Blok w5 (w3.heap.size) 32 #[.int .i64 d.b, .int .i64 d.k, .int .i64 d.c, .int .i64 d.j, .int .i64 d.lo, .int .i64 d.hi, .int .i64 d.dy, .int .i64 d.bl, .int .i64 p.q, .int .i64 p.i, .int .i64 p.h, .bool p.pair, .int .i64 0, .slice none 0 0, .slice none 0 0, .slice none 0 0]) := Zh (by rw [<- hp5]; exact KS4.out.put _)
 have KR5 := Zh (KR4.out.grown hg5 (by simpa using HZ.out.1))
 have HB5 := Zh (HB4.out.grown hg5 HB4.out.size (fun q hq => by cases hq; exact HZ.out.2.1))
 clear hp5 hg5 KD1 KP2 KR4 HB4
 go_enter Tryz.func16, Tryz.ntmps16
 go_wp2_with (first | (refine Zw KS4.out HP5.out ?_) | (refine zak KS5.out rfl rfl (by kernel_rfl) Tryz.underlying32 rfl (by kernel_rfl) ?_))
 refine (hcm w5).mono ?_
 rintro e w6 ⟨rfl, hb⟩
 replace KS5 := Zk KS5 hb
 have KR6 := Zk KR5 hb
 have HB6 := Zt HB5 hb
 clear hb KR5 HB5
 clear hcm d0 d1 d2 d3 d4 d5 d6 d7 p0 p1 p2 p3
 have HKS := KS5
 obtain ⟨w7, hp7⟩ : ∃ W, w6.setRow (w2.heap.size) #[.int .i64 d.b, .int .i64 d.k, .int .i64 d.c, .int .i64 d.j, .int .i64 d.lo, .int .i64 d.hi, .int .i64 d.dy, .int .i64 d.bl, .int .i64 p.q, .int .i64 p.i, .int .i64 p.h, .bool p.pair, .int .i64 0, .slice none 0 0, .slice none 0 0, .slice none 0 0] = W := ⟨_, rfl⟩
 have hg7 : w6.grownBy w7 (some (w2.heap.size)) := by rw [<- hp7]; exact zbr _ _ _
 have HP7 := Zh hp7
 have KR7 : Hid (Blok w7 (w2.heap.size) 32 #[.int .i64 d.b, .int .i64 d.k, .int .i64 d.c, .int .i64 d.j, .int .i64 d.lo, .int .i64 d.hi, .int .i64 d.dy, .int .i64 d.bl, .int .i64 p.q, .int .i64 p.i, .int .i64 p.h, .bool p.pair, .int .i64 0, .slice none 0 0, .slice none 0 0, .slice none 0 0]) := Zh (by rw [<- hp7]; exact KR6.out.put _)
 have KS7 := Zh (KS5.out.grown hg7 (by simpa using HZ.out.1.symm))
 have HB7 := Zh (HB6.out.grown hg7 HB6.out.size (fun q hq => by cases hq; exact HZ.out.2.2))
 clear hp7 hg7 KS5 HB6
 go_wp2_with (first | (refine Zw KR6.out HP7.out ?_) | (refine zak HKS.out rfl rfl (by kernel_rfl) Tryz.underlying32 rfl (by kernel_rfl) ?_))
 refine bodyPost_ret (zly (v := .bool true) rfl w2.heap.size rfl (by kernel_rfl) (by kernel_rfl) KR7.out) rfl ?_
 exact ⟨rfl, HB7.out⟩
theorem zm4 (d : E.D) (p : Y.Po) (w : World) (hb : d.b <= 9223372036854775807) (hc : d.c <= 9223372036854775807) (hv : decide (Y.May (Y.st0 d p)) = false) :
  Calls Tryz.prog 16 #[Y.dval d, Y.pval p] w fun e w' => e = .returned (.tuple #[Y.nil16, .bool false]) /\ Below w.heap.size w w' := by
 have HB0 := Zh (Below.refl w.heap.size w)
 have hcm := fun W => zbj (Y.st0 d p) Y.a0 false hv W (Y.in0 W d p) (Y.fits0 p hb hc)
 unfold Y.val Y.st0 Y.a0 at hcm
 clear hv hb hc
 unfold Y.dval Y.pval
 obtain ⟨w1, hw1, hb, hk⟩ := Zn w 25 #[.int .i64 d.b, .int .i64 d.k, .int .i64 d.c, .int .i64 d.j, .int .i64 d.lo, .int .i64 d.hi, .int .i64 d.dy, .int .i64 d.bl]
 have HB1 := Zt HB0 hb
 have KD1 := Zh hk
 clear hb hk HB0
 obtain ⟨w2, hw2, hb, hk⟩ := Zn w1 27 #[.int .i64 p.q, .int .i64 p.i, .int .i64 p.h, .bool p.pair]
 replace KD1 := Zk KD1 hb
 have HB2 := Zt HB1 hb
 have KP2 := Zh hk
 clear hb hk HB1
 obtain ⟨w3, hw3, hb, hk⟩ := Zn w2 32 #[.int .i64 0, .int .i64 0, .int .i64 0, .int .i64 0, .int .i64 0, .int .i64 0, .int .i64 0, .int .i64 0, .int .i64 0, .int .i64 0, .int .i64 0, .bool false, .int .i64 0, .slice none 0 0, .slice none 0 0, .slice none 0 0]
 replace KD1 := Zk KD1 hb
 replace KP2 := Zk KP2 hb
 have HB3 := Zt HB2 hb
 have KR3 := Zh hk
 clear hb hk HB2
 have d0 := Zv KD1.out 0 (.int .i64 d.b)
 have d1 := Zv KD1.out 1 (.int .i64 d.k)
 have d2 := Zv KD1.out 2 (.int .i64 d.c)
 have d3 := Zv KD1.out 3 (.int .i64 d.j)
 have d4 := Zv KD1.out 4 (.int .i64 d.lo)
 have d5 := Zv KD1.out 5 (.int .i64 d.hi)
 have d6 := Zv KD1.out 6 (.int .i64 d.dy)
 have d7 := Zv KD1.out 7 (.int .i64 d.bl)
 have p0 := Zv KP2.out 0 (.int .i64 p.q)
 have p1 := Zv KP2.out 1 (.int .i64 p.i)
 have p2 := Zv KP2.out 2 (.int .i64 p.h)
 have p3 := Zv KP2.out 3 (.bool p.pair)
 obtain ⟨w4, hw4, hb, hk⟩ := Zn w3 32 #[.int .i64 0, .int .i64 0, .int .i64 0, .int .i64 0, .int .i64 0, .int .i64 0, .int .i64 0, .int .i64 0, .int .i64 0, .int .i64 0, .int .i64 0, .bool false, .int .i64 0, .slice none 0 0, .slice none 0 0, .slice none 0 0]
 replace KD1 := Zk KD1 hb
 replace KP2 := Zk KP2 hb
 have KR4 := Zk KR3 hb
 have HB4 := Zt HB3 hb
 have KS4 := Zh hk
 clear hb hk KR3 HB3
 have HZ : Hid (w2.heap.size ≠ w3.heap.size /\ w.heap.size <= w3.heap.size /\ w.heap.size <= w2.heap.size) := Zh (by
  have h1 : w3.heap.size = w2.heap.size + 1 := by rw [<- hw3]; simp
  have h2 : w2.heap.size = w1.heap.size + 1 := by rw [<- hw2]; simp
  have h3 : w1.heap.size = w.heap.size + 1 := by rw [<- hw1]; simp
  omega)
 obtain ⟨w5, hp5⟩ : ∃ W, w4.setRow (w3.heap.size) #[.int .i64 d.b, .int .i64 d.k, .int .i64 d.c, .int .i64 d.j, .int .i64 d.lo, .int .i64 d.hi, .int .i64 d.dy, .int .i64 d.bl, .int .i64 p.q, .int .i64 p.i, .int .i64 p.h, .bool p.pair, .int .i64 0, .slice none 0 0, .slice none 0 0, .slice none 0 0] = W := ⟨_, rfl⟩
 have hg5 : w4.grownBy w5 (some (w3.heap.size)) := by rw [<- hp5]; exact zbr _ _ _
 have HP5 := Zh hp5
 have KS5 : Hid (Blok w5 (w3.heap.size) 32 #[.int .i64 d.b, .int .i64 d.k, .int .i64 d.c, .int .i64 d.j, .int .i64 d.lo, .int .i64 d.hi, .int .i64 d.dy, .int .i64 d.bl, .int .i64 p.q, .int .i64 p.i, .int .i64 p.h, .bool p.pair, .int .i64 0, .slice none 0 0, .slice none 0 0, .slice none 0 0]) := Zh (by rw [<- hp5]; exact KS4.out.put _)
 have KR5 := Zh (KR4.out.grown hg5 (by simpa using HZ.out.1))
 have HB5 := Zh (HB4.out.grown hg5 HB4.out.size (fun q hq => by cases hq; exact HZ.out.2.1))
 clear hp5 hg5 KD1 KP2 KR4 HB4
 go_enter Tryz.func16, Tryz.ntmps16
 go_wp2_with (first | (refine Zw KS4.out HP5.out ?_) | (refine zak KS5.out rfl rfl (by kernel_rfl) Tryz.underlying32 rfl (by kernel_rfl) ?_))
 refine (hcm w5).mono ?_
 rintro e w6 ⟨rfl, hb⟩
 replace KS5 := Zk KS5 hb
 have KR6 := Zk KR5 hb
 have HB6 := Zt HB5 hb
 clear hb KR5 HB5
 clear hcm d0 d1 d2 d3 d4 d5 d6 d7 p0 p1 p2 p3
 have HKS := KS5
 obtain ⟨w7, hp7⟩ : ∃ W, w6.setRow (w2.heap.size) #[.int .i64 0, .int .i64 0, .int .i64 0, .int .i64 0, .int .i64 0, .int .i64 0, .int .i64 0, .int .i64 0, .int .i64 0, .int .i64 0, .int .i64 0, .bool false, .int .i64 0, .slice none 0 0, .slice none 0 0, .slice none 0 0] = W := ⟨_, rfl⟩
 have hg7 : w6.grownBy w7 (some (w2.heap.size)) := by rw [<- hp7]; exact zbr _ _ _
 have HP7 := Zh hp7
 have KR7 : Hid (Blok w7 (w2.heap.size) 32 #[.int .i64 0, .int .i64 0, .int .i64 0, .int .i64 0, .int .i64 0, .int .i64 0, .int .i64 0, .int .i64 0, .int .i64 0, .int .i64 0, .int .i64 0, .bool false, .int .i64 0, .slice none 0 0, .slice none 0 0, .slice none 0 0]) := Zh (by rw [<- hp7]; exact KR6.out.put _)
 have KS7 := Zh (KS5.out.grown hg7 (by simpa using HZ.out.1.symm))
 have HB7 := Zh (HB6.out.grown hg7 HB6.out.size (fun q hq => by cases hq; exact HZ.out.2.2))
 clear hp7 hg7 KS5 HB6
 go_wp2_with (first | (refine Zw KR6.out HP7.out ?_) | (refine zak HKS.out rfl rfl (by kernel_rfl) Tryz.underlying32 rfl (by kernel_rfl) ?_))
 refine bodyPost_ret (zly (v := .bool false) rfl w2.heap.size rfl (by kernel_rfl) (by kernel_rfl) KR7.out) rfl ?_
 exact ⟨rfl, HB7.out⟩
end Go.Proofs.YtonejangijkdmaaGreat
