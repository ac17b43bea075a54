import Derived.Test.YtnbkkjcmblfhpaaGreatProg
import Derived.Lib.Strings
import Derived.Lib.Slices
import Derived.Lib.Small
import Derived.Lib.Walk
import Derived.Lib.BitFns
import Derived.ScopeJumps
import Derived.Deep.RegionWith
import Derived.Test.YtnbkkjcmblfhpaaGreatP12
import Derived.Test.YtnbkkjcmblfhpaaGreatP10
import Derived.Test.YtnbkkjcmblfhpaaGreatP6
import Derived.Test.YtnbkkjcmblfhpaaGreatP0
namespace Go.Proofs.YtnbkkjcmblfhpaaGreat
set_option maxHeartbeats 2000000
set_option maxRecDepth 100000
open Go.RowKit
def Y.dval (x : E.D) : Value := .agg #[.int .i64 x.b, .int .i64 x.k, .int .i64 x.c, .int .i64 x.j, .int .i64 x.lo, .int .i64 x.hi, .int .i64 x.dy, .int .i64 x.bl]
def Y.st0 (d : E.D) (p : Y.Po) : Y.St := ⟨d, p, 0, [], [], []⟩
def Y.a0 : Y.A9 := ⟨none, 0, 0, none, 0, 0, none, 0, 0⟩
theorem Y.in0 (w : World) (d : E.D) (p : Y.Po) : Y.SIn w Y.a0 (Y.st0 d p) := ⟨QIn.nil w, RIn.nil w, RIn.nil w⟩
theorem Y.fits0 {d : E.D} (p : Y.Po) (hb : d.b <= 9223372036854775807) (hc : d.c <= 9223372036854775807) : Y.Fits Y.a0 (Y.st0 d p) := ⟨Nat.zero_le _, Nat.zero_le _, Nat.zero_le _, (fun x hx => by cases hx), hb, hc⟩
def Y.nil16 : Value := .agg #[.int .i64 0, .int .i64 0, .int .i64 0, .int .i64 0, .int .i64 0, .int .i64 0, .int .i64 0, .int .i64 0, .int .i64 0, .int .i64 0, .int .i64 0, .bool false, .int .i64 0, .slice none 0 0, .slice none 0 0, .slice none 0 0]
theorem zly {fn : Func} {p q : Tmp} (h : fn.results = #[.cell p 37, .tmp q]) {tmps : Array Value} {V : World} (g : Nat) {cs : Array Value} {v : Value} (hz : cs.size = 16)
  (hp : tmps.getD p undef = .pointer (some ⟨g, 0, none⟩)) (hq : tmps.getD q undef = v) (hg : Blok V g 37 cs) :
  (results fn tmps).run Tryz.prog V = .ok (.tuple #[.agg cs, v]) V := by
 have hp' : tmps[p]?.getD undef = .pointer (some ⟨g, 0, none⟩) := by simpa using hp
 have hq' : tmps[q]?.getD undef = v := by simpa using hq
 have hl := run_loadVar_row (P := Tryz.prog) V g 37 37 cs (0, 0) _ hg Tryz.underlying37 rfl (by rw [hz]; kernel_rfl)
 simp [results, h, hp', hq', asAddr, hl]
theorem zlz (d : E.D) (p : Y.Po) (w : World) (hb : d.b <= 9223372036854775807) (hc : d.c <= 9223372036854775807) (hv : decide (Y.May (Y.st0 d p)) = true) :
  Calls Tryz.prog 78 #[Y.dval d, Y.pval p] w fun e w' => e = .returned (.tuple #[Y.val (Y.st0 d p) Y.a0, .bool true]) /\ Below w.heap.size w w' := by
 have HB0 := Zh (Below.refl w.heap.size w)
 have hcm := fun W => zbj (Y.st0 d p) Y.a0 true hv W (Y.in0 W d p) (Y.fits0 p hb hc)
 unfold Y.val Y.st0 Y.a0 at hcm
 clear hv hb hc
 unfold Y.dval Y.pval
 obtain ⟨w1, hw1, hb, hk⟩ := Zn w 30 #[.int .i64 d.b, .int .i64 d.k, .int .i64 d.c, .int .i64 d.j, .int .i64 d.lo, .int .i64 d.hi, .int .i64 d.dy, .int .i64 d.bl]
 have HB1 := Zt HB0 hb
 have KD1 := Zh hk
 clear hb hk HB0
 obtain ⟨w2, hw2, hb, hk⟩ := Zn w1 32 #[.int .i64 p.q, .int .i64 p.i, .int .i64 p.h, .bool p.pair]
 replace KD1 := Zk KD1 hb
 have HB2 := Zt HB1 hb
 have KP2 := Zh hk
 clear hb hk HB1
 obtain ⟨w3, hw3, hb, hk⟩ := Zn w2 37 #[.int .i64 0, .int .i64 0, .int .i64 0, .int .i64 0, .int .i64 0, .int .i64 0, .int .i64 0, .int .i64 0, .int .i64 0, .int .i64 0, .int .i64 0, .bool false, .int .i64 0, .slice none 0 0, .slice none 0 0, .slice none 0 0]
 replace KD1 := Zk KD1 hb
 replace KP2 := Zk KP2 hb
 have HB3 := Zt HB2 hb
 have KR3 := Zh hk
 clear hb hk HB2
 have d0 := Zv KD1.out 0 (.int .i64 d.b)
 have d1 := Zv KD1.out 1 (.int .i64 d.k)
 have d2 := Zv KD1.out 2 (.int .i64 d.c)
 have d3 := Zv KD1.out 3 (.int .i64 d.j)
 have d4 := Zv KD1.out 4 (.int .i64 d.lo)
 have d5 := Zv KD1.out 5 (.int .i64 d.hi)
 have d6 := Zv KD1.out 6 (.int .i64 d.dy)
 have d7 := Zv KD1.out 7 (.int .i64 d.bl)
 have p0 := Zv KP2.out 0 (.int .i64 p.q)
 have p1 := Zv KP2.out 1 (.int .i64 p.i)
 have p2 := Zv KP2.out 2 (.int .i64 p.h)
 have p3 := Zv KP2.out 3 (.bool p.pair)
 obtain ⟨w4, hw4, hb, hk⟩ := Zn w3 37 #[.int .i64 0, .int .i64 0, .int .i64 0, .int .i64 0, .int .i64 0, .int .i64 0, .int .i64 0, .int .i64 0, .int .i64 0, .int .i64 0, .int .i64 0, .bool false, .int .i64 0, .slice none 0 0, .slice none 0 0, .slice none 0 0]
 replace KD1 := Zk KD1 hb
 replace KP2 := Zk KP2 hb
 have KR4 := Zk KR3 hb
 have HB4 := Zt HB3 hb
 have KS4 := Zh hk
 clear hb hk KR3 HB3
 have HZ : Hid (w2.heap.size ≠ w3.heap.size /\ w.heap.size <= w3.heap.size /\ w.heap.size <= w2.heap.size) := Zh (by
  have h1 : w3.heap.size = w2.heap.size + 1 := by rw [<- hw3]; simp
  have h2 : w2.heap.size = w1.heap.size + 1 := by rw [<- hw2]; simp
  have h3 : w1.heap.size = w.heap.size + 1 := by rw [<- hw1]; simp
  omega)
 obtain ⟨w5, hp5⟩ : ∃ W, w4.setRow (w3.heap.size) #[.int .i64 d.b, .int .i64 d.k, .int .i64 d.c, .int .i64 d.j, .int .i64 d.lo, .int .i64 d.hi, .int .i64 d.dy, .int .i64 d.bl, .int .i64 p.q, .int .i64 p.i, .int .i64 p.h, .bool p.pair, .int .i64 0, .slice none 0 0, .slice none 0 0, .slice none 0 0] = W := ⟨_, rfl⟩
 have hg5 : w4.grownBy w5 (some (w3.heap.size)) := by rw [<- hp5]; exact zbr _ _ _
 have HP5 := Zh hp5
 have KS5 : Hid (Blok w5 (w3.heap.size) 37 #[.int .i64 d.b, .int .i64 d.k, .int .i64 d.c, .int .i64 d.j, .int .i64 d.lo, .int .i64 d.hi, .int .i64 d.dy, .int .i64 d.bl, .int .i64 p.q, .int .i64 p.i, .int .i64 p.h, .bool p.pair, .int .i64 0, .slice none 0 0, .slice none 0 0, .slice none 0 0]) := Zh (by rw [<- hp5]; exact KS4.out.put _)
 have KR5 := Zh (KR4.out.grown hg5 (by simpa using HZ.out.1))
 have HB5 := Zh (HB4.out.grown hg5 HB4.out.size (fun q hq => by cases hq; exact HZ.out.2.1))
 clear hp5 hg5 KD1 KP2 KR4 HB4
 go_enter Tryz.func78, Tryz.ntmps78
 go_wp2_with (first | (refine Zw KS4.out HP5.out ?_) | (refine zak KS5.out rfl rfl (by kernel_rfl) Tryz.underlying37 rfl (by kernel_rfl) ?_))
 refine (hcm w5).mono ?_
 rintro e w6 ⟨rfl, hb⟩
 replace KS5 := Zk KS5 hb
 have KR6 := Zk KR5 hb
 have HB6 := Zt HB5 hb
 clear hb KR5 HB5
 clear hcm d0 d1 d2 d3 d4 d5 d6 d7 p0 p1 p2 p3
 have HKS := KS5
 obtain ⟨w7, hp7⟩ : ∃ W, w6.setRow (w2.heap.size) #[.int .i64 d.b, .int .i64 d.k, .int .i64 d.c, .int .i64 d.j, .int .i64 d.lo, .int .i64 d.hi, .int .i64 d.dy, .int .i64 d.bl, .int .i64 p.q, .int .i64 p.i, .int .i64 p.h, .bool p.pair, .int .i64 0, .slice none 0 0, .slice none 0 0, .slice none 0 0] = W := ⟨_, rfl⟩
 have hg7 : w6.grownBy w7 (some (w2.heap.size)) := by rw [<- hp7]; exact zbr _ _ _
 have HP7 := Zh hp7
 have KR7 : Hid (Blok w7 (w2.heap.size) 37 #[.int .i64 d.b, .int .i64 d.k, .int .i64 d.c, .int .i64 d.j, .int .i64 d.lo, .int .i64 d.hi, .int .i64 d.dy, .int .i64 d.bl, .int .i64 p.q, .int .i64 p.i, .int .i64 p.h, .bool p.pair, .int .i64 0, .slice none 0 0, .slice none 0 0, .slice none 0 0]) := Zh (by rw [<- hp7]; exact KR6.out.put _)
 have KS7 := Zh (KS5.out.grown hg7 (by simpa using HZ.out.1.symm))
 have HB7 := Zh (HB6.out.grown hg7 HB6.out.size (fun q hq => by cases hq; exact HZ.out.2.2))
 clear hp7 hg7 KS5 HB6
 go_wp2_with (first | (refine Zw KR6.out HP7.out ?_) | (refine zak HKS.out rfl rfl (by kernel_rfl) Tryz.underlying37 rfl (by kernel_rfl) ?_))
 refine bodyPost_ret (zly (v := .bool true) rfl w2.heap.size rfl (by kernel_rfl) (by kernel_rfl) KR7.out) rfl ?_
 exact ⟨rfl, HB7.out⟩
theorem zm4 (d : E.D) (p : Y.Po) (w : World) (hb : d.b <= 9223372036854775807) (hc : d.c <= 9223372036854775807) (hv : decide (Y.May (Y.st0 d p)) = false) :
  Calls Tryz.prog 78 #[Y.dval d, Y.pval p] w fun e w' => e = .returned (.tuple #[Y.nil16, .bool false]) /\ Below w.heap.size w w' := by
 have HB0 := Zh (Below.refl w.heap.size w)
 have hcm := fun W => zbj (Y.st0 d p) Y.a0 false hv W (Y.in0 W d p) (Y.fits0 p hb hc)
 unfold Y.val Y.st0 Y.a0 at hcm
 clear hv hb hc
 unfold Y.dval Y.pval
 obtain ⟨w1, hw1, hb, hk⟩ := Zn w 30 #[.int .i64 d.b, .int .i64 d.k, .int .i64 d.c, .int .i64 d.j, .int .i64 d.lo, .int .i64 d.hi, .int .i64 d.dy, .int .i64 d.bl]
 have HB1 := Zt HB0 hb
 have KD1 := Zh hk
 clear hb hk HB0
 obtain ⟨w2, hw2, hb, hk⟩ := Zn w1 32 #[.int .i64 p.q, .int .i64 p.i, .int .i64 p.h, .bool p.pair]
 replace KD1 := Zk KD1 hb
 have HB2 := Zt HB1 hb
 have KP2 := Zh hk
 clear hb hk HB1
 obtain ⟨w3, hw3, hb, hk⟩ := Zn w2 37 #[.int .i64 0, .int .i64 0, .int .i64 0, .int .i64 0, .int .i64 0, .int .i64 0, .int .i64 0, .int .i64 0, .int .i64 0, .int .i64 0, .int .i64 0, .bool false, .int .i64 0, .slice none 0 0, .slice none 0 0, .slice none 0 0]
 replace KD1 := Zk KD1 hb
 replace KP2 := Zk KP2 hb
 have HB3 := Zt HB2 hb
 have KR3 := Zh hk
 clear hb hk HB2
 have d0 := Zv KD1.out 0 (.int .i64 d.b)
 have d1 := Zv KD1.out 1 (.int .i64 d.k)
 have d2 := Zv KD1.out 2 (.int .i64 d.c)
 have d3 := Zv KD1.out 3 (.int .i64 d.j)
 have d4 := Zv KD1.out 4 (.int .i64 d.lo)
 have d5 := Zv KD1.out 5 (.int .i64 d.hi)
 have d6 := Zv KD1.out 6 (.int .i64 d.dy)
 have d7 := Zv KD1.out 7 (.int .i64 d.bl)
 have p0 := Zv KP2.out 0 (.int .i64 p.q)
 have p1 := Zv KP2.out 1 (.int .i64 p.i)
 have p2 := Zv KP2.out 2 (.int .i64 p.h)
 have p3 := Zv KP2.out 3 (.bool p.pair)
 obtain ⟨w4, hw4, hb, hk⟩ := Zn w3 37 #[.int .i64 0, .int .i64 0, .int .i64 0, .int .i64 0, .int .i64 0, .int .i64 0, .int .i64 0, .int .i64 0, .int .i64 0, .int .i64 0, .int .i64 0, .bool false, .int .i64 0, .slice none 0 0, .slice none 0 0, .slice none 0 0]
 replace KD1 := Zk KD1 hb
 replace KP2 := Zk KP2 hb
 have KR4 := Zk KR3 hb
 have HB4 := Zt HB3 hb
 have KS4 := Zh hk
 clear hb hk KR3 HB3
 have HZ : Hid (w2.heap.size ≠ w3.heap.size /\ w.heap.size <= w3.heap.size /\ w.heap.size <= w2.heap.size) := Zh (by
  have h1 : w3.heap.size = w2.heap.size + 1 := by rw [<- hw3]; simp
  have h2 : w2.heap.size = w1.heap.size + 1 := by rw [<- hw2]; simp
  have h3 : w1.heap.size = w.heap.size + 1 := by rw [<- hw1]; simp
  omega)
 obtain ⟨w5, hp5⟩ : ∃ W, w4.setRow (w3.heap.size) #[.int .i64 d.b, .int .i64 d.k, .int .i64 d.c, .int .i64 d.j, .int .i64 d.lo, .int .i64 d.hi, .int .i64 d.dy, .int .i64 d.bl, .int .i64 p.q, .int .i64 p.i, .int .i64 p.h, .bool p.pair, .int .i64 0, .slice none 0 0, .slice none 0 0, .slice none 0 0] = W := ⟨_, rfl⟩
 have hg5 : w4.grownBy w5 (some (w3.heap.size)) := by rw [<- hp5]; exact zbr _ _ _
 have HP5 := Zh hp5
 have KS5 : Hid (Blok w5 (w3.heap.size) 37 #[.int .i64 d.b, .int .i64 d.k, .int .i64 d.c, .int .i64 d.j, .int .i64 d.lo, .int .i64 d.hi, .int .i64 d.dy, .int .i64 d.bl, .int .i64 p.q, .int .i64 p.i, .int .i64 p.h, .bool p.pair, .int .i64 0, .slice none 0 0, .slice none 0 0, .slice none 0 0]) := Zh (by rw [<- hp5]; exact KS4.out.put _)
 have KR5 := Zh (KR4.out.grown hg5 (by simpa using HZ.out.1))
 have HB5 := Zh (HB4.out.grown hg5 HB4.out.size (fun q hq => by cases hq; exact HZ.out.2.1))
 clear hp5 hg5 KD1 KP2 KR4 HB4
 go_enter Tryz.func78, Tryz.ntmps78
 go_wp2_with (first | (refine Zw KS4.out HP5.out ?_) | (refine zak KS5.out rfl rfl (by kernel_rfl) Tryz.underlying37 rfl (by kernel_rfl) ?_))
 refine (hcm w5).mono ?_
 rintro e w6 ⟨rfl, hb⟩
 replace KS5 := Zk KS5 hb
 have KR6 := Zk KR5 hb
 have HB6 := Zt HB5 hb
 clear hb KR5 HB5
 clear hcm d0 d1 d2 d3 d4 d5 d6 d7 p0 p1 p2 p3
 have HKS := KS5
 obtain ⟨w7, hp7⟩ : ∃ W, w6.setRow (w2.heap.size) #[.int .i64 0, .int .i64 0, .int .i64 0, .int .i64 0, .int .i64 0, .int .i64 0, .int .i64 0, .int .i64 0, .int .i64 0, .int .i64 0, .int .i64 0, .bool false, .int .i64 0, .slice none 0 0, .slice none 0 0, .slice none 0 0] = W := ⟨_, rfl⟩
 have hg7 : w6.grownBy w7 (some (w2.heap.size)) := by rw [<- hp7]; exact zbr _ _ _
 have HP7 := Zh hp7
 have KR7 : Hid (Blok w7 (w2.heap.size) 37 #[.int .i64 0, .int .i64 0, .int .i64 0, .int .i64 0, .int .i64 0, .int .i64 0, .int .i64 0, .int .i64 0, .int .i64 0, .int .i64 0, .int .i64 0, .bool false, .int .i64 0, .slice none 0 0, .slice none 0 0, .slice none 0 0]) := Zh (by rw [<- hp7]; exact KR6.out.put _)
 have KS7 := Zh (KS5.out.grown hg7 (by simpa using HZ.out.1.symm))
 have HB7 := Zh (HB6.out.grown hg7 HB6.out.size (fun q hq => by cases hq; exact HZ.out.2.2))
 clear hp7 hg7 KS5 HB6
 go_wp2_with (first | (refine Zw KR6.out HP7.out ?_) | (refine zak HKS.out rfl rfl (by kernel_rfl) Tryz.underlying37 rfl (by kernel_rfl) ?_))
 refine bodyPost_ret (zly (v := .bool false) rfl w2.heap.size rfl (by kernel_rfl) (by kernel_rfl) KR7.out) rfl ?_
 exact ⟨rfl, HB7.out⟩
end Go.Proofs.YtnbkkjcmblfhpaaGreat
namespace Go.Proofs.YtnbkkjcmblfhpaaGreat
open Go.RowKit
namespace J
open Y
structure Got (w : World) (H : Nat) (s : St) (A : A9) : Prop where
 i : SIn w A s
 u : Up H A
theorem Got.below {w w' : World} {H : Nat} {s : St} {A : A9} (h : Got w H s A) (hb : Below w.heap.size w w') : Got w' H s A := ⟨h.i.below hb, h.u⟩
theorem Got.down {w : World} {H H' : Nat} {s : St} {A : A9} (h : Got w H s A) (hh : H' <= H) : Got w H' s A := ⟨h.i, h.u.mono hh⟩
theorem Got.of {w : World} {H : Nat} {s : St} {A : A9} (h : OwnR w H s A) : Got w H s A := ⟨h.i, h.up⟩
theorem Got.far {w w' : World} {H g : Nat} {s : St} {A : A9} (h : Got w H s A) (hg : w.grownBy w' (some g)) (hl : g < H) : Got w' H s A := ⟨h.i.up h.u hg hl, h.u⟩
theorem row_some {w : World} {B e k n : Nat} {v : Value} {xs : List Value} (h : w.ownsRow B e k v n xs) (hn : 0 < n) : ∃ g cap, v = .slice (some ⟨g, 0, none⟩) n cap := by
 rcases h.2 with ⟨_, h0⟩ | ⟨g, cap, _, rfl, _⟩
 ·omega
 ·exact ⟨g, cap, rfl⟩
theorem row_apart {w : World} {B B' k k' n n' g m c : Nat} {t t' : TypeId} {v : Value} {xs ys : List Value} (h : w.ownsRow B t k v n xs) (h' : w.ownsRow B' t' k' (.slice (some ⟨g, 0, none⟩) m c) n' ys) (ht : t ≠ t') : v.ownBlock = none \/ v.ownBlock ≠ some g := by
 refine .inr fun e => ?_
 rcases h'.2 with ⟨h0, _⟩ | ⟨q, cap, cur, h1, _, hq, _⟩
 ·cases h0
 ·simp only [Value.slice.injEq, Option.some.injEq, Addr.mk.injEq, and_true] at h1
  obtain ⟨rfl, -⟩ := h1
  exact za4 h hq (fun e => ht e.symm) e rfl
theorem news_at {w : World} {g : Nat} {t : TypeId} {cs : Array Value} (h : Blok w g t cs) (j : Nat) (u : Value) (hj : cs.toList[j]? = some u) : w.cell? ((⟨g, 0, none⟩ : Addr).add j) = some u := by
 rw [WideShapes.add_plain, h.cell, Nat.zero_add]
 simpa using hj
end J
end Go.Proofs.YtnbkkjcmblfhpaaGreat
namespace Go.Proofs.YtnbkkjcmblfhpaaGreat
open Go.RowKit
namespace J
theorem fset3 (t : Int) : ∀ (l : List L.Ls) (i : Nat) (z : L.Ls), l[i]? = some z -> (L.flat l).set (i * 5 + 3) (.int .i64 t) = L.flat (l.set i { z with f := t })
 | [], _, _, h => by simp at h
 | x :: l, 0, z, h => by
  obtain rfl : x = z := by simpa using h
  rfl
 | x :: l, i + 1, z, h => by
  have ih := fset3 t l i z (by simpa using h)
  rw [show (i + 1) * 5 + 3 = (i * 5 + 3) + 5 by omega, List.set_cons_succ]
  show (L.cells x ++ L.flat l).set (i * 5 + 3 + 5) _ = L.cells x ++ L.flat (l.set i _)
  rw [List.set_append_right _ _ (by show 5 <= _; omega), <- ih]
  congr 2
theorem hset2 (t : Int) : ∀ (l : List L.T3) (i : Nat) (z : L.T3), l[i]? = some z -> (L.flat l).set (i * 3 + 2) (.int .i64 t) = L.flat (l.set i { z with x := t })
 | [], _, _, h => by simp at h
 | x :: l, 0, z, h => by
  obtain rfl : x = z := by simpa using h
  rfl
 | x :: l, i + 1, z, h => by
  have ih := hset2 t l i z (by simpa using h)
  rw [show (i + 1) * 3 + 2 = (i * 3 + 2) + 3 by omega, List.set_cons_succ]
  show (L.cells x ++ L.flat l).set (i * 3 + 2 + 3) _ = L.cells x ++ L.flat (l.set i _)
  rw [List.set_append_right _ _ (by show 3 <= _; omega), <- ih]
  congr 2
def fm (l : List L.Ls) (n : List Int) : Nat -> List L.Ls
 | 0 => l
 | k + 1 => match (fm l n k)[k]? with
  | some z => (fm l n k).set k { z with f := n.getD k 0 }
  | none => fm l n k
theorem fm_len (l : List L.Ls) (n : List Int) : ∀ k, (fm l n k).length = l.length
 | 0 => rfl
 | k + 1 => by
  unfold fm
  split
  ·rw [List.length_set, fm_len l n k]
  ·exact fm_len l n k
theorem fm_at (l : List L.Ls) (n : List Int) : ∀ (k i : Nat), (fm l n k)[i]? = if i < k then (l[i]?).map (fun z => { z with f := n.getD i 0 }) else l[i]?
 | 0, i => by simp [fm]
 | k + 1, i => by
  have ih := fm_at l n k
  have hk : (fm l n k)[k]? = l[k]? := by rw [ih, if_neg (by omega)]
  unfold fm
  rw [hk]
  cases hz : l[k]? with
  | none =>
   simp only
   rw [ih]
   by_cases h : i < k
   ·rw [if_pos h, if_pos (by omega)]
   ·by_cases e : i = k
    ·subst e; rw [if_neg (by omega), if_pos (by omega), hz]; rfl
    ·rw [if_neg h, if_neg (by omega)]
  | some z =>
   simp only
   rw [List.getElem?_set]
   by_cases e : k = i
   ·subst e
    have := (List.getElem?_eq_some_iff.1 hz).1
    rw [if_pos rfl, fm_len, if_pos this, if_pos (by omega), hz]; rfl
   ·rw [if_neg e, ih]
    by_cases h : i < k
    ·rw [if_pos h, if_pos (by omega)]
    ·rw [if_neg h, if_neg (by omega)]
theorem fm_set {l : List L.Ls} {n : List Int} {k : Nat} {z : L.Ls} (h : (fm l n k)[k]? = some z) : (fm l n k).set k { z with f := n.getD k 0 } = fm l n (k + 1) := by
 rw [fm, h]
theorem fm_all {l m : List L.Ls} (h : l = m.map fun x => { x with f := 0 }) : fm l (m.map fun x => x.f) m.length = m := by
 apply List.ext_getElem?
 intro i
 rw [fm_at]
 subst h
 by_cases hi : i < m.length
 ·rw [if_pos hi]
  simp [hi]
 ·rw [if_neg hi]
  simp [hi]
def hm (l : List L.T3) (n : List Int) : Nat -> List L.T3
 | 0 => l
 | k + 1 => match (hm l n k)[k]? with
  | some z => (hm l n k).set k { z with x := n.getD k 0 }
  | none => hm l n k
theorem hm_len (l : List L.T3) (n : List Int) : ∀ k, (hm l n k).length = l.length
 | 0 => rfl
 | k + 1 => by
  unfold hm
  split
  ·rw [List.length_set, hm_len l n k]
  ·exact hm_len l n k
theorem hm_at (l : List L.T3) (n : List Int) : ∀ (k i : Nat), (hm l n k)[i]? = if i < k then (l[i]?).map (fun z => { z with x := n.getD i 0 }) else l[i]?
 | 0, i => by simp [hm]
 | k + 1, i => by
  have ih := hm_at l n k
  have hk : (hm l n k)[k]? = l[k]? := by rw [ih, if_neg (by omega)]
  unfold hm
  rw [hk]
  cases hz : l[k]? with
  | none =>
   simp only
   rw [ih]
   by_cases h : i < k
   ·rw [if_pos h, if_pos (by omega)]
   ·by_cases e : i = k
    ·subst e; rw [if_neg (by omega), if_pos (by omega), hz]; rfl
    ·rw [if_neg h, if_neg (by omega)]
  | some z =>
   simp only
   rw [List.getElem?_set]
   by_cases e : k = i
   ·subst e
    have := (List.getElem?_eq_some_iff.1 hz).1
    rw [if_pos rfl, hm_len, if_pos this, if_pos (by omega), hz]; rfl
   ·rw [if_neg e, ih]
    by_cases h : i < k
    ·rw [if_pos h, if_pos (by omega)]
    ·rw [if_neg h, if_neg (by omega)]
theorem hm_set {l : List L.T3} {n : List Int} {k : Nat} {z : L.T3} (h : (hm l n k)[k]? = some z) : (hm l n k).set k { z with x := n.getD k 0 } = hm l n (k + 1) := by
 rw [hm, h]
theorem hm_all {l m : List L.T3} (h : l = m.map fun x => { x with x := 0 }) : hm l (m.map fun x => x.x) m.length = m := by
 apply List.ext_getElem?
 intro i
 rw [hm_at]
 subst h
 by_cases hi : i < m.length
 ·rw [if_pos hi]
  simp [hi]
 ·rw [if_neg hi]
  simp [hi]
structure Rd (w : World) (b H : Nat) (s : Y.St) (A : Y.A9) (an : Option Addr) (nn cn : Nat) (N : List Int) : Prop where
 k : Blok w b 153 (Y.cs s A ++ [Value.slice an nn cn]).toArray
 o : Y.OwnR w H s A
 n : w.ownsRow H 3 1 (.slice an nn cn) nn (N.map (Value.int .i64))
 b : b < H
theorem Rd.below {w w' : World} {b H nn cn : Nat} {s : Y.St} {A : Y.A9} {an : Option Addr} {N : List Int} (h : Rd w b H s A an nn cn N) (hb : Below w.heap.size w w') : Rd w' b H s A an nn cn N := ⟨h.k.below hb h.k.lt, h.o.below hb, zab h.n hb, h.b⟩
theorem Rd.len {w : World} {b H nn cn : Nat} {s : Y.St} {A : Y.A9} {an : Option Addr} {N : List Int} (h : Rd w b H s A an nn cn N) : N.length = nn := by have := h.n.1; simpa using this
structure Far (b H : Nat) (w w' : World) : Prop where
 os : w'.os = w.os
 tape : w'.tape = w.tape
 output : w'.output = w.output
 o : KeepsOthers w w'
 block : ∀ k, k < H -> k ≠ b -> w'.heap[k]? = w.heap[k]?
theorem Far.trans {b H : Nat} {w v u : World} (h : Far b H w v) (k : Far b H v u) : Far b H w u := ⟨k.os.trans h.os, k.tape.trans h.tape, k.output.trans h.output, h.o.trans k.o, fun i hi hb => (k.block i hi hb).trans (h.block i hi hb)⟩
theorem Far.of_grown {b H : Nat} {w w' : World} {row : Option Nat} (h : w.grownBy w' row) (hH : H <= w.heap.size) (hr : ∀ r, row = some r -> (H <= r \/ r = b) /\ ∀ o : Obj, w.heap[r]? = some o -> o.isCells = true) : Far b H w w' :=
 ⟨h.os, h.tape, h.output, KeepsOthers.of_grownBy h (fun j o e hj => (hr j e).2 o hj), fun k hk hb => h.block k (by omega) (fun e => by
  rcases (hr k e.symm).1 with h1 | h1
  ·omega
  ·exact hb h1)⟩
theorem Far.of_below {b H : Nat} {w w' : World} (h : Below w.heap.size w w') (hH : H <= w.heap.size) : Far b H w w' := Far.of_grown (row := none) ⟨h.os, h.tape, h.output, h.size, fun k hk _ => h.block k hk⟩ hH (fun r e => by cases e)
theorem row_cells {w : World} {B k n j : Nat} {t : TypeId} {v : Value} {xs : List Value} {o : Obj} (h : w.ownsRow B t k v n xs) (e : v.ownBlock = some j) (ho : w.heap[j]? = some o) : o.isCells = true := by
 rcases h.2 with ⟨rfl, _⟩ | ⟨g, cap, cur, rfl, _, hgb, _⟩
 ·simp [Value.ownBlock] at e
 ·obtain rfl : g = j := by simpa [Value.ownBlock] using e
  rw [hgb] at ho; cases ho; rfl
theorem Far.size {b H : Nat} {w w' : World} (h : Far b H w w') : w.heap.size <= w'.heap.size := h.o.size
end J
end Go.Proofs.YtnbkkjcmblfhpaaGreat
namespace Go.Proofs.YtnbkkjcmblfhpaaGreat
end Go.Proofs.YtnbkkjcmblfhpaaGreat
namespace Go.Proofs.YtnbkkjcmblfhpaaGreat
open Go.RowKit
theorem zne (l : Int) (w : World) : Calls Tryz.prog 226 #[.int .i64 l] w fun e w' => e = .returned (.func (.func 281) #[] #[.pointer (some ⟨w.heap.size, 0, none⟩)]) /\ w' = w.alloc (.cells #[.int .i64 l] 3) := by
 go_enter Tryz.func226, Tryz.ntmps226
 go_wp2
 go_ret
 exact ⟨rfl, rfl⟩
theorem znv (n l : Int) (b : Bool) (B : Nat) (w : World) (hb : Blok w B 3 #[.int .i64 l]) (hd : decide (n < 0 \/ l <= n) = b) :
  Calls Tryz.prog 281 #[.int .i64 n, .pointer (some ⟨B, 0, none⟩)] w fun e w' => e = .returned (.bool b) /\ w = w' := by
 have c0 := Zv hb 0 (.int .i64 l)
 by_cases h0 : n < 0
 ·obtain rfl : b = true := by rw [<- hd]; exact decide_eq_true (.inl h0)
  clear hd
  go_enter Tryz.func281, Tryz.ntmps281
  go_wp2
  go_ret
  exact ⟨rfl, rfl⟩
 ·by_cases h1 : l <= n
  ·obtain rfl : b = true := by rw [<- hd]; exact decide_eq_true (.inr h1)
   clear hd
   go_enter Tryz.func281, Tryz.ntmps281
   go_wp2
   go_ret
   exact ⟨rfl, rfl⟩
  ·obtain rfl : b = false := by rw [<- hd]; exact decide_eq_false (by omega)
   clear hd
   go_enter Tryz.func281, Tryz.ntmps281
   go_wp2
   go_ret
   exact ⟨rfl, rfl⟩
def K.lim (l : Int) (L : List Int) : Prop := ∀ d ∈ L, 0 <= d /\ d < l
instance (l : Int) (L : List Int) : Decidable (K.lim l L) := inferInstanceAs (Decidable (∀ d ∈ L, 0 <= d /\ d < l))
theorem K.lim_step {l : Int} {L : List Int} {k : Nat} {x : Int} (h : K.lim l (L.take k)) (hk : k < L.length) (hx : L.getD k 0 = x) (hd : decide (x < 0 \/ l <= x) = false) : K.lim l (L.take (k + 1)) := by
 rw [zup hk, hx]
 intro d hd'
 rcases List.mem_append.1 hd' with h1 | h1
 ·exact h d h1
 ·simp only [List.mem_singleton] at h1; subst h1
  have := of_decide_eq_false hd
  omega
theorem K.lim_bad {l : Int} {L : List Int} {k : Nat} {x : Int} (hk : k < L.length) (hx : L.getD k 0 = x) (hd : decide (x < 0 \/ l <= x) = true) : ¬ K.lim l L := by
 intro h
 have hm : x ∈ L := by rw [<- hx]; simp [hk]
 have := h x hm
 have := of_decide_eq_true hd
 omega
theorem zri (a : Option Addr) (len cap : Nat) (L : List Int) (l : Int) (B : Nat) (w : World) (hl : L.length = len) (h : zfv .i64 w a cap L) (hb : Blok w B 3 #[.int .i64 l]) :
  Calls Tryz.prog 280 #[.slice a len cap, .func (.func 281) #[] #[.pointer (some ⟨B, 0, none⟩)]] w fun e w' => ∃ r : Int, e = .returned (.int .i64 r) /\ decide (0 <= r) = !decide (K.lim l L) /\ w = w' := by
 have HL := Zh hl
 have HR := Zh h
 have HB := Zh hb
 have hlm : len <= 9223372036854775807 := by have := h.1; unfold maxLen at this; omega
 clear hl h hb
 go_enter Tryz.func280, Tryz.ntmps280
 go_wp2
 go_loop [8] (fun i => ∃ k : Nat, i = .int .i64 k /\ k <= len /\ Hid (K.lim l (L.take k))) (fun i => len - (intOf i).toNat)
 case atStart => exact ⟨0, rfl, by omega, Zh (by simp [K.lim])⟩
 case round =>
  obtain ⟨k, rfl, hkn, HT⟩ := hrel
  by_cases hlt : k < len
  ·obtain ⟨b, off, rfl, hb, hc⟩ := zl4 HR.out (by rw [HL.out]; exact hlt)
   obtain ⟨x, hx⟩ : ∃ x, L.getD k 0 = x := ⟨_, rfl⟩
   rw [hx] at hc
   have HX := Zh hx
   obtain ⟨d, hd⟩ : ∃ d, decide (x < 0 \/ l <= x) = d := ⟨_, rfl⟩
   have HD := Zh hd
   clear hx hd
   go_wp2_with (go_at_call 281; refine (znv x l d B _ HB.out HD.out).mono ?_; rintro e w' ⟨rfl, rfl⟩)
   ·obtain rfl : d = true := by assumption
    go_ret
    have hb := K.lim_bad (by rw [HL.out]; exact hlt) HX.out HD.out
    exact ⟨k, rfl, by rw [decide_eq_false hb]; simp, rfl⟩
   ·obtain rfl : d = false := by assumption
    go_round
    case rel => exact ⟨k + 1, by go_num, by omega, Zh (K.lim_step HT.out (by rw [HL.out]; exact hlt) HX.out HD.out)⟩
    case measure => simp [intOf]; omega
  ·have hd : decide (k < len) = false := by simp; omega
   go_wp2
   go_ret
   have ht := HT.out
   rw [List.take_of_length_le (by rw [HL.out]; omega)] at ht
   exact ⟨-1, rfl, by rw [decide_eq_true ht]; rfl, rfl⟩
theorem zoe (a : Option Addr) (len cap : Nat) (L : List Int) (l : Int) (b : Bool) (B : Nat) (w : World) (hl : L.length = len) (h : zfv .i64 w a cap L) (hb : Blok w B 3 #[.int .i64 l]) (hd : decide (K.lim l L) = b) :
  Calls Tryz.prog 225 #[.slice a len cap, .func (.func 281) #[] #[.pointer (some ⟨B, 0, none⟩)]] w fun e w' => e = .returned (.bool (!b)) /\ w = w' := by
 have HL := Zh hl
 have HR := Zh h
 have HB := Zh hb
 have HD := Zh hd
 clear hl h hb hd
 go_enter Tryz.func225, Tryz.ntmps225
 go_wp2_with (go_at_call 280; refine (zri a len cap L l B _ HL.out HR.out HB.out).mono ?_; rintro e w' ⟨r, rfl, hr, rfl⟩; rw [HD.out] at hr; have HQ := Zh hr; clear hr)
 go_ret
 exact ⟨by rw [<- HQ.out]; rfl, rfl⟩
theorem znk (n v : Int) (w : World) : Calls Tryz.prog 224 #[.int .i64 n, .int .i64 v] w fun e w' => e = .returned (.int .i64 (K.size n v)) /\ Below w.heap.size w w' := by
 have B1 : ∀ l : Int, Below w.heap.size w (w.alloc (.cells #[.int .i64 l] 3)) := fun l => (Below.refl _ _).alloc (Nat.le_refl _) _
 have B2 : ∀ l m : Int, Below w.heap.size w ((w.alloc (.cells #[.int .i64 l] 3)).alloc (.cells #[.int .i64 m] 3)) := fun l m => (B1 l).alloc (by simp) _
 have BB : ∀ l m : Int, Blok ((w.alloc (.cells #[.int .i64 l] 3)).alloc (.cells #[.int .i64 m] 3)) (w.heap.size + 1) 3 #[.int .i64 m] := fun l m => by
  have := Blok.new (w.alloc (.cells #[.int .i64 l] 3)) 3 #[.int .i64 m]
  rwa [World.size_alloc] at this
 by_cases h1 : n < 0 \/ 401 <= n
 ·have HS := Zh (K.size_no (n := n) (w := v) (by omega))
  have d1 := decide_eq_true h1
  have D1 := Zh d1
  clear h1 d1
  go_enter Tryz.func224, Tryz.ntmps224
  go_wp2_with (first
   | (go_at_call 226; refine (zne _ _).mono ?_; rintro e w' ⟨rfl, rfl⟩)
   | (go_at_call 281; refine (znv n 401 true w.heap.size _ (Blok.new w _ _) D1.out).mono ?_; rintro e w' ⟨rfl, rfl⟩))
  go_ret
  exact ⟨by rw [HS.out]; rfl, B1 _⟩
 ·have d1 := decide_eq_false h1
  have D1 := Zh d1
  clear d1
  by_cases h2 : v < 0 \/ 33 <= v
  ·have HS := Zh (K.size_no (n := n) (w := v) (by omega))
   have d2 := decide_eq_true h2
   have D2 := Zh d2
   clear h1 h2 d2
   go_enter Tryz.func224, Tryz.ntmps224
   go_wp2_with fail
   refine (zne _ _).mono ?_
   rintro e w' ⟨rfl, rfl⟩
   go_wp2_with fail
   refine (znv n 401 false w.heap.size _ (Blok.new w _ _) D1.out).mono ?_
   rintro e w' ⟨rfl, rfl⟩
   go_wp2_with fail
   refine (zne _ _).mono ?_
   rintro e w' ⟨rfl, rfl⟩
   go_wp2_with fail
   refine (znv v 33 true _ _ (BB 401 33) D2.out).mono ?_
   rintro e w' ⟨rfl, rfl⟩
   go_wp2
   go_ret
   exact ⟨by rw [HS.out]; rfl, B2 _ _⟩
  ·have d2 := decide_eq_false h2
   have D2 := Zh d2
   clear d2
   obtain ⟨m, rfl⟩ : ∃ m : Nat, n = m := ⟨n.toNat, by omega⟩
   obtain ⟨u, rfl⟩ : ∃ m : Nat, v = m := ⟨v.toNat, by omega⟩
   have HS := Zh (K.size_in (n := m) (w := u) (by omega) (by omega))
   have hp : m * u <= 400 * 32 := Nat.mul_le_mul (by omega) (by omega)
   clear h1 h2
   obtain ⟨p, hp'⟩ : ∃ p, m * u = p := ⟨_, rfl⟩
   rw [hp'] at hp
   have hpi : (m : Int) * (u : Int) = p := by rw [<- hp']; simp
   rw [hp'] at HS
   clear hp'
   go_enter Tryz.func224, Tryz.ntmps224
   go_wp2_with fail
   refine (zne _ _).mono ?_
   rintro e w' ⟨rfl, rfl⟩
   go_wp2_with fail
   refine (znv m 401 false w.heap.size _ (Blok.new w _ _) D1.out).mono ?_
   rintro e w' ⟨rfl, rfl⟩
   go_wp2_with fail
   refine (zne _ _).mono ?_
   rintro e w' ⟨rfl, rfl⟩
   go_wp2_with fail
   refine (znv u 33 false _ _ (BB 401 33) D2.out).mono ?_
   rintro e w' ⟨rfl, rfl⟩
   go_wp2
   go_ret
   exact ⟨znj (by rw [HS.out]; omega), B2 _ _⟩
end Go.Proofs.YtnbkkjcmblfhpaaGreat
namespace Go.Proofs.YtnbkkjcmblfhpaaGreat
open Go.RowKit
theorem zti {o k : Nat} (ho : o < 256) : bits .and .u8 ((o : Int) / 2 ^ k) 1 = (K.bit o k : Nat) := by
 have e : ((o : Int) / 2 ^ k) = ((o / 2 ^ k : Nat) : Int) := by simp
 have h := Nat.div_le_self o (2 ^ k)
 have := u8_and_nat (o / 2 ^ k) 1 (by omega) (by omega)
 rw [Nat.and_one_is_mod] at this
 rw [e]
 exact this
theorem zsx (g at_ o : Nat) (w : World) (ha : at_ < 12800) (ho : o < 256) (hc : w.cell? ⟨g, at_ / 8, none⟩ = some (.int .u8 o)) :
  Calls Tryz.prog 249 #[.pointer (some ⟨g, 0, none⟩), .int .i64 at_] w fun e w' => e = .returned (.int .i64 (K.bit o (at_ % 8) : Nat)) /\ w = w' := by
 go_enter Tryz.func249, Tryz.ntmps249
 go_wp2
 go_ret
 exact ⟨znj (by rw [zti ho]; exact IntWalk.wrap64_in _ (by have := K.bit_lt o (at_ % 8); omega)), rfl⟩
theorem ztu {o b k : Nat} (ho : o < 2 ^ k) (hb : b < 2) (hk : k < 8) : bits .or .u8 (o : Int) (wrap64 ((b : Int) * 2 ^ k) % 256) = (o + b * 2 ^ k : Nat) := by
 have h1 : 2 ^ k <= 2 ^ 7 := Nat.pow_le_pow_right (by decide) (by omega)
 have h2 : b * 2 ^ k <= 1 * 2 ^ 7 := Nat.mul_le_mul (by omega) h1
 have e : ((b : Int) * 2 ^ k) = ((b * 2 ^ k : Nat) : Int) := by simp
 have h3 := u8_or_nat o (b * 2 ^ k) (by omega) (by omega)
 rw [K.or_add ho] at h3
 rw [e, IntWalk.wrap64_in _ (by omega), <- h3]
 congr 1
 omega
theorem zlo (g at_ o b : Nat) (w : World) (ha : at_ < 12800) (ho : o < 2 ^ (at_ % 8)) (hb : b < 2) (hc : w.cell? ⟨g, at_ / 8, none⟩ = some (.int .u8 o)) (hf : w.frozen? ⟨g, at_ / 8, none⟩ = false) :
  Calls Tryz.prog 227 #[.pointer (some ⟨g, 0, none⟩), .int .i64 at_, .int .i64 b] w fun e w' => e = .returned (.tuple #[]) /\ w' = (w.setCell ⟨g, at_ / 8, none⟩ (.int .u8 (o + b * 2 ^ (at_ % 8) : Nat))).drew := by
 go_enter Tryz.func227, Tryz.ntmps227
 go_wp2
 go_region
 rw [ztu ho hb (Nat.mod_lt _ (by decide))]
 go_end0
 exact ⟨rfl, rfl⟩
theorem zqp (x : Addr) (n cap : Nat) (L : List Int) (w : World) (hn16 : n <= 100000) (hl : L.length = n) (h : zfv .u8 w (some x) cap L) :
  Calls Tryz.prog 104 #[.slice (some x) n cap] w fun e w' => ∃ v, e = .returned v /\ w'.ownsRow w.heap.size 5 1 v n (L.map (Value.int .u8)) /\ Below w.heap.size w w' := by
 obtain ⟨i0, hi, hz0, hz1, hz2⟩ := info_parts zrf
 have he : ∀ w : World, (binOp .eql 51 (.slice (some x) n cap) (.slice none 0 0)).run Tryz.prog w = .ok (.bool false) w := fun _ => by kernel_rfl
 have hn : n <= cap /\ cap <= maxLen := by have := h.1; omega
 have HL := Zh hl
 have HR := Zh h
 clear hl h
 go_enter Tryz.func104, Tryz.ntmps104
 go_wp2_with (at_builtin; refine znf _ rfl _ _ 51 rfl w.heap.size 5 i0 (.int .u8 0) 1 Tryz.underlying51 hi hz0 hz1 hz2 rfl _ 0 [] rfl ((Blok.new w 5 #[]).own (xs := []) (Nat.le_refl _) rfl (Nat.le_refl _) (by omega) rfl) .u8 _ n cap L rfl (HR.out.below ((Below.refl _ w).alloc (Nat.le_refl _) _)) HL.out (fun h => by cases h) (by unfold maxLen; omega) (by omega) (by simp) ?_; intro v' w2 hown' hgrow)
 go_ret
 rw [Nat.zero_add] at hown'
 exact ⟨v', rfl, by simpa using hown', ((Below.refl _ w).alloc (Nat.le_refl _) _).grown hgrow (by simp) (fun k ek => by cases ek; exact Nat.le_refl _)⟩
theorem ztj {a b : Nat} (ha : a < 2 ^ 63) (hb : b < 2 ^ 63) : bits .or .i64 (a : Int) (b : Int) = ((a ||| b : Nat) : Int) :=
 (bits_nat .i64 63 (by decide) (fun n h0 h1 => by rw [IntKind.wrap_i64]; omega) a b ha hb).2
theorem zsy {a b : Nat} (ha : a < 2 ^ 63) (hb : b < 2 ^ 63) : bits .and .i64 (a : Int) (b : Int) = ((a &&& b : Nat) : Int) :=
 (bits_nat .i64 63 (by decide) (fun n h0 h1 => by rw [IntKind.wrap_i64]; omega) a b ha hb).1
theorem zsz {o k : Nat} (ho : o < 4294967296) : bits .and .i64 ((o : Int) / 2 ^ k) 1 = (K.bit o k : Nat) := by
 have e : ((o : Int) / 2 ^ k) = ((o / 2 ^ k : Nat) : Int) := by simp
 have h := Nat.div_le_self o (2 ^ k)
 have := zsy (a := o / 2 ^ k) (b := 1) (by omega) (by omega)
 rw [Nat.and_one_is_mod] at this
 rw [e]
 exact this
theorem K.isd_at {B : Nat} {L : List Int} (h : K.isd B L) {k : Nat} (hk : k < L.length) : ∃ m : Nat, L.getD k 0 = (m : Int) /\ m < B := by
 have hm : L.getD k 0 ∈ L := by simp [hk]
 have := h _ hm
 exact ⟨(L.getD k 0).toNat, by omega, by omega⟩
end Go.Proofs.YtnbkkjcmblfhpaaGreat
namespace Go.Proofs.YtnbkkjcmblfhpaaGreat
open Go.RowKit
theorem zpc {P : Nat -> Prop} (h : ∃ n, P n) : ∃ n, P n /\ ∀ m, P m -> n <= m := by
 obtain ⟨n, hn⟩ := h
 induction n using Nat.strongRecOn with
 | _ n ih =>
  by_cases hm : ∃ m, m < n /\ P m
  ·obtain ⟨m, h1, h2⟩ := hm
   exact ih m h1 h2
  ·exact ⟨n, hn, fun m hP => Nat.le_of_not_lt fun hlt => hm ⟨m, hlt, hP⟩⟩
open Classical in
noncomputable def leastM (J : Nat -> Act -> World -> Prop) (a : Act) (w : World) : Nat := if h : ∃ n, J n a w then (zpc h).choose else 0
theorem zrj {J : Nat -> Act -> World -> Prop} {a : Act} {w : World} {n : Nat} (h : J n a w) : leastM J a w <= n := by
 unfold leastM
 rw [dif_pos ⟨n, h⟩]
 exact (zpc (P := fun n => J n a w) ⟨n, h⟩).choose_spec.2 n h
theorem zrk {J : Nat -> Act -> World -> Prop} {a : Act} {w : World} (h : ∃ n, J n a w) : J (leastM J a w) a w := by
 unfold leastM
 rw [dif_pos h]
 exact (zpc h).choose_spec.1
theorem zn6 {P : Program} {a : Act} {w : World} {Q : Exit -> Act -> World -> Prop} {c y : Code} (l : Nat) (J : Nat -> Act -> World -> Prop) (hf : findLabel c l = some (.seq .skip y))
  (pass : ∀ n a w, J n a w -> y.wp P (Exit.jump l (fun a' w' => ∃ n', n' < n /\ J n' a' w') Q) a w)
  (first : (∀ n a w, J n a w -> y.wp P (Exit.jump l (fun a' w' => ∃ n, J n a' w') Q) a w) -> c.wp P (Exit.jump l (fun a' w' => ∃ n, J n a' w') Q) a w) : (Code.scope c).wp P Q a w := by
 refine wp_scope_jumps l (fun a w => ∃ n, J n a w) (leastM J) hf (first fun n a w hJ => wp_mono (pass n a w hJ) ?_) fun a w hJ => wp_seq (wp_skip (wp_mono (pass _ a w (zrk hJ)) ?_))
 ·intro e a' w' h
  cases e with
  | goto l' => obtain ⟨h1, n', _, h2⟩ := h; exact ⟨h1, n', h2⟩
  | _ => exact h
 ·intro e a' w' h
  cases e with
  | goto l' =>
   obtain ⟨h1, n', h2, h3⟩ := h
   exact ⟨h1, ⟨n', h3⟩, Nat.lt_of_le_of_lt (zrj h3) h2⟩
  | _ => exact h
end Go.Proofs.YtnbkkjcmblfhpaaGreat
