import Derived.ArgAppend
import Derived.Laws.OwnMore
import Derived.Test.YtnbkkjcmblfhpaaGreatP0
import Derived.Test.YtnbkkjcmblfhpaaGreatP4
namespace Go.Proofs.YtnbkkjcmblfhpaaGreat
set_option maxHeartbeats 400000
namespace O
structure Pl where
 f : Int
 n : Int
 s : Int
deriving DecidableEq
def zp : Pl := ⟨0, 0, 0⟩
def has (p : Pl) (x : Int) : Bool := decide (0 <= p.f /\ p.f <= 4 /\ 1 <= p.n /\ p.n <= 4 /\ p.f <= x /\ x < p.f + p.n)
def below (p : Pl) (out : Int) : Bool := decide (0 <= p.f /\ 1 <= p.n /\ p.n <= out - p.f)
def fits (p : Pl) (out : Int) : Bool := decide (0 <= p.f /\ 1 <= p.n /\ p.n <= out - p.f /\ 0 <= p.s /\ p.s < 2)
def hit (p q : Pl) : Bool := has p q.f || has q p.f
def meet (p q : Pl) : Bool := (List.range 8).any fun i => has p i && has q i
theorem below_iff {p : Pl} {out : Int} : below p out = true ↔ 0 <= p.f /\ 1 <= p.n /\ p.n <= out - p.f := by simp [below]
theorem fits_iff {p : Pl} {out : Int} : fits p out = true ↔ 0 <= p.f /\ 1 <= p.n /\ p.n <= out - p.f /\ 0 <= p.s /\ p.s < 2 := by simp [fits]
def May (l : List Pl) (out : Int) : Prop := 0 <= out /\ out <= 4 /\ l.length <= 3 /\ (∀ p ∈ l, fits p out = true) /\ l.Pairwise (fun q p => hit p q = false)
instance (l : List Pl) (out : Int) : Decidable (May l out) := by unfold May; exact inferInstance
def may (l : List Pl) (out : Int) : Bool := decide (May l out)
theorem may_iff {l : List Pl} {out : Int} : may l out = true ↔ May l out := by simp [may]
theorem may_no {l : List Pl} {out : Int} (h : ¬ May l out) : may l out = false := by simpa [may] using h
def of (l : List Pl) (x : Int) : Int := match l.findIdx? (fun p => has p x) with | some i => (i : Int) | none => -1
def at' (l : List Pl) (k : Int) : Pl := l.getD k.toNat zp
def gives (l : List Pl) (x : Int) : Bool := decide (0 <= of l x /\ (at' l (of l x)).s = 0)
theorem of_none {l : List Pl} {x : Int} (h : ∀ p ∈ l, has p x = false) : of l x = -1 := by
 unfold of
 rw [List.findIdx?_eq_none_iff.2 (fun p hp => by rw [h p hp])]
theorem of_some {l : List Pl} {x : Int} {i : Nat} {p : Pl} (hi : l[i]? = some p) (hp : has p x = true) (hb : ∀ q ∈ l.take i, has q x = false) : of l x = i := by
 unfold of
 obtain ⟨h0, h1⟩ := List.getElem?_eq_some_iff.1 hi
 rw [List.findIdx?_eq_some_iff_getElem.2 ⟨h0, by rw [h1]; exact hp, fun j hj => by
  rw [hb (l[j]'(by omega)) (List.mem_take_iff_getElem.2 ⟨j, by omega, rfl⟩)]; decide⟩]
theorem of_cases (l : List Pl) (x : Int) : (of l x = -1 /\ ∀ p ∈ l, has p x = false) \/ ∃ (i : Nat) (p : Pl), of l x = i /\ l[i]? = some p /\ has p x = true /\ ∀ q ∈ l.take i, has q x = false := by
 by_cases h : ∀ p ∈ l, has p x = false
 ·exact .inl ⟨of_none h, h⟩
 ·right
  have h2 : l.findIdx? (fun p => has p x) ≠ none := fun e => h (fun p hp => by simpa using List.findIdx?_eq_none_iff.1 e p hp)
  obtain ⟨i, hi⟩ := Option.ne_none_iff_exists'.1 h2
  obtain ⟨h3, h4, h5⟩ := List.findIdx?_eq_some_iff_getElem.1 hi
  refine ⟨i, l[i], by unfold of; rw [hi], List.getElem?_eq_getElem h3, h4, fun q hq => ?_⟩
  obtain ⟨j, hj, rfl⟩ := List.mem_take_iff_getElem.1 hq
  have := h5 j (by omega)
  simpa using this
def loses (was will : Pl) (busy : List Int) : Bool := busy.any fun x => has was x && !has will x
def add (l : List Pl) (out f n : Int) : List Pl × Int :=
 if may l out = false \/ below ⟨f, n, 0⟩ out = false then (l, 1)
 else if l.any (fun q => hit ⟨f, n, 0⟩ q) = true then (l, 11)
 else if l.length = 3 then (l, 9) else (l ++ [⟨f, n, 0⟩], 0)
def drain (l : List Pl) (out k : Int) : List Pl × Int :=
 if may l out = false then (l, 1)
 else if k < 0 \/ (l.length : Int) <= k then (l, 5)
 else if (at' l k).s = 1 then (l, 11) else (l.set k.toNat { at' l k with s := 1 }, 0)
def size (l : List Pl) (out k n : Int) (busy : List Int) : List Pl × Int :=
 if may l out = false then (l, 1)
 else if k < 0 \/ (l.length : Int) <= k then (l, 5)
 else if below { at' l k with n := n } out = false then (l, 1)
 else if (l.eraseIdx k.toNat).any (fun q => hit { at' l k with n := n } q) = true then (l, 11)
 else if loses (at' l k) { at' l k with n := n } busy = true then (l, 12)
 else (l.set k.toNat { at' l k with n := n }, 0)
def gone (l : List Pl) (out k : Int) (busy : List Int) : List Pl × Int :=
 if may l out = false then (l, 1)
 else if k < 0 \/ (l.length : Int) <= k then (l, 5)
 else if (at' l k).s = 0 \/ loses (at' l k) zp busy = true then (l, 12)
 else (l.eraseIdx k.toNat, 0)
end O
open Go.RowKit
def O.cells (t : O.Pl) : List Value := [.int .i64 t.f, .int .i64 t.n, .int .i64 t.s]
def O.flat (l : List O.Pl) : List Value := l.flatMap O.cells
theorem O.flat_cons (t : O.Pl) (l : List O.Pl) : O.flat (t :: l) = .int .i64 t.f :: .int .i64 t.n :: .int .i64 t.s :: O.flat l := rfl
theorem O.flat_at : ∀ (l : List O.Pl) (i : Nat) (x : O.Pl), l[i]? = some x -> (O.flat l)[i * 3]? = some (.int .i64 x.f) /\ (O.flat l)[i * 3 + 1]? = some (.int .i64 x.n) /\ (O.flat l)[i * 3 + 2]? = some (.int .i64 x.s)
 | [], _, _, h => by simp at h
 | y :: l, 0, x, h => by
  obtain rfl : y = x := by simpa using h
  exact ⟨rfl, rfl, rfl⟩
 | y :: l, i + 1, x, h => by
  have := O.flat_at l i x (by simpa using h)
  have e : (i + 1) * 3 = i * 3 + 3 := by omega
  rw [e, O.flat_cons]
  exact this
def QIn (w : World) (a : Option Addr) (n c : Nat) (l : List O.Pl) : Prop :=
 l.length = n /\ (n <= c /\ c <= maxLen) /\ (a = none -> n = 0 /\ c = 0) /\ (l = [] \/ ∃ b off, a = some ⟨b, off, none⟩ /\ b < w.heap.size /\ ∀ i x, l[i]? = some x -> w.cell? ⟨b, off + i * 3, none⟩ = some (.int .i64 x.f) /\ w.cell? ⟨b, off + i * 3 + 1, none⟩ = some (.int .i64 x.n) /\ w.cell? ⟨b, off + i * 3 + 2, none⟩ = some (.int .i64 x.s))
theorem QIn.grown {w w' : World} {a : Option Addr} {n c : Nat} {l : List O.Pl} {row : Option Nat} (h : QIn w a n c l) (hg : w.grownBy w' row) (hr : ∀ x, a = some x -> some x.block ≠ row) : QIn w' a n c l := by
 refine ⟨h.1, h.2.1, h.2.2.1, ?_⟩
 rcases h.2.2.2 with h0 | ⟨b, off, rfl, hlt, hc⟩
 ·exact .inl h0
 ·refine .inr ⟨b, off, rfl, Nat.lt_of_lt_of_le hlt hg.size, fun i x hi => ?_⟩
  have hb : ∀ o, w'.cell? ⟨b, o, none⟩ = w.cell? ⟨b, o, none⟩ := fun o => by unfold World.cell?; rw [hg.block b hlt (hr _ rfl)]
  rw [hb, hb, hb]; exact hc i x hi
theorem QIn.on {w w' : World} {a : Option Addr} {n c : Nat} {l : List O.Pl} (h : QIn w a n c l) (hg : w.grownBy w' none) : QIn w' a n c l := h.grown hg (by simp)
theorem QIn.below {w w' : World} {a : Option Addr} {n c : Nat} {l : List O.Pl} (h : QIn w a n c l) (hb : Below w.heap.size w w') : QIn w' a n c l :=
 h.on ⟨hb.os, hb.tape, hb.output, hb.size, fun i hi _ => hb.block i hi⟩
theorem QIn.nil (w : World) : QIn w none 0 0 [] := ⟨rfl, ⟨Nat.le_refl _, by simp [maxLen]⟩, fun _ => ⟨rfl, rfl⟩, .inl rfl⟩
theorem QIn.at {w : World} {a : Option Addr} {n c i : Nat} {l : List O.Pl} (h : QIn w a n c l) (hi : i < n) :
  ∃ b off x, a = some ⟨b, off, none⟩ /\ b < w.heap.size /\ l[i]? = some x /\ w.cell? ⟨b, off + i * 3, none⟩ = some (.int .i64 x.f) /\ w.cell? ⟨b, off + i * 3 + 1, none⟩ = some (.int .i64 x.n) /\ w.cell? ⟨b, off + i * 3 + 2, none⟩ = some (.int .i64 x.s) := by
 rcases h.2.2.2 with rfl | ⟨b, off, rfl, hb, hc⟩
 ·have := h.1; simp at this; omega
 ·have hx := List.getElem?_eq_getElem (show i < l.length by rw [h.1]; exact hi)
  exact ⟨b, off, _, rfl, hb, hx, (hc i _ hx).1, (hc i _ hx).2.1, (hc i _ hx).2.2⟩
theorem QIn.take {w : World} {a : Option Addr} {n c : Nat} {l : List O.Pl} (h : QIn w a n c l) (j : Nat) (hj : j <= n) : QIn w a j c (l.take j) := by
 refine ⟨by have := h.1; simp; omega, ⟨by have := h.2.1; omega, h.2.1.2⟩, fun ha => ?_, ?_⟩
 ·have := h.2.2.1 ha; omega
 ·rcases h.2.2.2 with rfl | ⟨b, off, rfl, hb, hc⟩
  ·exact .inl (by simp)
  ·refine .inr ⟨b, off, rfl, hb, fun i x hi => hc i x ?_⟩
   rw [List.getElem?_take] at hi
   split at hi
   ·exact hi
   ·cases hi
theorem zbq {w : World} {B n : Nat} {v : Value} {l : List O.Pl} (h : w.ownsRow B 170 3 v n (O.flat l)) (hn : l.length = n) : ∃ a c, v = .slice a n c /\ QIn w a n c l := by
 rcases h.2 with ⟨rfl, h0⟩ | ⟨g, cap, cur, rfl, _, hg, hle, hm, _⟩
 ·obtain rfl : l = [] := List.eq_nil_of_length_eq_zero (by omega)
  exact ⟨none, 0, by rw [h0], by rw [h0]; exact QIn.nil w⟩
 ·refine ⟨_, cap, rfl, hn, ⟨by omega, hm⟩, fun h => (by cases h), .inr ⟨g, 0, rfl, (Array.getElem?_eq_some_iff.1 hg).1, fun i x hi => ?_⟩⟩
  obtain ⟨f1, f2, f3⟩ := O.flat_at l i x hi
  have c1 := h.cells (g := g) rfl _ _ f1
  have c2 := h.cells (g := g) rfl _ _ f2
  have c3 := h.cells (g := g) rfl _ _ f3
  rw [WideShapes.add_plain] at c1 c2 c3
  exact ⟨c1, by rw [Nat.add_assoc]; exact c2, by rw [Nat.add_assoc]; exact c3⟩
theorem zip : (Tryz.prog.info? 170).map (fun i => (i.zero, i.size, i.bytes)) = some (some (.agg #[.int .i64 0, .int .i64 0, .int .i64 0]), 3, 24) := by kernel_rfl
namespace O
def box (w : World) (x : Pl) : World := w.alloc (.cells #[.int .i64 x.f, .int .i64 x.n, .int .i64 x.s] 170)
theorem box_below (w : World) (x : Pl) : Below w.heap.size w (box w x) := (Below.refl _ w).alloc (Nat.le_refl _) _
def Bx (w : World) (b : Nat) (x : Pl) : Prop := Blok w b 170 #[.int .i64 x.f, .int .i64 x.n, .int .i64 x.s]
theorem box_is (w : World) (x : Pl) : Bx (box w x) w.heap.size x := Blok.new _ _ _
theorem Bx.b0 {V : World} {b : Nat} {x : Pl} (h : Bx V b x) : V.cell? ⟨b, 0, none⟩ = some (.int .i64 x.f) := Blok.cell h 0
theorem Bx.b1 {V : World} {b : Nat} {x : Pl} (h : Bx V b x) : V.cell? ⟨b, 1, none⟩ = some (.int .i64 x.n) := Blok.cell h 1
theorem Bx.b2 {V : World} {b : Nat} {x : Pl} (h : Bx V b x) : V.cell? ⟨b, 2, none⟩ = some (.int .i64 x.s) := Blok.cell h 2
theorem Bx.on {V V' : World} {b : Nat} {x : Pl} (h : Bx V b x) (hb : Below V.heap.size V V') : Bx V' b x := Blok.below h hb (Blok.lt h)
def val (x : Pl) : Value := .agg #[.int .i64 x.f, .int .i64 x.n, .int .i64 x.s]
end O
open Go.RowKit
theorem zcq (x : O.Pl) (y : Int) (v : Bool) (w : World) (hv : O.has x y = v) :
  Calls Tryz.prog 255 #[O.val x, .int .i64 y] w fun e w' => e = .returned (.bool v) /\ Below w.heap.size w w' := by
 have HB := Zh (O.box_below w x)
 unfold O.box at HB
 unfold O.val
 go_enter Tryz.func255, Tryz.ntmps255
 by_cases k1 : x.f < 0
 ·have d1 : decide (x.f < 0) = true := by simpa using k1
  have HE : Hid (v = false) := Zh (by rw [<- hv]; simp [O.has]; omega)
  go_wp2
  go_ret
  exact ⟨by rw [HE.out]; rfl, HB.out⟩
 ·have d1 : decide (x.f < 0) = false := by simpa using k1
  by_cases k2 : 4 < x.f
  ·have d2 : decide (4 < x.f) = true := by simpa using k2
   have HE : Hid (v = false) := Zh (by rw [<- hv]; simp [O.has]; omega)
   go_wp2
   go_ret
   exact ⟨by rw [HE.out]; rfl, HB.out⟩
  ·have d2 : decide (4 < x.f) = false := by simpa using k2
   by_cases k3 : x.n < 1
   ·have d3 : decide (x.n < 1) = true := by simpa using k3
    have HE : Hid (v = false) := Zh (by rw [<- hv]; simp [O.has]; omega)
    go_wp2
    go_ret
    exact ⟨by rw [HE.out]; rfl, HB.out⟩
   ·have d3 : decide (x.n < 1) = false := by simpa using k3
    by_cases k4 : 4 < x.n
    ·have d4 : decide (4 < x.n) = true := by simpa using k4
     have HE : Hid (v = false) := Zh (by rw [<- hv]; simp [O.has]; omega)
     go_wp2
     go_ret
     exact ⟨by rw [HE.out]; rfl, HB.out⟩
    ·have d4 : decide (4 < x.n) = false := by simpa using k4
     have hw : IntKind.i64.wrap (x.f + x.n) = x.f + x.n := IntWalk.i64_in _ (by omega)
     by_cases k5 : x.f <= y
     ·have d5 : decide (x.f <= y) = true := by simpa using k5
      by_cases k6 : y < x.f + x.n
      ·have d6 : decide (y < x.f + x.n) = true := by simpa using k6
       have HE : Hid (v = true) := Zh (by rw [<- hv]; simp [O.has]; omega)
       go_wp2
       go_ret
       exact ⟨by rw [HE.out]; rfl, HB.out⟩
      ·have d6 : decide (y < x.f + x.n) = false := by simpa using k6
       have HE : Hid (v = false) := Zh (by rw [<- hv]; simp [O.has]; omega)
       go_wp2
       go_ret
       exact ⟨by rw [HE.out]; rfl, HB.out⟩
     ·have d5 : decide (x.f <= y) = false := by simpa using k5
      have HE : Hid (v = false) := Zh (by rw [<- hv]; simp [O.has]; omega)
      go_wp2
      go_ret
      exact ⟨by rw [HE.out]; rfl, HB.out⟩
theorem za1 (x : O.Pl) (out : Int) (v : Bool) (w : World) (hv : O.below x out = v) (ho : 0 <= out /\ out <= 4) (hx : x.f <= 9223372036854775807) :
  Calls Tryz.prog 205 #[O.val x, .int .i64 out] w fun e w' => e = .returned (.bool v) /\ Below w.heap.size w w' := by
 have HB := Zh (O.box_below w x)
 unfold O.box at HB
 unfold O.val
 go_enter Tryz.func205, Tryz.ntmps205
 by_cases k1 : 0 <= x.f
 ·have d1 : decide (0 <= x.f) = true := by simpa using k1
  by_cases k2 : 1 <= x.n
  ·have d2 : decide (1 <= x.n) = true := by simpa using k2
   have hw : IntKind.i64.wrap (out - x.f) = out - x.f := IntWalk.i64_in _ (by omega)
   by_cases k3 : x.n <= out - x.f
   ·have d3 : decide (x.n <= out - x.f) = true := by simpa using k3
    have HE : Hid (v = true) := Zh (by rw [<- hv]; simp [O.below]; omega)
    go_wp2
    go_ret
    exact ⟨by rw [HE.out]; rfl, HB.out⟩
   ·have d3 : decide (x.n <= out - x.f) = false := by simpa using k3
    have HE : Hid (v = false) := Zh (by rw [<- hv]; simp [O.below]; omega)
    go_wp2
    go_ret
    exact ⟨by rw [HE.out]; rfl, HB.out⟩
  ·have d2 : decide (1 <= x.n) = false := by simpa using k2
   have HE : Hid (v = false) := Zh (by rw [<- hv]; simp [O.below]; omega)
   go_wp2
   go_ret
   exact ⟨by rw [HE.out]; rfl, HB.out⟩
 ·have d1 : decide (0 <= x.f) = false := by simpa using k1
  have HE : Hid (v = false) := Zh (by rw [<- hv]; simp [O.below]; omega)
  go_wp2
  go_ret
  exact ⟨by rw [HE.out]; rfl, HB.out⟩
open Go.RowKit
theorem zlm (p q : O.Pl) (v : Bool) (hv : O.hit p q = v) (w : World) (b : Nat) (hb : O.Bx w b p) :
  Calls Tryz.prog 254 #[O.val q, .pointer (some ⟨b, 0, none⟩)] w fun e w' => e = .returned (.bool v) /\ Below w.heap.size w w' := by
 have HV := Zh hv
 have HP := Zh (hb.on (O.box_below w q))
 have HQ := Zh (O.box_is w q)
 have HB := Zh (O.box_below w q)
 obtain ⟨W, hW⟩ : ∃ W, O.box w q = W := ⟨_, rfl⟩
 rw [hW] at HP HQ HB
 unfold O.box at hW
 have p0 := HP.out.b0
 have p1 := HP.out.b1
 have p2 := HP.out.b2
 have q0 := HQ.out.b0
 have q1 := HQ.out.b1
 have q2 := HQ.out.b2
 obtain ⟨u1, hu1⟩ : ∃ u, O.has p q.f = u := ⟨_, rfl⟩
 obtain ⟨u2, hu2⟩ : ∃ u, O.has q p.f = u := ⟨_, rfl⟩
 have HU : Hid (v = (u1 || u2)) := Zh (by rw [<- HV.out, <- hu1, <- hu2]; rfl)
 have c1 := zcq p q.f u1 W hu1
 have U2 := Zh hu2
 unfold O.val at c1 ⊢
 clear hv hb hu1 hu2
 go_enter Tryz.func254, Tryz.ntmps254
 go_wp2_with fail
 refine c1.mono ?_
 rintro e w1 ⟨rfl, hb1⟩
 have HB1 := Zt HB hb1
 have HP1 := Zh (HP.out.on hb1)
 have HQ1 := Zh (HQ.out.on hb1)
 clear p0 p1 p2 q0 q1 q2 hb1 c1 hW HP HQ
 have p0 := HP1.out.b0
 have p1 := HP1.out.b1
 have p2 := HP1.out.b2
 have q0 := HQ1.out.b0
 have q1 := HQ1.out.b1
 have q2 := HQ1.out.b2
 cases u1 with
 | true =>
  go_wp2
  go_ret
  exact ⟨by rw [HU.out]; rfl, HB1.out⟩
 | false =>
  have c2 := zcq q p.f u2 w1 U2.out
  unfold O.val at c2
  go_wp2_with fail
  refine c2.mono ?_
  rintro e w2 ⟨rfl, hb2⟩
  go_wp2
  go_ret
  exact ⟨by rw [HU.out]; rfl, HB1.out.trans (hb2.mono HB1.out.size)⟩
def O.clo (b : Nat) : Value := .func (.func 254) #[] #[.pointer (some ⟨b, 0, none⟩)]
theorem za7 (p : O.Pl) (w : World) : Calls Tryz.prog 207 #[O.val p] w fun e w' => ∃ b, e = .returned (O.clo b) /\ Hid (O.Bx w' b p) /\ Below w.heap.size w w' := by
 have HB := Zh (O.box_below w p)
 have HX := Zh (O.box_is w p)
 unfold O.val
 go_enter Tryz.func207, Tryz.ntmps207
 go_wp2
 go_ret
 exact ⟨w.heap.size, rfl, HX, HB.out⟩
theorem O.any_snoc {f : O.Pl -> Bool} {l : List O.Pl} {j : Nat} {x : O.Pl} (hx : l[j]? = some x) (h : ∀ q ∈ l.take j, f q = false) (h2 : f x = false) : ∀ q ∈ l.take (j + 1), f q = false := by
 intro q hq
 obtain ⟨h0, h1⟩ := List.getElem?_eq_some_iff.1 hx
 rw [List.take_succ_eq_append_getElem h0, List.mem_append, List.mem_singleton, h1] at hq
 rcases hq with hq | rfl
 ·exact h q hq
 ·exact h2
theorem O.any_yes {f : O.Pl -> Bool} {l : List O.Pl} {j : Nat} {x : O.Pl} (hx : l[j]? = some x) (h : f x = true) : l.any f = true :=
 List.any_eq_true.2 ⟨x, List.mem_of_getElem? hx, h⟩
theorem O.any_no {f : O.Pl -> Bool} {l : List O.Pl} (h : ∀ q ∈ l, f q = false) : l.any f = false := by
 rw [Bool.eq_false_iff]; intro h1
 obtain ⟨x, hx, h2⟩ := List.any_eq_true.1 h1
 rw [h x hx] at h2; cases h2
theorem zka (a : Option Addr) (n c : Nat) (l : List O.Pl) (p : O.Pl) (b : Nat) (v : Bool) (hv : l.any (O.hit p) = v) (w : World) (h : QIn w a n c l) (hb : O.Bx w b p) (hn : n <= 1000000) :
  Calls Tryz.prog 253 #[.slice a n c, O.clo b] w fun e w' => (∃ r : Int, e = .returned (.int .i64 r) /\ Hid (decide (0 <= r) = v)) /\ Below w.heap.size w w' := by
 have HT := Zh h
 have HV := Zh hv
 have HP := Zh hb
 clear h hv hb
 unfold O.clo
 go_enter Tryz.func253, Tryz.ntmps253
 go_wp2_with fail
 go_loopw [8] (fun i wr => ∃ j : Nat, i = .int .i64 j /\ j <= n /\ Hid (∀ q ∈ l.take j, O.hit p q = false) /\ Hid (Below w.heap.size w wr)) (fun i _ => n - (intOf i).toNat)
 case atStart => exact ⟨0, rfl, by omega, Zh (by simp), Zh (Below.refl _ _)⟩
 case round =>
  obtain ⟨j, rfl, hjn, HA, HB⟩ := hrel
  by_cases hlt : j < n
  ·have d1 : decide ((j : Int) < n) = true := by simp; omega
   obtain ⟨b', off, x, rfl, hbl, hx, p0, p1, p2⟩ := (HT.out.below HB.out).at hlt
   have HX := Zh hx
   have j0 : (0 : Int) <= j := by omega
   have j1 : (j : Int) < n := by omega
   have HPr := Zh (HP.out.on HB.out)
   obtain ⟨u, hu⟩ : ∃ u, O.hit p x = u := ⟨_, rfl⟩
   have HU := Zh hu
   have c1 := zlm p x u hu wr b HPr.out
   unfold O.val at c1
   clear hu hx
   go_wp2_with fail
   refine c1.mono ?_
   rintro e w2 ⟨rfl, hb2⟩
   have HB2 := Zt HB hb2
   clear hb2 c1
   cases u with
   | true =>
    go_wp2
    go_ret
    exact ⟨⟨j, rfl, Zh (by rw [<- HV.out, O.any_yes HX.out HU.out]; simp)⟩, HB2.out⟩
   | false =>
    go_wp2
    go_roundw
    case rel => exact ⟨j + 1, by go_num, by omega, Zh (O.any_snoc HX.out HA.out HU.out), HB2⟩
    case measure => simp [intOf] <;> omega
  ·have d1 : decide ((j : Int) < n) = false := by simp; omega
   have HE : Hid (v = false) := Zh (by
    rw [<- HV.out]
    have h1 := HA.out
    rw [List.take_of_length_le (by rw [HT.out.1]; omega)] at h1
    exact O.any_no h1)
   go_wp2
   go_ret
   exact ⟨⟨-1, rfl, Zh (by rw [HE.out]; decide)⟩, HB.out⟩
theorem zbu (a : Option Addr) (n c : Nat) (l : List O.Pl) (p : O.Pl) (b : Nat) (v : Bool) (hv : l.any (O.hit p) = v) (w : World) (h : QIn w a n c l) (hb : O.Bx w b p) (hn : n <= 1000000) :
  Calls Tryz.prog 206 #[.slice a n c, O.clo b] w fun e w' => e = .returned (.bool v) /\ Below w.heap.size w w' := by
 have c1 := zka a n c l p b v hv w h hb hn
 unfold O.clo at c1 ⊢
 clear h hb hv
 go_enter Tryz.func206, Tryz.ntmps206
 go_wp2_with fail
 refine c1.mono ?_
 rintro e w2 ⟨⟨r, rfl, hr⟩, hb2⟩
 go_wp2
 go_ret
 exact ⟨by rw [hr.out]; rfl, hb2⟩
namespace O
def Apart (l : List Pl) : Prop := l.Pairwise (fun q p => hit p q = false)
def Sm (l : List Pl) : Prop := ∀ x ∈ l, x.f <= 9223372036854775807
end O
end Go.Proofs.YtnbkkjcmblfhpaaGreat
namespace Go.Proofs.YtnbkkjcmblfhpaaGreat
namespace O
end O
end Go.Proofs.YtnbkkjcmblfhpaaGreat
namespace Go.Proofs.YtnbkkjcmblfhpaaGreat
namespace Y
structure St where
 d : E.D
 p : Po
 now : Int
 ps : List O.Pl
 l : List L.Ls
 h : List L.T3
structure Rq where
 k : Int
 s : Int
 a : Int
 b : Int
 n : Int
 p : Po
def LtH (x y : L.T3) : Prop := x.a < y.a \/ x.a = y.a /\ x.b < y.b
instance (x y : L.T3) : Decidable (LtH x y) := by unfold LtH; exact inferInstance
def SrtH (h : List L.T3) : Prop := h.Pairwise LtH
instance (h : List L.T3) : Decidable (SrtH h) := by unfold SrtH; exact inferInstance
def cnt (l : List L.Ls) (s : Int) : Nat := (l.filter fun x => x.s == s).length
def okL (s : St) (x : L.Ls) : Prop :=
 E.baseB s.d x.s = true /\ E.blkB s.d x.a x.b = true /\ 0 <= O.of s.ps x.a /\ (s.p.pair = true -> E.baseA s.d x.s = x.a) /\ 0 <= x.f /\ x.f <= x.t /\ x.t <= s.now /\ s.now < x.t + s.p.i /\ (cnt s.l x.s : Int) <= s.p.q
instance (s : St) (x : L.Ls) : Decidable (okL s x) := by unfold okL; exact inferInstance
def okH (s : St) (y : L.T3) : Prop := E.blkB s.d y.a y.b = true /\ s.now < y.x /\ y.x <= s.now + 1048576 /\ ∀ x ∈ s.l, ¬ (x.a = y.a /\ x.b = y.b)
instance (s : St) (y : L.T3) : Decidable (okH s y) := by unfold okH; exact inferInstance
def May (s : St) : Prop := E.fit s.d = true /\ MayP s.p /\ O.May s.ps (E.no s.d) /\ (0 <= s.now /\ s.now <= 1073741824) /\ s.l.length <= 32 /\ L.Srt s.l /\ (∀ x ∈ s.l, okL s x) /\ SrtH s.h /\ ∀ y ∈ s.h, okH s y
instance (s : St) : Decidable (May s) := by unfold May; exact inferInstance
def blks (s : St) : Int := U.newN (E.nb s.d)
def map (s : St) (x : Int) : Int := L.uses (blks s) x (L.uses (blks s) x 0 (s.l.map L.had)) s.h
def block (s : St) (x : Int) : Int := if O.gives s.ps x then U.first (blks s) (map s x) else -1
def least (s : St) : Int := if 0 <= block s 0 then 0 else if 0 <= block s 1 then 1 else if 0 <= block s 2 then 2 else if 0 <= block s 3 then 3 else 4
abbrev An := St × List Ev × Int × Int × Int
def err (s : St) (e : Int) : An := (s, [], e, 0, 0)
def give (s : St) (sub x : Int) : An :=
 if block s x < 0 then err s 7
 else ({ s with l := (L.put s.l ⟨sub, x, block s x, s.now, s.now⟩).1 }, [⟨0, s.now, sub, x, block s x, zp⟩], 0, x, block s x)
def grant (s : St) (sub : Int) : An :=
 if E.baseB s.d sub = false then err s 5
 else if s.p.q <= cnt s.l sub then err s 6
 else if s.p.pair = true then
  if O.of s.ps (E.baseA s.d sub) < 0 then err s 7
  else if O.gives s.ps (E.baseA s.d sub) = false then err s 8
  else give s sub (E.baseA s.d sub)
 else give s sub (least s)
def free1 (s : St) (x : L.Ls) (t : Int) : St := { s with l := (L.del s.l x.a x.b).1, h := if 0 < s.p.h then L.hold s.h ⟨x.a, x.b, t + s.p.h⟩ else s.h }
def evF (x : L.Ls) (t : Int) : Ev := ⟨1, t, x.s, x.a, x.b, zp⟩
def get (s : St) (a b : Int) : Option L.Ls := s.l.find? fun x => x.a == a && x.b == b
def refresh (s : St) (sub a b : Int) : An := match get s a b with
 | some x => if x.s = sub then ({ s with l := s.l.map fun y => if y.a = a /\ y.b = b then { y with t := s.now } else y }, [], 0, a, b) else err s 5
 | none => err s 5
def release (s : St) (sub a b : Int) : An := match get s a b with
 | some x => if x.s = sub then (free1 s x s.now, [evF x s.now], 0, a, b) else err s 5
 | none => err s 5
def due (i n : Int) : List L.Ls -> Option L.Ls
 | [] => none
 | x :: l => match due i n l with
  | none => if x.t + i <= n then some x else none
  | some y => if x.t + i <= n /\ x.t <= y.t then some x else some y
def run (n : Int) : Nat -> St -> St × List Ev
 | 0, s => (s, [])
 | f + 1, s => match due s.p.i n s.l with
  | none => (s, [])
  | some x => ((run n f (free1 s x (x.t + s.p.i))).1, evF x (x.t + s.p.i) :: (run n f (free1 s x (x.t + s.p.i))).2)
def tick (s : St) (n : Int) : An :=
 if n < s.now \/ 1073741824 < n then err s 10
 else ({ (run n s.l.length s).1 with now := n, h := L.clean (run n s.l.length s).1.h n }, (run n s.l.length s).2, 0, (run n s.l.length s).2.length, 0)
def ofPools (s : St) (r : List O.Pl × Int) (e : Ev) : An := if r.2 = 0 then ({ s with ps := r.1 }, [e], 0, 0, 0) else err s r.2
def policy (s : St) (p : Po) : An :=
 if ¬ MayP p then err s 1 else if ¬ May { s with p := p } then err s 12 else ({ s with p := p }, [⟨6, s.now, 0, 0, 0, p⟩], 0, 0, 0)
def step (s : St) (r : Rq) : An :=
 if ¬ May s \/ r.k < 0 \/ 9 <= r.k then err s 1
 else if r.k = 0 then grant s r.s
 else if r.k = 1 then refresh s r.s r.a r.b
 else if r.k = 2 then release s r.s r.a r.b
 else if r.k = 3 then tick s r.n
 else if r.k = 4 then ofPools s (O.add s.ps (E.no s.d) r.a r.n) ⟨2, s.now, r.a, r.n, 0, zp⟩
 else if r.k = 5 then ofPools s (O.drain s.ps (E.no s.d) r.n) ⟨3, s.now, r.n, 0, 0, zp⟩
 else if r.k = 6 then ofPools s (O.size s.ps (E.no s.d) r.a r.n (L.busy s.l)) ⟨4, s.now, r.a, r.n, 0, zp⟩
 else if r.k = 7 then ofPools s (O.gone s.ps (E.no s.d) r.n (L.busy s.l)) ⟨5, s.now, r.n, 0, 0, zp⟩
 else policy s r.p
theorem ls_ext {x y : L.Ls} (h1 : x.s = y.s) (h2 : x.a = y.a) (h3 : x.b = y.b) (h4 : x.f = y.f) (h5 : x.t = y.t) : x = y := by
 cases x; cases y; simp_all
end Y
namespace Y
end Y
namespace Y
theorem inc_len : ∀ {l : List Int} {a b : Int}, l.Pairwise (· < ·) -> (∀ x ∈ l, a <= x /\ x < b) -> a <= b -> (l.length : Int) <= b - a
 | [], a, b, _, _, h => by simp; omega
 | x :: l, a, b, hs, hb, h => by
  obtain ⟨h1, h2⟩ := List.pairwise_cons.1 hs
  have hx := hb x (by simp)
  have := inc_len (a := x + 1) (b := b) h2 (fun y hy => by have := h1 y hy; have := hb y (by simp [hy]); omega) (by omega)
  rw [List.length_cons]; omega
theorem inc_miss {l : List Int} {a b k : Int} (hs : l.Pairwise (· < ·)) (hb : ∀ x ∈ l, a <= x /\ x < b) (h0 : a <= k) (h1 : k < b) (hk : k ∉ l) : (l.length : Int) < b - a := by
 have e1 := inc_len (l := l.filter fun x => decide (x < k)) (a := a) (b := k) (hs.filter _) (fun x hx => by
  obtain ⟨h2, h3⟩ := List.mem_filter.1 hx
  have := hb x h2; simp at h3; omega) h0
 have e2 := inc_len (l := l.filter fun x => !decide (x < k)) (a := k + 1) (b := b) (hs.filter _) (fun x hx => by
  obtain ⟨h2, h3⟩ := List.mem_filter.1 hx
  have := hb x h2
  have h4 : x ≠ k := fun e => hk (e ▸ h2)
  simp at h3; omega) (by omega)
 have e3 : l.length = (l.filter fun x => decide (x < k)).length + (l.filter fun x => !decide (x < k)).length := by
  rw [<- List.countP_eq_length_filter, <- List.countP_eq_length_filter, List.length_eq_countP_add_countP (fun x => decide (x < k))]
  congr 1
  apply List.countP_congr
  intro x _; simp
 omega
theorem nb_in {s : St} (h : E.fit s.d = true) : 0 <= E.nb s.d /\ E.nb s.d <= 8 := by
 have := (E.fits_iff.1 h).nb'
 exact ⟨this.1, this.2.1⟩
theorem blkB_in {d : E.D} {a b : Int} (h : E.blkB d a b = true) : (0 <= a /\ a < E.no d) /\ (0 <= b /\ b < E.nb d) := (E.blkB_iff.1 h).2
theorem room {s : St} (hm : May s) {a b : Int} (h : E.blkB s.d a b = true) (hf : L.find s.l a b = -1) : s.l.length < 32 := by
 obtain ⟨hfit, _, _, _, _, hs, hl, _, _⟩ := hm
 have hno := (E.fits_iff.1 hfit).no
 have hnb := nb_in hfit
 have hk : ∀ {u v : Int}, E.blkB s.d u v = true -> 0 <= u /\ u < 4 /\ 0 <= v /\ v < 8 := fun h => by have := blkB_in h; omega
 have h1 := hk h
 have := inc_miss (l := s.l.map fun x => x.a * 8 + x.b) (a := 0) (b := 32) (k := a * 8 + b)
  (by
   rw [List.pairwise_map]
   refine List.Pairwise.imp_of_mem (R := L.Lt) (fun {x y} hx hy h => ?_) hs
   have e1 := hk (hl x hx).2.1
   have e2 := hk (hl y hy).2.1
   unfold L.Lt at h; omega)
  (fun z hz => by
   obtain ⟨x, hx, rfl⟩ := List.mem_map.1 hz
   have := hk (hl x hx).2.1; omega)
  (by omega) (by omega)
  (fun hz => by
   obtain ⟨x, hx, e⟩ := List.mem_map.1 hz
   have h3 := hk (hl x hx).2.1
   exact L.find_none.1 hf x hx ⟨by omega, by omega⟩)
 rw [List.length_map] at this
 omega
end Y
namespace Y
theorem of_len (l : List L.Ls) (sub : Int) : (L.of l sub).length = cnt l sub := by
 unfold L.of cnt
 rw [List.length_map]
 have := congrArg List.length (L.pl_map (fun x : L.T3 => (x.x == sub)) (l.map L.had))
 rw [List.length_map] at this
 rw [this, List.filter_map, List.length_map]
 rfl
end Y
namespace Y
theorem st_ext {s t : St} (h1 : s.d = t.d) (h2 : s.p = t.p) (h3 : s.now = t.now) (h4 : s.ps = t.ps) (h5 : s.l = t.l) (h6 : s.h = t.h) : s = t := by
 cases s; cases t; simp_all
end Y
namespace Y
theorem SrtH.snoc {l : List L.T3} {j : Nat} {x y : L.T3} (h : SrtH (l.take (j + 1))) (hx : l[j]? = some x) (hy : l[j + 1]? = some y) (hl : LtH x y) : SrtH (l.take (j + 1 + 1)) := by
 obtain ⟨l1, e1⟩ := List.getElem?_eq_some_iff.1 hy
 obtain ⟨l0, e0⟩ := List.getElem?_eq_some_iff.1 hx
 unfold SrtH at *
 rw [List.take_succ_eq_append_getElem l1, List.pairwise_append]
 refine ⟨h, by simp, fun z hz u hu => ?_⟩
 obtain rfl : u = y := by rw [<- e1]; simpa using hu
 rw [List.take_succ_eq_append_getElem l0, List.pairwise_append] at h
 rw [List.take_succ_eq_append_getElem l0] at hz
 rcases List.mem_append.1 hz with hz | hz
 ·have := h.2.2 z hz x (by rw [<- e0]; simp)
  unfold LtH at *; omega
 ·have : z = x := by rw [<- e0]; simpa using hz
  rw [this]; exact hl
theorem SrtH.one (l : List L.T3) : SrtH (l.take 1) := by
 unfold SrtH; cases l <;> simp
theorem SrtH.no {l : List L.T3} {j : Nat} {x y : L.T3} (hx : l[j]? = some x) (hy : l[j + 1]? = some y) (hl : ¬ LtH x y) : ¬ SrtH l := by
 intro h
 obtain ⟨l1, e1⟩ := List.getElem?_eq_some_iff.1 hy
 obtain ⟨l0, e0⟩ := List.getElem?_eq_some_iff.1 hx
 have := List.pairwise_iff_getElem.1 h j (j + 1) l0 l1 (by omega)
 rw [e0, e1] at this
 exact hl this
theorem held_len {s : St} (hm : May s) : s.h.length <= 32 := by
 obtain ⟨hfit, _, _, _, _, _, _, hs, hl⟩ := hm
 have hno := (E.fits_iff.1 hfit).no
 have hnb := nb_in hfit
 have hk : ∀ {u v : Int}, E.blkB s.d u v = true -> 0 <= u /\ u < 4 /\ 0 <= v /\ v < 8 := fun h => by have := blkB_in h; omega
 have := inc_len (l := s.h.map fun x => x.a * 8 + x.b) (a := 0) (b := 32)
  (by
   rw [List.pairwise_map]
   refine List.Pairwise.imp_of_mem (R := LtH) (fun {x y} hx hy h => ?_) hs
   have e1 := hk (hl x hx).1
   have e2 := hk (hl y hy).1
   unfold LtH at h; omega)
  (fun z hz => by
   obtain ⟨x, hx, rfl⟩ := List.mem_map.1 hz
   have := hk (hl x hx).1; omega)
  (by omega)
 rw [List.length_map] at this
 omega
end Y
end Go.Proofs.YtnbkkjcmblfhpaaGreat
namespace Go.Proofs.YtnbkkjcmblfhpaaGreat
open Go.RowKit
def zpb (L : List Int) (p : Int) (w : World) (e : Ending) (w' : World) : Prop :=
 e = .returned (.tuple #[.int .i64 (M.get L p).1, .int .i64 (M.get L p).2]) /\ w = w'
theorem zpb.mk {L : List Int} {p n q : Int} {w : World} (h : M.get L p = (n, q)) : zpb L p w (.returned (.tuple #[.int .i64 n, .int .i64 q])) w := by
 unfold zpb; rw [h]; exact ⟨rfl, rfl⟩
theorem zsv {L : List Int} {p : Int} (h : p < 0) : M.get L p = (0, -1) := by unfold M.get; rw [if_pos h]
theorem zum {L : List Int} {q : Nat} (h : M.head (L.drop q) = none) : M.get L q = (0, -1) := by
 unfold M.get; rw [if_neg (by omega)]; simp [h]
theorem zu4 {L : List Int} {q : Nat} {n : Int} {e : Nat} (h : M.head (L.drop q) = some (n, e)) : M.get L q = (n, (q : Int) + e) := by
 unfold M.get; rw [if_neg (by omega)]; simp [h]
def At (L : List Int) (q j k : Nat) (acc u : Int) : Prop :=
 k = q + j /\ u = 128 ^ j /\ M.head (L.drop q) = (M.dig (6 - j) (decide (j = 0)) acc u (L.drop k)).map fun p => (p.1, p.2 + j)
theorem At.start (L : List Int) (q : Nat) : At L q 0 q 0 1 := ⟨rfl, rfl, by unfold M.head; simp⟩
theorem At.step {L : List Int} {q j k : Nat} {acc u c : Int} (h : At L q j k acc u) (hj : j < 6) (hd : L.drop k = c :: L.drop (k + 1)) (hc : 128 <= c) : At L q (j + 1) (k + 1) (acc + c % 128 * u) (u * 128) := by
 obtain ⟨h1, h2, h3⟩ := h
 refine ⟨by omega, by rw [h2, Int.pow_succ], ?_⟩
 rw [h3, hd]
 obtain ⟨i, hi⟩ : ∃ i, 6 - j = i + 1 := ⟨5 - j, by omega⟩
 have hi' : 6 - (j + 1) = i := by omega
 rw [hi, hi', M.dig, if_pos hc, Option.map_map, show decide (j + 1 = 0) = false by simp]
 congr 1
 funext p
 simp [Nat.add_assoc, Nat.add_comm 1 j]
theorem At.over {L : List Int} {q j k : Nat} {acc u : Int} (h : At L q j k acc u) (hj : 6 <= j) : M.get L q = (0, -1) := by
 refine zum ?_
 rw [h.2.2, show 6 - j = 0 by omega]; rfl
theorem At.eob {L : List Int} {q j k : Nat} {acc u : Int} (h : At L q j k acc u) (hk : L.length <= k) : M.get L q = (0, -1) := by
 refine zum ?_
 rw [h.2.2, List.drop_eq_nil_of_le hk]
 cases h6 : 6 - j <;> rfl
theorem At.bad {L : List Int} {q j k : Nat} {acc u c : Int} (h : At L q j k acc u) (hd : L.drop k = c :: L.drop (k + 1)) (hc : c < 128) (hb : (c = 0 /\ q < k) \/ 1099511627776 < acc + c % 128 * u) : M.get L q = (0, -1) := by
 refine zum ?_
 obtain ⟨h1, h2, h3⟩ := h
 rw [h3, hd]
 cases h6 : 6 - j with
 | zero => rfl
 | succ i =>
  rw [M.dig, if_neg (by omega), if_pos]
  ·rfl
  ·rcases hb with ⟨h0, hq⟩ | hb
   ·exact .inl ⟨h0, by simp; omega⟩
   ·exact .inr hb
theorem At.good {L : List Int} {q j k : Nat} {acc u c : Int} (h : At L q j k acc u) (hj : j < 6) (hd : L.drop k = c :: L.drop (k + 1)) (hc : c < 128) (hb : ¬ ((c = 0 /\ q < k) \/ 1099511627776 < acc + c % 128 * u)) : M.get L q = (acc + c % 128 * u, (k : Int) + 1) := by
 obtain ⟨h1, h2, h3⟩ := h
 obtain ⟨i, hi⟩ : ∃ i, 6 - j = i + 1 := ⟨5 - j, by omega⟩
 have hh : M.head (L.drop q) = some (acc + c % 128 * u, 1 + j) := by
  rw [h3, hd, hi, M.dig, if_neg (by omega), if_neg]
  ·rfl
  ·rintro (⟨h0, hq⟩ | hb')
   ·exact hb (.inl ⟨h0, by simp at hq; omega⟩)
   ·exact hb (.inr hb')
 rw [zu4 hh]
 congr 1
 omega
theorem At.unit {L : List Int} {q j k : Nat} {acc u : Int} (h : At L q j k acc u) (hj : j <= 6) : 1 <= u /\ (j < 6 -> u <= 34359738368) /\ (j = 6 -> u = 4398046511104) /\ u <= 4398046511104 := by
 obtain ⟨_, rfl, _⟩ := h
 have : j = 0 \/ j = 1 \/ j = 2 \/ j = 3 \/ j = 4 \/ j = 5 \/ j = 6 := by omega
 rcases this with rfl | rfl | rfl | rfl | rfl | rfl | rfl <;> simp
theorem zsw {c u : Int} (hu : 1 <= u) : 0 <= c % 128 * u /\ c % 128 * u <= 127 * u :=
 ⟨Int.mul_nonneg (by omega) (by omega), Int.mul_le_mul_of_nonneg_right (by omega) (by omega)⟩
theorem zn5 {L : List Int} {p n q : Int} {w : World} (h : M.get L p = (n, q)) {f : FuncId} {args : Array Value} (hc : Calls Tryz.prog f args w (zpb L p w)) :
  Calls Tryz.prog f args w fun e w' => e = .returned (.tuple #[.int .i64 n, .int .i64 q]) /\ w = w' :=
 hc.mono fun e w' he => by unfold zpb at he; rw [h] at he; exact he
end Go.Proofs.YtnbkkjcmblfhpaaGreat
namespace Go.Proofs.YtnbkkjcmblfhpaaGreat
open Go.RowKit
def zo1 (b : List Int) (B : Nat) (w : World) (e : Ending) (w' : World) : Prop :=
 ∃ v ok, e = .returned (.tuple #[v, .bool ok]) /\ ok = (M.read b).isSome /\ w'.ownsRow B 3 1 v ((M.read b).getD []).length (((M.read b).getD []).map (Value.int .i64)) /\ Below w.heap.size w w'
theorem zo1.no {b : List Int} {B : Nat} {w w' : World} (h : M.read b = none) (hb : Below w.heap.size w w') : zo1 b B w (.returned (.tuple #[.slice none 0 0, .bool false])) w' := by
 refine ⟨_, _, rfl, ?_, ?_, hb⟩ <;> rw [h]
 ·rfl
 ·exact World.ownsRow_nil _ _ _ _
theorem zo1.yes {b l : List Int} {B : Nat} {v : Value} {w w' : World} (h : M.read b = some l) (ho : w'.ownsRow B 3 1 v l.length (l.map (Value.int .i64))) (hb : Below w.heap.size w w') : zo1 b B w (.returned (.tuple #[v, .bool true])) w' := by
 refine ⟨_, _, rfl, ?_, ?_, hb⟩ <;> rw [h]
 ·rfl
 ·exact ho
end Go.Proofs.YtnbkkjcmblfhpaaGreat
