import Derived.Test.YtonejangijkdmaaGreatBK
import Derived.ArgAppend
import Derived.Laws.OwnMore
import Derived.Lib.QuietBelow
namespace Go.Proofs.YtonejangijkdmaaGreat
set_option maxHeartbeats 1600000
set_option maxRecDepth 100000
namespace O
structure Pl where
 f : Int
 n : Int
 s : Int
deriving DecidableEq
def zp : Pl := ⟨0, 0, 0⟩
def has (p : Pl) (x : Int) : Bool := decide (0 <= p.f /\ p.f <= 4 /\ 1 <= p.n /\ p.n <= 4 /\ p.f <= x /\ x < p.f + p.n)
def below (p : Pl) (out : Int) : Bool := decide (0 <= p.f /\ 1 <= p.n /\ p.n <= out - p.f)
def fits (p : Pl) (out : Int) : Bool := decide (0 <= p.f /\ 1 <= p.n /\ p.n <= out - p.f /\ 0 <= p.s /\ p.s < 2)
def hit (p q : Pl) : Bool := has p q.f || has q p.f
theorem has_iff {p : Pl} {x : Int} : has p x = true ↔ 0 <= p.f /\ p.f <= 4 /\ 1 <= p.n /\ p.n <= 4 /\ p.f <= x /\ x < p.f + p.n := by simp [has]
theorem below_iff {p : Pl} {out : Int} : below p out = true ↔ 0 <= p.f /\ 1 <= p.n /\ p.n <= out - p.f := by simp [below]
theorem fits_iff {p : Pl} {out : Int} : fits p out = true ↔ 0 <= p.f /\ 1 <= p.n /\ p.n <= out - p.f /\ 0 <= p.s /\ p.s < 2 := by simp [fits]
theorem hit_comm (p q : Pl) : hit p q = hit q p := by unfold hit; rw [Bool.or_comm]
def May (l : List Pl) (out : Int) : Prop := 0 <= out /\ out <= 4 /\ l.length <= 3 /\ (∀ p ∈ l, fits p out = true) /\ l.Pairwise (fun q p => hit p q = false)
instance (l : List Pl) (out : Int) : Decidable (May l out) := by unfold May; exact inferInstance
def may (l : List Pl) (out : Int) : Bool := decide (May l out)
theorem may_iff {l : List Pl} {out : Int} : may l out = true ↔ May l out := by simp [may]
theorem may_no {l : List Pl} {out : Int} (h : ¬ May l out) : may l out = false := by simpa [may] using h
def of (l : List Pl) (x : Int) : Int := match l.findIdx? (fun p => has p x) with | some i => (i : Int) | none => -1
def at' (l : List Pl) (k : Int) : Pl := l.getD k.toNat zp
def gives (l : List Pl) (x : Int) : Bool := decide (0 <= of l x /\ (at' l (of l x)).s = 0)
theorem of_none {l : List Pl} {x : Int} (h : ∀ p ∈ l, has p x = false) : of l x = -1 := by
 unfold of
 rw [List.findIdx?_eq_none_iff.2 (fun p hp => by rw [h p hp])]
theorem of_some {l : List Pl} {x : Int} {i : Nat} {p : Pl} (hi : l[i]? = some p) (hp : has p x = true) (hb : ∀ q ∈ l.take i, has q x = false) : of l x = i := by
 unfold of
 obtain ⟨h0, h1⟩ := List.getElem?_eq_some_iff.1 hi
 rw [List.findIdx?_eq_some_iff_getElem.2 ⟨h0, by rw [h1]; exact hp, fun j hj => by
  rw [hb (l[j]'(by omega)) (List.mem_take_iff_getElem.2 ⟨j, by omega, rfl⟩)]; decide⟩]
theorem of_cases (l : List Pl) (x : Int) : (of l x = -1 /\ ∀ p ∈ l, has p x = false) \/ ∃ (i : Nat) (p : Pl), of l x = i /\ l[i]? = some p /\ has p x = true /\ ∀ q ∈ l.take i, has q x = false := by
 by_cases h : ∀ p ∈ l, has p x = false
 ·exact .inl ⟨of_none h, h⟩
 ·right
  have h2 : l.findIdx? (fun p => has p x) ≠ none := fun e => h (fun p hp => by simpa using List.findIdx?_eq_none_iff.1 e p hp)
  obtain ⟨i, hi⟩ := Option.ne_none_iff_exists'.1 h2
  obtain ⟨h3, h4, h5⟩ := List.findIdx?_eq_some_iff_getElem.1 hi
  refine ⟨i, l[i], by unfold of; rw [hi], List.getElem?_eq_getElem h3, h4, fun q hq => ?_⟩
  obtain ⟨j, hj, rfl⟩ := List.mem_take_iff_getElem.1 hq
  have := h5 j (by omega)
  simpa using this
theorem of_at {l : List Pl} {x : Int} {i : Nat} {p : Pl} (h : of l x = i) (hi : l[i]? = some p) : at' l (of l x) = p := by
 rw [h]; unfold at'; rw [Int.toNat_natCast, List.getD_eq_getElem?_getD, hi]; rfl
theorem at_some {l : List Pl} {k : Nat} {p : Pl} (h : l[k]? = some p) : at' l k = p := by
 unfold at'; rw [Int.toNat_natCast, List.getD_eq_getElem?_getD, h]; rfl
def loses (was will : Pl) (busy : List Int) : Bool := busy.any fun x => has was x && !has will x
def add (l : List Pl) (out f n : Int) : List Pl × Int :=
 if may l out = false \/ below ⟨f, n, 0⟩ out = false then (l, 1)
 else if l.any (fun q => hit ⟨f, n, 0⟩ q) = true then (l, 11)
 else if l.length = 3 then (l, 9) else (l ++ [⟨f, n, 0⟩], 0)
def drain (l : List Pl) (out k : Int) : List Pl × Int :=
 if may l out = false then (l, 1)
 else if k < 0 \/ (l.length : Int) <= k then (l, 5)
 else if (at' l k).s = 1 then (l, 11) else (l.set k.toNat { at' l k with s := 1 }, 0)
def size (l : List Pl) (out k n : Int) (busy : List Int) : List Pl × Int :=
 if may l out = false then (l, 1)
 else if k < 0 \/ (l.length : Int) <= k then (l, 5)
 else if below { at' l k with n := n } out = false then (l, 1)
 else if (l.eraseIdx k.toNat).any (fun q => hit { at' l k with n := n } q) = true then (l, 11)
 else if loses (at' l k) { at' l k with n := n } busy = true then (l, 12)
 else (l.set k.toNat { at' l k with n := n }, 0)
def gone (l : List Pl) (out k : Int) (busy : List Int) : List Pl × Int :=
 if may l out = false then (l, 1)
 else if k < 0 \/ (l.length : Int) <= k then (l, 5)
 else if (at' l k).s = 0 \/ loses (at' l k) zp busy = true then (l, 12)
 else (l.eraseIdx k.toNat, 0)
end O
open Go.RowKit
def O.cells (t : O.Pl) : List Value := [.int .i64 t.f, .int .i64 t.n, .int .i64 t.s]
def O.flat (l : List O.Pl) : List Value := l.flatMap O.cells
theorem O.flat_cons (t : O.Pl) (l : List O.Pl) : O.flat (t :: l) = .int .i64 t.f :: .int .i64 t.n :: .int .i64 t.s :: O.flat l := rfl
theorem O.flat_append (l k : List O.Pl) : O.flat (l ++ k) = O.flat l ++ O.flat k := by simp [O.flat]
theorem O.flat_len (l : List O.Pl) : (O.flat l).length = l.length * 3 := by
 induction l with
 | nil => rfl
 | cons t l ih => rw [O.flat_cons]; simp [ih]; omega
theorem O.flat_at : ∀ (l : List O.Pl) (i : Nat) (x : O.Pl), l[i]? = some x -> (O.flat l)[i * 3]? = some (.int .i64 x.f) /\ (O.flat l)[i * 3 + 1]? = some (.int .i64 x.n) /\ (O.flat l)[i * 3 + 2]? = some (.int .i64 x.s)
 | [], _, _, h => by simp at h
 | y :: l, 0, x, h => by
  obtain rfl : y = x := by simpa using h
  exact ⟨rfl, rfl, rfl⟩
 | y :: l, i + 1, x, h => by
  have := O.flat_at l i x (by simpa using h)
  have e : (i + 1) * 3 = i * 3 + 3 := by omega
  rw [e, O.flat_cons]
  exact this
theorem O.flat_one (l : List O.Pl) : ∀ u ∈ O.flat l, u.oneCell' = true := by
 intro u hu
 obtain ⟨t, _, ht⟩ := List.mem_flatMap.1 hu
 simp only [O.cells, List.mem_cons, List.not_mem_nil, or_false] at ht
 rcases ht with rfl | rfl | rfl <;> rfl
theorem O.flat_some {l : List O.Pl} {j : Nat} {u : Value} (h : (O.flat l)[j]? = some u) : ∃ i x, l[i]? = some x /\ (j = i * 3 /\ u = .int .i64 x.f \/ j = i * 3 + 1 /\ u = .int .i64 x.n \/ j = i * 3 + 2 /\ u = .int .i64 x.s) := by
 have hj : j < l.length * 3 := by rw [<- O.flat_len]; exact (List.getElem?_eq_some_iff.1 h).1
 have hi : j / 3 < l.length := by omega
 have hx := List.getElem?_eq_getElem hi
 have h2 := O.flat_at l (j / 3) _ hx
 refine ⟨j / 3, _, hx, ?_⟩
 have h3 : j % 3 = 0 \/ j % 3 = 1 \/ j % 3 = 2 := by omega
 rcases h3 with h0 | h0 | h0
 ·refine .inl ⟨by omega, ?_⟩
  have e : j / 3 * 3 = j := by omega
  rw [e, h] at h2
  exact Option.some.inj h2.1
 ·refine .inr (.inl ⟨by omega, ?_⟩)
  have e : j / 3 * 3 + 1 = j := by omega
  rw [e, h] at h2
  exact Option.some.inj h2.2.1
 ·refine .inr (.inr ⟨by omega, ?_⟩)
  have e : j / 3 * 3 + 2 = j := by omega
  rw [e, h] at h2
  exact Option.some.inj h2.2.2
def QIn (w : World) (a : Option Addr) (n c : Nat) (l : List O.Pl) : Prop :=
 l.length = n /\ (n <= c /\ c <= maxLen) /\ (a = none -> n = 0 /\ c = 0) /\ (l = [] \/ ∃ b off, a = some ⟨b, off, none⟩ /\ b < w.heap.size /\ ∀ i x, l[i]? = some x -> w.cell? ⟨b, off + i * 3, none⟩ = some (.int .i64 x.f) /\ w.cell? ⟨b, off + i * 3 + 1, none⟩ = some (.int .i64 x.n) /\ w.cell? ⟨b, off + i * 3 + 2, none⟩ = some (.int .i64 x.s))
theorem QIn.grown {w w' : World} {a : Option Addr} {n c : Nat} {l : List O.Pl} {row : Option Nat} (h : QIn w a n c l) (hg : w.grownBy w' row) (hr : ∀ x, a = some x -> some x.block ≠ row) : QIn w' a n c l := by
 refine ⟨h.1, h.2.1, h.2.2.1, ?_⟩
 rcases h.2.2.2 with h0 | ⟨b, off, rfl, hlt, hc⟩
 ·exact .inl h0
 ·refine .inr ⟨b, off, rfl, Nat.lt_of_lt_of_le hlt hg.size, fun i x hi => ?_⟩
  have hb : ∀ o, w'.cell? ⟨b, o, none⟩ = w.cell? ⟨b, o, none⟩ := fun o => by unfold World.cell?; rw [hg.block b hlt (hr _ rfl)]
  rw [hb, hb, hb]; exact hc i x hi
theorem QIn.on {w w' : World} {a : Option Addr} {n c : Nat} {l : List O.Pl} (h : QIn w a n c l) (hg : w.grownBy w' none) : QIn w' a n c l := h.grown hg (by simp)
theorem QIn.below {w w' : World} {a : Option Addr} {n c : Nat} {l : List O.Pl} (h : QIn w a n c l) (hb : Below w.heap.size w w') : QIn w' a n c l :=
 h.on ⟨hb.os, hb.tape, hb.output, hb.size, fun i hi _ => hb.block i hi⟩
theorem QIn.nil (w : World) : QIn w none 0 0 [] := ⟨rfl, ⟨Nat.le_refl _, by simp [maxLen]⟩, fun _ => ⟨rfl, rfl⟩, .inl rfl⟩
theorem QIn.at {w : World} {a : Option Addr} {n c i : Nat} {l : List O.Pl} (h : QIn w a n c l) (hi : i < n) :
  ∃ b off x, a = some ⟨b, off, none⟩ /\ b < w.heap.size /\ l[i]? = some x /\ w.cell? ⟨b, off + i * 3, none⟩ = some (.int .i64 x.f) /\ w.cell? ⟨b, off + i * 3 + 1, none⟩ = some (.int .i64 x.n) /\ w.cell? ⟨b, off + i * 3 + 2, none⟩ = some (.int .i64 x.s) := by
 rcases h.2.2.2 with rfl | ⟨b, off, rfl, hb, hc⟩
 ·have := h.1; simp at this; omega
 ·have hx := List.getElem?_eq_getElem (show i < l.length by rw [h.1]; exact hi)
  exact ⟨b, off, _, rfl, hb, hx, (hc i _ hx).1, (hc i _ hx).2.1, (hc i _ hx).2.2⟩
theorem QIn.take {w : World} {a : Option Addr} {n c : Nat} {l : List O.Pl} (h : QIn w a n c l) (j : Nat) (hj : j <= n) : QIn w a j c (l.take j) := by
 refine ⟨by have := h.1; simp; omega, ⟨by have := h.2.1; omega, h.2.1.2⟩, fun ha => ?_, ?_⟩
 ·have := h.2.2.1 ha; omega
 ·rcases h.2.2.2 with rfl | ⟨b, off, rfl, hb, hc⟩
  ·exact .inl (by simp)
  ·refine .inr ⟨b, off, rfl, hb, fun i x hi => hc i x ?_⟩
   rw [List.getElem?_take] at hi
   split at hi
   ·exact hi
   ·cases hi
theorem zbq {w : World} {B n : Nat} {v : Value} {l : List O.Pl} (h : w.ownsRow B 100 3 v n (O.flat l)) (hn : l.length = n) : ∃ a c, v = .slice a n c /\ QIn w a n c l := by
 rcases h.2 with ⟨rfl, h0⟩ | ⟨g, cap, cur, rfl, _, hg, hle, hm, _⟩
 ·obtain rfl : l = [] := List.eq_nil_of_length_eq_zero (by omega)
  exact ⟨none, 0, by rw [h0], by rw [h0]; exact QIn.nil w⟩
 ·refine ⟨_, cap, rfl, hn, ⟨by omega, hm⟩, fun h => (by cases h), .inr ⟨g, 0, rfl, (Array.getElem?_eq_some_iff.1 hg).1, fun i x hi => ?_⟩⟩
  obtain ⟨f1, f2, f3⟩ := O.flat_at l i x hi
  have c1 := h.cells (g := g) rfl _ _ f1
  have c2 := h.cells (g := g) rfl _ _ f2
  have c3 := h.cells (g := g) rfl _ _ f3
  rw [WideShapes.add_plain] at c1 c2 c3
  exact ⟨c1, by rw [Nat.add_assoc]; exact c2, by rw [Nat.add_assoc]; exact c3⟩
theorem zip : (Tryz.prog.info? 100).map (fun i => (i.zero, i.size, i.bytes)) = some (some (.agg #[.int .i64 0, .int .i64 0, .int .i64 0]), 3, 24) := by kernel_rfl
namespace O
def box (w : World) (x : Pl) : World := w.alloc (.cells #[.int .i64 x.f, .int .i64 x.n, .int .i64 x.s] 100)
theorem box_below (w : World) (x : Pl) : Below w.heap.size w (box w x) := (Below.refl _ w).alloc (Nat.le_refl _) _
theorem box_size (w : World) (x : Pl) : (box w x).heap.size = w.heap.size + 1 := by simp [box]
def Bx (w : World) (b : Nat) (x : Pl) : Prop := Blok w b 100 #[.int .i64 x.f, .int .i64 x.n, .int .i64 x.s]
theorem box_is (w : World) (x : Pl) : Bx (box w x) w.heap.size x := Blok.new _ _ _
theorem Bx.b0 {V : World} {b : Nat} {x : Pl} (h : Bx V b x) : V.cell? ⟨b, 0, none⟩ = some (.int .i64 x.f) := Blok.cell h 0
theorem Bx.b1 {V : World} {b : Nat} {x : Pl} (h : Bx V b x) : V.cell? ⟨b, 1, none⟩ = some (.int .i64 x.n) := Blok.cell h 1
theorem Bx.b2 {V : World} {b : Nat} {x : Pl} (h : Bx V b x) : V.cell? ⟨b, 2, none⟩ = some (.int .i64 x.s) := Blok.cell h 2
theorem Bx.on {V V' : World} {b : Nat} {x : Pl} (h : Bx V b x) (hb : Below V.heap.size V V') : Bx V' b x := Blok.below h hb (Blok.lt h)
def val (x : Pl) : Value := .agg #[.int .i64 x.f, .int .i64 x.n, .int .i64 x.s]
end O
open Go.RowKit
theorem zcq (x : O.Pl) (y : Int) (v : Bool) (w : World) (hv : O.has x y = v) :
  Calls Tryz.prog 68 #[O.val x, .int .i64 y] w fun e w' => e = .returned (.bool v) /\ Below w.heap.size w w' := by
 have HB := Zh (O.box_below w x)
 unfold O.box at HB
 unfold O.val
 go_enter Tryz.func68, Tryz.ntmps68
 by_cases k1 : x.f < 0
 ·have d1 : decide (x.f < 0) = true := by simpa using k1
  have HE : Hid (v = false) := Zh (by rw [<- hv]; simp [O.has]; omega)
  go_wp2
  go_ret
  exact ⟨by rw [HE.out]; rfl, HB.out⟩
 ·have d1 : decide (x.f < 0) = false := by simpa using k1
  by_cases k2 : 4 < x.f
  ·have d2 : decide (4 < x.f) = true := by simpa using k2
   have HE : Hid (v = false) := Zh (by rw [<- hv]; simp [O.has]; omega)
   go_wp2
   go_ret
   exact ⟨by rw [HE.out]; rfl, HB.out⟩
  ·have d2 : decide (4 < x.f) = false := by simpa using k2
   by_cases k3 : x.n < 1
   ·have d3 : decide (x.n < 1) = true := by simpa using k3
    have HE : Hid (v = false) := Zh (by rw [<- hv]; simp [O.has]; omega)
    go_wp2
    go_ret
    exact ⟨by rw [HE.out]; rfl, HB.out⟩
   ·have d3 : decide (x.n < 1) = false := by simpa using k3
    by_cases k4 : 4 < x.n
    ·have d4 : decide (4 < x.n) = true := by simpa using k4
     have HE : Hid (v = false) := Zh (by rw [<- hv]; simp [O.has]; omega)
     go_wp2
     go_ret
     exact ⟨by rw [HE.out]; rfl, HB.out⟩
    ·have d4 : decide (4 < x.n) = false := by simpa using k4
     have hw : IntKind.i64.wrap (x.f + x.n) = x.f + x.n := IntWalk.i64_in _ (by omega)
     by_cases k5 : x.f <= y
     ·have d5 : decide (x.f <= y) = true := by simpa using k5
      by_cases k6 : y < x.f + x.n
      ·have d6 : decide (y < x.f + x.n) = true := by simpa using k6
       have HE : Hid (v = true) := Zh (by rw [<- hv]; simp [O.has]; omega)
       go_wp2
       go_ret
       exact ⟨by rw [HE.out]; rfl, HB.out⟩
      ·have d6 : decide (y < x.f + x.n) = false := by simpa using k6
       have HE : Hid (v = false) := Zh (by rw [<- hv]; simp [O.has]; omega)
       go_wp2
       go_ret
       exact ⟨by rw [HE.out]; rfl, HB.out⟩
     ·have d5 : decide (x.f <= y) = false := by simpa using k5
      have HE : Hid (v = false) := Zh (by rw [<- hv]; simp [O.has]; omega)
      go_wp2
      go_ret
      exact ⟨by rw [HE.out]; rfl, HB.out⟩
theorem za1 (x : O.Pl) (out : Int) (v : Bool) (w : World) (hv : O.below x out = v) (ho : 0 <= out /\ out <= 4) (hx : x.f <= 9223372036854775807) :
  Calls Tryz.prog 124 #[O.val x, .int .i64 out] w fun e w' => e = .returned (.bool v) /\ Below w.heap.size w w' := by
 have HB := Zh (O.box_below w x)
 unfold O.box at HB
 unfold O.val
 go_enter Tryz.func124, Tryz.ntmps124
 by_cases k1 : 0 <= x.f
 ·have d1 : decide (0 <= x.f) = true := by simpa using k1
  by_cases k2 : 1 <= x.n
  ·have d2 : decide (1 <= x.n) = true := by simpa using k2
   have hw : IntKind.i64.wrap (out - x.f) = out - x.f := IntWalk.i64_in _ (by omega)
   by_cases k3 : x.n <= out - x.f
   ·have d3 : decide (x.n <= out - x.f) = true := by simpa using k3
    have HE : Hid (v = true) := Zh (by rw [<- hv]; simp [O.below]; omega)
    go_wp2
    go_ret
    exact ⟨by rw [HE.out]; rfl, HB.out⟩
   ·have d3 : decide (x.n <= out - x.f) = false := by simpa using k3
    have HE : Hid (v = false) := Zh (by rw [<- hv]; simp [O.below]; omega)
    go_wp2
    go_ret
    exact ⟨by rw [HE.out]; rfl, HB.out⟩
  ·have d2 : decide (1 <= x.n) = false := by simpa using k2
   have HE : Hid (v = false) := Zh (by rw [<- hv]; simp [O.below]; omega)
   go_wp2
   go_ret
   exact ⟨by rw [HE.out]; rfl, HB.out⟩
 ·have d1 : decide (0 <= x.f) = false := by simpa using k1
  have HE : Hid (v = false) := Zh (by rw [<- hv]; simp [O.below]; omega)
  go_wp2
  go_ret
  exact ⟨by rw [HE.out]; rfl, HB.out⟩
open Go.RowKit
theorem zlm (p q : O.Pl) (v : Bool) (hv : O.hit p q = v) (w : World) (b : Nat) (hb : O.Bx w b p) :
  Calls Tryz.prog 162 #[O.val q, .pointer (some ⟨b, 0, none⟩)] w fun e w' => e = .returned (.bool v) /\ Below w.heap.size w w' := by
 have HV := Zh hv
 have HP := Zh (hb.on (O.box_below w q))
 have HQ := Zh (O.box_is w q)
 have HB := Zh (O.box_below w q)
 obtain ⟨W, hW⟩ : ∃ W, O.box w q = W := ⟨_, rfl⟩
 rw [hW] at HP HQ HB
 unfold O.box at hW
 have p0 := HP.out.b0
 have p1 := HP.out.b1
 have p2 := HP.out.b2
 have q0 := HQ.out.b0
 have q1 := HQ.out.b1
 have q2 := HQ.out.b2
 obtain ⟨u1, hu1⟩ : ∃ u, O.has p q.f = u := ⟨_, rfl⟩
 obtain ⟨u2, hu2⟩ : ∃ u, O.has q p.f = u := ⟨_, rfl⟩
 have HU : Hid (v = (u1 || u2)) := Zh (by rw [<- HV.out, <- hu1, <- hu2]; rfl)
 have c1 := zcq p q.f u1 W hu1
 have U2 := Zh hu2
 unfold O.val at c1 ⊢
 clear hv hb hu1 hu2
 go_enter Tryz.func162, Tryz.ntmps162
 go_wp2_with fail
 refine c1.mono ?_
 rintro e w1 ⟨rfl, hb1⟩
 have HB1 := Zt HB hb1
 have HP1 := Zh (HP.out.on hb1)
 have HQ1 := Zh (HQ.out.on hb1)
 clear p0 p1 p2 q0 q1 q2 hb1 c1 hW HP HQ
 have p0 := HP1.out.b0
 have p1 := HP1.out.b1
 have p2 := HP1.out.b2
 have q0 := HQ1.out.b0
 have q1 := HQ1.out.b1
 have q2 := HQ1.out.b2
 cases u1 with
 | true =>
  go_wp2
  go_ret
  exact ⟨by rw [HU.out]; rfl, HB1.out⟩
 | false =>
  have c2 := zcq q p.f u2 w1 U2.out
  unfold O.val at c2
  go_wp2_with fail
  refine c2.mono ?_
  rintro e w2 ⟨rfl, hb2⟩
  go_wp2
  go_ret
  exact ⟨by rw [HU.out]; rfl, HB1.out.trans (hb2.mono HB1.out.size)⟩
def O.clo (b : Nat) : Value := .func (.func 162) #[] #[.pointer (some ⟨b, 0, none⟩)]
theorem za7 (p : O.Pl) (w : World) : Calls Tryz.prog 126 #[O.val p] w fun e w' => ∃ b, e = .returned (O.clo b) /\ Hid (O.Bx w' b p) /\ Below w.heap.size w w' := by
 have HB := Zh (O.box_below w p)
 have HX := Zh (O.box_is w p)
 unfold O.val
 go_enter Tryz.func126, Tryz.ntmps126
 go_wp2
 go_ret
 exact ⟨w.heap.size, rfl, HX, HB.out⟩
theorem O.any_snoc {f : O.Pl -> Bool} {l : List O.Pl} {j : Nat} {x : O.Pl} (hx : l[j]? = some x) (h : ∀ q ∈ l.take j, f q = false) (h2 : f x = false) : ∀ q ∈ l.take (j + 1), f q = false := by
 intro q hq
 obtain ⟨h0, h1⟩ := List.getElem?_eq_some_iff.1 hx
 rw [List.take_succ_eq_append_getElem h0, List.mem_append, List.mem_singleton, h1] at hq
 rcases hq with hq | rfl
 ·exact h q hq
 ·exact h2
theorem O.any_yes {f : O.Pl -> Bool} {l : List O.Pl} {j : Nat} {x : O.Pl} (hx : l[j]? = some x) (h : f x = true) : l.any f = true :=
 List.any_eq_true.2 ⟨x, List.mem_of_getElem? hx, h⟩
theorem O.any_no {f : O.Pl -> Bool} {l : List O.Pl} (h : ∀ q ∈ l, f q = false) : l.any f = false := by
 rw [Bool.eq_false_iff]; intro h1
 obtain ⟨x, hx, h2⟩ := List.any_eq_true.1 h1
 rw [h x hx] at h2; cases h2
theorem zka (a : Option Addr) (n c : Nat) (l : List O.Pl) (p : O.Pl) (b : Nat) (v : Bool) (hv : l.any (O.hit p) = v) (w : World) (h : QIn w a n c l) (hb : O.Bx w b p) (hn : n <= 1000000) :
  Calls Tryz.prog 161 #[.slice a n c, O.clo b] w fun e w' => (∃ r : Int, e = .returned (.int .i64 r) /\ Hid (decide (0 <= r) = v)) /\ Below w.heap.size w w' := by
 have HT := Zh h
 have HV := Zh hv
 have HP := Zh hb
 clear h hv hb
 unfold O.clo
 go_enter Tryz.func161, Tryz.ntmps161
 go_wp2_with fail
 go_loopw [8] (fun i wr => ∃ j : Nat, i = .int .i64 j /\ j <= n /\ Hid (∀ q ∈ l.take j, O.hit p q = false) /\ Hid (Below w.heap.size w wr)) (fun i _ => n - (intOf i).toNat)
 case atStart => exact ⟨0, rfl, by omega, Zh (by simp), Zh (Below.refl _ _)⟩
 case round =>
  obtain ⟨j, rfl, hjn, HA, HB⟩ := hrel
  by_cases hlt : j < n
  ·have d1 : decide ((j : Int) < n) = true := by simp; omega
   obtain ⟨b', off, x, rfl, hbl, hx, p0, p1, p2⟩ := (HT.out.below HB.out).at hlt
   have HX := Zh hx
   have j0 : (0 : Int) <= j := by omega
   have j1 : (j : Int) < n := by omega
   have HPr := Zh (HP.out.on HB.out)
   obtain ⟨u, hu⟩ : ∃ u, O.hit p x = u := ⟨_, rfl⟩
   have HU := Zh hu
   have c1 := zlm p x u hu wr b HPr.out
   unfold O.val at c1
   clear hu hx
   go_wp2_with fail
   refine c1.mono ?_
   rintro e w2 ⟨rfl, hb2⟩
   have HB2 := Zt HB hb2
   clear hb2 c1
   cases u with
   | true =>
    go_wp2
    go_ret
    exact ⟨⟨j, rfl, Zh (by rw [<- HV.out, O.any_yes HX.out HU.out]; simp)⟩, HB2.out⟩
   | false =>
    go_wp2
    go_roundw
    case rel => exact ⟨j + 1, by go_num, by omega, Zh (O.any_snoc HX.out HA.out HU.out), HB2⟩
    case measure => simp [intOf] <;> omega
  ·have d1 : decide ((j : Int) < n) = false := by simp; omega
   have HE : Hid (v = false) := Zh (by
    rw [<- HV.out]
    have h1 := HA.out
    rw [List.take_of_length_le (by rw [HT.out.1]; omega)] at h1
    exact O.any_no h1)
   go_wp2
   go_ret
   exact ⟨⟨-1, rfl, Zh (by rw [HE.out]; decide)⟩, HB.out⟩
theorem zbu (a : Option Addr) (n c : Nat) (l : List O.Pl) (p : O.Pl) (b : Nat) (v : Bool) (hv : l.any (O.hit p) = v) (w : World) (h : QIn w a n c l) (hb : O.Bx w b p) (hn : n <= 1000000) :
  Calls Tryz.prog 125 #[.slice a n c, O.clo b] w fun e w' => e = .returned (.bool v) /\ Below w.heap.size w w' := by
 have c1 := zka a n c l p b v hv w h hb hn
 unfold O.clo at c1 ⊢
 clear h hb hv
 go_enter Tryz.func125, Tryz.ntmps125
 go_wp2_with fail
 refine c1.mono ?_
 rintro e w2 ⟨⟨r, rfl, hr⟩, hb2⟩
 go_wp2
 go_ret
 exact ⟨by rw [hr.out]; rfl, hb2⟩
namespace O
def Apart (l : List Pl) : Prop := l.Pairwise (fun q p => hit p q = false)
def seek (l : List Pl) (out k : Int) : Int := if may l out = false then 1 else if k < 0 \/ (l.length : Int) <= k then 5 else 0
theorem seek_ok {l : List Pl} {out k : Int} : seek l out k = 0 ↔ may l out = true /\ 0 <= k /\ k < l.length := by
 unfold seek
 cases may l out
 ·simp
 ·by_cases h : k < 0 \/ (l.length : Int) <= k
  ·simp [h]; omega
  ·simp [h]; omega
theorem drain_no {l : List Pl} {out k : Int} (h : seek l out k ≠ 0) : drain l out k = (l, seek l out k) := by
 unfold seek at h ⊢; unfold drain
 by_cases h1 : may l out = false
 ·rw [if_pos h1, if_pos h1]
 ·rw [if_neg h1] at h; rw [if_neg h1, if_neg h1]
  by_cases h2 : k < 0 \/ (l.length : Int) <= k
  ·rw [if_pos h2, if_pos h2]
  ·rw [if_neg h2] at h; exact absurd rfl h
theorem drain_yes {l : List Pl} {out k : Int} (h : seek l out k = 0) : drain l out k = if (at' l k).s = 1 then (l, 11) else (l.set k.toNat { at' l k with s := 1 }, 0) := by
 obtain ⟨h1, h2, h3⟩ := seek_ok.1 h
 unfold drain
 rw [if_neg (by rw [h1]; decide), if_neg (by omega)]
theorem size_no {l : List Pl} {out k n : Int} {busy : List Int} (h : seek l out k ≠ 0) : size l out k n busy = (l, seek l out k) := by
 unfold seek at h ⊢; unfold size
 by_cases h1 : may l out = false
 ·rw [if_pos h1, if_pos h1]
 ·rw [if_neg h1] at h; rw [if_neg h1, if_neg h1]
  by_cases h2 : k < 0 \/ (l.length : Int) <= k
  ·rw [if_pos h2, if_pos h2]
  ·rw [if_neg h2] at h; exact absurd rfl h
theorem size_yes {l : List Pl} {out k n : Int} {busy : List Int} (h : seek l out k = 0) : size l out k n busy = if below { at' l k with n := n } out = false then (l, 1)
  else if (l.eraseIdx k.toNat).any (fun q => hit { at' l k with n := n } q) = true then (l, 11)
  else if loses (at' l k) { at' l k with n := n } busy = true then (l, 12)
  else (l.set k.toNat { at' l k with n := n }, 0) := by
 obtain ⟨h1, h2, h3⟩ := seek_ok.1 h
 unfold size
 rw [if_neg (by rw [h1]; decide), if_neg (by omega)]
theorem gone_no {l : List Pl} {out k : Int} {busy : List Int} (h : seek l out k ≠ 0) : gone l out k busy = (l, seek l out k) := by
 unfold seek at h ⊢; unfold gone
 by_cases h1 : may l out = false
 ·rw [if_pos h1, if_pos h1]
 ·rw [if_neg h1] at h; rw [if_neg h1, if_neg h1]
  by_cases h2 : k < 0 \/ (l.length : Int) <= k
  ·rw [if_pos h2, if_pos h2]
  ·rw [if_neg h2] at h; exact absurd rfl h
theorem gone_yes {l : List Pl} {out k : Int} {busy : List Int} (h : seek l out k = 0) : gone l out k busy = if (at' l k).s = 0 \/ loses (at' l k) zp busy = true then (l, 12) else (l.eraseIdx k.toNat, 0) := by
 obtain ⟨h1, h2, h3⟩ := seek_ok.1 h
 unfold gone
 rw [if_neg (by rw [h1]; decide), if_neg (by omega)]
theorem fits_zero (f n out : Int) : fits ⟨f, n, 0⟩ out = below ⟨f, n, 0⟩ out := by
 rw [Bool.eq_iff_iff, fits_iff, below_iff]
 show (0 <= f /\ 1 <= n /\ n <= out - f /\ (0 : Int) <= 0 /\ (0 : Int) < 2) ↔ (0 <= f /\ 1 <= n /\ n <= out - f)
 omega
theorem fits_n {p : Pl} {n out : Int} (h : 0 <= p.s /\ p.s < 2) : fits { p with n := n } out = below { p with n := n } out := by
 rw [Bool.eq_iff_iff, fits_iff, below_iff]; constructor <;> intro h2
 ·exact ⟨h2.1, h2.2.1, h2.2.2.1⟩
 ·exact ⟨h2.1, h2.2.1, h2.2.2, h.1, h.2⟩
theorem may_small {l : List Pl} {out : Int} {x : Pl} (hm : May l out) (hx : x ∈ l) : 0 <= x.s /\ x.s < 2 := by
 have := fits_iff.1 (hm.2.2.2.1 x hx); exact ⟨this.2.2.2.1, this.2.2.2.2⟩
theorem zp_has (y : Int) : has zp y = false := by
 rw [Bool.eq_false_iff]; intro h; have := has_iff.1 h; simp [zp] at this
theorem loses_zp (x : Pl) (bs : List Int) : loses x zp bs = bs.any (has x) := by
 unfold loses
 congr 1
 funext y
 rw [zp_has]; simp
def Sm (l : List Pl) : Prop := ∀ x ∈ l, x.f <= 9223372036854775807
end O
open Go.RowKit
theorem O.fits_split {p : O.Pl} {out : Int} : O.fits p out = (O.below p out && !decide (p.s < 0) && !decide (2 <= p.s)) := by
 rw [Bool.eq_iff_iff, O.fits_iff]
 simp only [Bool.and_eq_true, O.below_iff, Bool.not_eq_true', decide_eq_false_iff_not]
 omega
theorem O.fits_snoc {l : List O.Pl} {out : Int} {j : Nat} {x : O.Pl} (hx : l[j]? = some x) (h : ∀ q ∈ l.take j, O.fits q out = true) (h2 : O.fits x out = true) : ∀ q ∈ l.take (j + 1), O.fits q out = true := by
 intro q hq
 obtain ⟨h0, h1⟩ := List.getElem?_eq_some_iff.1 hx
 rw [List.take_succ_eq_append_getElem h0, List.mem_append, List.mem_singleton, h1] at hq
 rcases hq with hq | rfl
 ·exact h q hq
 ·exact h2
theorem O.then_act {K : Act -> World -> Prop} {Q : Exit -> Act -> World -> Prop} {A B : Act} {w : World} (h : A = B) (hk : Exit.then K Q .normal B w) : Exit.then K Q .normal A w := h ▸ hk
theorem O.apart_snoc {l : List O.Pl} {j : Nat} {x : O.Pl} (hx : l[j]? = some x) (h : O.Apart (l.take j)) (h2 : (l.take j).any (O.hit x) = false) : O.Apart (l.take (j + 1)) := by
 obtain ⟨h0, h1⟩ := List.getElem?_eq_some_iff.1 hx
 unfold O.Apart
 rw [List.take_succ_eq_append_getElem h0, h1, List.pairwise_append]
 refine ⟨h, List.pairwise_singleton _ _, fun q hq p hp => ?_⟩
 obtain rfl := List.mem_singleton.1 hp
 have := List.any_eq_false.1 h2 q hq
 simpa using this
theorem O.apart_bad {l : List O.Pl} {j : Nat} {x : O.Pl} (hx : l[j]? = some x) (h2 : (l.take j).any (O.hit x) = true) : ¬ O.Apart l := by
 intro h
 obtain ⟨h0, h1⟩ := List.getElem?_eq_some_iff.1 hx
 obtain ⟨q, hq, h3⟩ := List.any_eq_true.1 h2
 have h4 : O.Apart (l.take (j + 1)) := List.Pairwise.sublist (List.take_sublist _ _) h
 unfold O.Apart at h4
 rw [List.take_succ_eq_append_getElem h0, h1, List.pairwise_append] at h4
 rw [h4.2.2 q hq x (List.mem_singleton.2 rfl)] at h3
 cases h3
theorem zbi (a : Option Addr) (n c : Nat) (l : List O.Pl) (out : Int) (p : Bool) (hp : O.may l out = p) (w : World) (h : QIn w a n c l) (hn : n <= 1000) (hz : O.Sm l) :
  Calls Tryz.prog 56 #[.slice a n c, .int .i64 out] w fun e w' => e = .returned (.bool p) /\ Below w.heap.size w w' := by
 have HT := Zh h
 have HP := Zh hp
 have HZ := Zh hz
 clear h hp hz
 go_enter Tryz.func56, Tryz.ntmps56
 by_cases hb : 0 <= out /\ out <= 4 /\ n <= 3
 ·obtain ⟨h1, h2, h3⟩ := hb
  have d1 : decide (out < 0) = false := by simp; omega
  have d2 : decide (4 < out) = false := by simp; omega
  have d3 : decide (3 < (n : Int)) = false := by simp; omega
  go_wp2_with fail
  go_loopw [20] (fun i wr => ∃ j : Nat, i = .int .i64 j /\ j <= n /\ Hid (∀ t ∈ l.take j, O.fits t out = true) /\ Hid (O.Apart (l.take j)) /\ Hid (Below w.heap.size w wr)) (fun i _ => n - (intOf i).toNat)
  case atStart => exact ⟨0, by go_num, by omega, Zh (by simp), Zh (by simp [O.Apart]), Zh (Below.refl _ _)⟩
  case round =>
   obtain ⟨j, rfl, hjn, HA, HI, HB⟩ := hrel
   by_cases hlt : j < n
   ·have dj : decide ((j : Int) < n) = true := by simp; omega
    obtain ⟨b, off, x, rfl, hbl, hx, p0, p1, p2⟩ := (HT.out.below HB.out).at hlt
    have HX := Zh hx
    have j0 : (0 : Int) <= j := by omega
    have j1 : (j : Int) < n := by omega
    have j2 : (j : Int) <= n := by omega
    have hcn : n <= c := HT.out.2.1.1
    have j3 : (j : Int) <= c := by omega
    have TB := Zh (O.box_is wr x)
    have TBB := Zh (O.box_below wr x)
    have HB2 := Zh (HB.out.trans (TBB.out.mono HB.out.size))
    clear hx
    go_wp2_with fail
    obtain ⟨W2, hW2⟩ : ∃ W2, wr.alloc (.cells #[.int .i64 x.f, .int .i64 x.n, .int .i64 x.s] 100) = W2 := ⟨_, rfl⟩
    have TB3 : Hid (O.Bx W2 wr.heap.size x) := Zh (by rw [<- hW2]; exact TB.out)
    have HB3 : Hid (Below w.heap.size w W2) := Zh (by rw [<- hW2]; exact HB2.out)
    rw [hW2]
    clear hW2 TB TBB HB2 p0 p1 p2
    have t0 := TB3.out.b0
    have t1 := TB3.out.b1
    have t2 := TB3.out.b2
    have ct0 := fun d os => cell_regrown t0 d os
    have ct1 := fun d os => cell_regrown t1 d os
    have ct2 := fun d os => cell_regrown t2 d os
    have hz : x.f <= 9223372036854775807 := HZ.out x (List.mem_of_getElem? HX.out)
    obtain ⟨u1, hu1⟩ : ∃ q, O.below x out = q := ⟨_, rfl⟩
    obtain ⟨u2, hu2⟩ : ∃ q, (l.take j).any (O.hit x) = q := ⟨_, rfl⟩
    have c1 := fun V => za1 x out u1 V hu1 ⟨h1, h2⟩ hz
    unfold O.val at c1
    have HU1 := Zh hu1
    have HU2 := Zh hu2
    have NF : Hid (O.fits x out = false -> p = false) := Zh (fun h => by
     rw [<- HP.out]
     refine O.may_no fun hm => ?_
     have := hm.2.2.2.1 x (List.mem_of_getElem? HX.out)
     rw [h] at this; cases this)
    have NH : Hid (u2 = true -> p = false) := Zh (fun h => by
     rw [<- HP.out]
     exact O.may_no fun hm => O.apart_bad HX.out (by rw [HU2.out]; exact h) hm.2.2.2.2)
    clear hu1 hu2
    by_cases s1 : u1 = false
    ·subst s1
     have HE : Hid (p = false) := Zh (NF.out (by rw [O.fits_split, HU1.out]; rfl))
     go_wp2_with fail
     refine wp_region_quiet_below (by kernel_rfl) (by kernel_rfl) ?_
     repeat (go_big_quiet_step (with_reducible exact Calls.regrown_of (c1 _)))
     refine wpQuiet_nil ?_
     intro _ hw'
     obtain ⟨⟨dq, osq⟩, hw''⟩ := hw'
     subst hw''
     clear ct0 ct1 ct2 t0 t1 t2 c1
     have HB4 := Zh (HB3.out.trans ((below_regrown W2 dq osq).mono HB3.out.size))
     go_wp2
     go_ret
     exact ⟨by rw [HE.out]; rfl, HB4.out⟩
    obtain rfl : u1 = true := by simpa using s1
    clear s1
    by_cases s2 : x.s < 0
    ·have e1 : decide (x.s < 0) = true := by simpa using s2
     have HE : Hid (p = false) := Zh (NF.out (by rw [O.fits_split, e1]; simp))
     go_wp2_with fail
     refine wp_region_quiet_below (by kernel_rfl) (by kernel_rfl) ?_
     repeat (go_big_quiet_step (with_reducible exact Calls.regrown_of (c1 _)))
     refine wpQuiet_nil ?_
     intro _ hw'
     obtain ⟨⟨dq, osq⟩, hw''⟩ := hw'
     subst hw''
     clear ct0 ct1 ct2 t0 t1 t2 c1
     have HB4 := Zh (HB3.out.trans ((below_regrown W2 dq osq).mono HB3.out.size))
     go_wp2
     go_ret
     exact ⟨by rw [HE.out]; rfl, HB4.out⟩
    have e1 : decide (x.s < 0) = false := by simpa using s2
    by_cases s3 : 2 <= x.s
    ·have e2 : decide (2 <= x.s) = true := by simpa using s3
     have HE : Hid (p = false) := Zh (NF.out (by rw [O.fits_split, e2]; simp))
     go_wp2_with fail
     refine wp_region_quiet_below (by kernel_rfl) (by kernel_rfl) ?_
     repeat (go_big_quiet_step (with_reducible exact Calls.regrown_of (c1 _)))
     refine wpQuiet_nil ?_
     intro _ hw'
     obtain ⟨⟨dq, osq⟩, hw''⟩ := hw'
     subst hw''
     clear ct0 ct1 ct2 t0 t1 t2 c1
     have HB4 := Zh (HB3.out.trans ((below_regrown W2 dq osq).mono HB3.out.size))
     go_wp2
     go_ret
     exact ⟨by rw [HE.out]; rfl, HB4.out⟩
    have e2 : decide (2 <= x.s) = false := by simpa using s3
    have FX : Hid (O.fits x out = true) := Zh (by rw [O.fits_split, HU1.out, e1, e2]; rfl)
    have HT2 := Zh ((HT.out.take j hjn).below HB3.out)
    have c2 := fun V => za7 x V
    unfold O.val at c2
    have hu2 := HU2.out
    clear ct0 ct1 ct2 t0 t1 t2 s2 s3
    cases u2 with
    | true =>
     have HE : Hid (p = false) := Zh (NH.out rfl)
     go_wp2_with fail
     refine Zd (fun w' => Below W2.heap.size W2 w') (zaa W2) fun HS0 => ?_
     refine wpAnyH_take (i := 0) (v := (.agg #[.int .i64 x.f, .int .i64 x.n, .int .i64 x.s])) rfl (by kernel_rfl) (by kernel_rfl) (by kernel_rfl) (fun _ _ _ h => h) (.inl ⟨by kernel_rfl, fun w9 hS => by have k := TB3.out.on hS; have k0 := k.b0; have k1 := k.b1; have k2 := k.b2; go_simp⟩) HS0 ?_
     refine tk 1 ((.int .i64 out)) HS0 ?_
     refine Zc 2 124 #[(.agg #[.int .i64 x.f, .int .i64 x.n, .int .i64 x.s]), .int .i64 out] (c1 _) ?_
     rintro e w3 ⟨rfl, hbw3⟩
     refine Zu (Zr HS0 hbw3) fun HS1 => ?_
     refine tk 3 ((.bool false)) HS1 ?_
     refine tk 4 ((.bool false)) HS1 ?_
     refine tk 5 ((.pointer (some ⟨wr.heap.size, 2, none⟩))) HS1 ?_
     refine wpAnyH_take (i := 6) (v := (.int .i64 x.s)) rfl (by kernel_rfl) (by kernel_rfl) (by kernel_rfl) (fun _ _ _ h => h) (.inl ⟨by kernel_rfl, fun w9 hS => by have k := TB3.out.on hS; have k0 := k.b0; have k1 := k.b1; have k2 := k.b2; go_simp⟩) HS1 ?_
     refine wpAnyH_take (i := 7) (v := (.bool false)) rfl (by kernel_rfl) (by kernel_rfl) (by kernel_rfl) (fun _ _ _ h => h) (.inl ⟨by kernel_rfl, fun w9 hS => (show _ = Result.ok (.value (.bool (decide (x.s < 0)))) w9 by kernel_rfl).trans (by rw [e1])⟩) HS1 ?_
     refine tk 8 ((.bool false)) HS1 ?_
     refine tk 9 ((.bool false)) HS1 ?_
     refine tk 10 ((.pointer (some ⟨wr.heap.size, 2, none⟩))) HS1 ?_
     refine wpAnyH_take (i := 11) (v := (.int .i64 x.s)) rfl (by kernel_rfl) (by kernel_rfl) (by kernel_rfl) (fun _ _ _ h => h) (.inl ⟨by kernel_rfl, fun w9 hS => by have k := TB3.out.on hS; have k0 := k.b0; have k1 := k.b1; have k2 := k.b2; go_simp⟩) HS1 ?_
     refine wpAnyH_take (i := 12) (v := (.bool false)) rfl (by kernel_rfl) (by kernel_rfl) (by kernel_rfl) (fun _ _ _ h => h) (.inl ⟨by kernel_rfl, fun w9 hS => (show _ = Result.ok (.value (.bool (decide (2 <= x.s)))) w9 by kernel_rfl).trans (by rw [e2])⟩) HS1 ?_
     refine tk 13 ((.bool false)) HS1 ?_
     refine tk 14 ((.bool false)) HS1 ?_
     refine tk 15 ((.slice (some ⟨b, off, none⟩) n c)) HS1 ?_
     refine tk 16 ((.int .i64 j)) HS1 ?_
     refine wpAnyH_take (i := 17) (v := (.slice (some ⟨b, off, none⟩) j c)) rfl (by kernel_rfl) (by kernel_rfl) (by kernel_rfl) (fun _ _ _ h => h) (.inl ⟨by kernel_rfl, fun w9 hS => by go_simp⟩) HS1 ?_
     refine wpAnyH_take (i := 18) (v := (.agg #[.int .i64 x.f, .int .i64 x.n, .int .i64 x.s])) rfl (by kernel_rfl) (by kernel_rfl) (by kernel_rfl) (fun _ _ _ h => h) (.inl ⟨by kernel_rfl, fun w9 hS => by have k := TB3.out.on hS; have k0 := k.b0; have k1 := k.b1; have k2 := k.b2; go_simp⟩) HS1 ?_
     refine Zc 19 126 #[(.agg #[.int .i64 x.f, .int .i64 x.n, .int .i64 x.s])] (c2 _) ?_
     rintro e w4 ⟨bx, rfl, HX4, hbw4⟩
     refine Zu (Zr HS1 hbw4) fun HS2 => ?_
     refine zcd (S' := fun w' => Below w4.heap.size w4 w') (fun w' h => Below.trans HS2 (h.mono (Below.size HS2))) _ _ _ _ ?_
     have HS3 : (fun w' => Below w4.heap.size w4 w') w4 := Below.refl _ _
     refine Zc 20 125 #[.slice (some ⟨b, off, none⟩) j c, O.clo bx] (zbu (some ⟨b, off, none⟩) j c (l.take j) x bx true hu2 _ (HT2.out.below HS2) HX4.out (by omega)) ?_
     rintro e w5 ⟨rfl, hbw5⟩
     refine Zu (Zr HS3 hbw5) fun HS4 => ?_
     refine tk 21 ((.bool true)) HS4 ?_
     refine wpAnyH_done (by kernel_rfl) ?_ _
     refine O.then_act (B := ⟨#[.slice (some ⟨b, off, none⟩) n c, .int .i64 out, undef, undef, u4, .int .i64 j, .pointer (some ⟨wr.heap.size, 0, none⟩), .int .i64 out, .bool false, .bool false, .int .i64 out, .bool false, .bool false, .bool false, .slice (some ⟨b, off, none⟩) n c, .int .i64 n, .bool false, .bool false, .slice (some ⟨b, off, none⟩) n c, .int .i64 n, .int .i64 j, .bool true, .int .i64 j, .pointer (some ⟨b, off + j * 3, none⟩), .agg #[.int .i64 x.f, .int .i64 x.n, .int .i64 x.s], .agg #[.int .i64 x.f, .int .i64 x.n, .int .i64 x.s], .int .i64 out, .bool true, .bool false, .bool false, .pointer (some ⟨wr.heap.size, 2, none⟩), .int .i64 x.s, .bool false, .bool false, .bool false, .pointer (some ⟨wr.heap.size, 2, none⟩), .int .i64 x.s, .bool false, .bool false, .bool false, .slice (some ⟨b, off, none⟩) n c, .int .i64 j, .slice (some ⟨b, off, none⟩) j c, .agg #[.int .i64 x.f, .int .i64 x.n, .int .i64 x.s], O.clo bx, .bool true, .bool true, u47], []⟩) (by kernel_rfl) ?_
     have HB5 := Zt HB3 HS2
     have HB6 := Zt HB5 hbw5
     clear c1 c2 HS0 HS1 HS2 HS3 HS4 hbw3 hbw4 hbw5
     go_wp2
     go_ret
     exact ⟨by rw [HE.out]; rfl, HB6.out⟩
    | false =>
     have HA2 := Zh (O.fits_snoc HX.out HA.out FX.out)
     have HI2 := Zh (O.apart_snoc HX.out HI.out HU2.out)
     go_wp2_with fail
     refine Zd (fun w' => Below W2.heap.size W2 w') (zaa W2) fun HS0 => ?_
     refine wpAnyH_take (i := 0) (v := (.agg #[.int .i64 x.f, .int .i64 x.n, .int .i64 x.s])) rfl (by kernel_rfl) (by kernel_rfl) (by kernel_rfl) (fun _ _ _ h => h) (.inl ⟨by kernel_rfl, fun w9 hS => by have k := TB3.out.on hS; have k0 := k.b0; have k1 := k.b1; have k2 := k.b2; go_simp⟩) HS0 ?_
     refine tk 1 ((.int .i64 out)) HS0 ?_
     refine Zc 2 124 #[(.agg #[.int .i64 x.f, .int .i64 x.n, .int .i64 x.s]), .int .i64 out] (c1 _) ?_
     rintro e w3 ⟨rfl, hbw3⟩
     refine Zu (Zr HS0 hbw3) fun HS1 => ?_
     refine tk 3 ((.bool false)) HS1 ?_
     refine tk 4 ((.bool false)) HS1 ?_
     refine tk 5 ((.pointer (some ⟨wr.heap.size, 2, none⟩))) HS1 ?_
     refine wpAnyH_take (i := 6) (v := (.int .i64 x.s)) rfl (by kernel_rfl) (by kernel_rfl) (by kernel_rfl) (fun _ _ _ h => h) (.inl ⟨by kernel_rfl, fun w9 hS => by have k := TB3.out.on hS; have k0 := k.b0; have k1 := k.b1; have k2 := k.b2; go_simp⟩) HS1 ?_
     refine wpAnyH_take (i := 7) (v := (.bool false)) rfl (by kernel_rfl) (by kernel_rfl) (by kernel_rfl) (fun _ _ _ h => h) (.inl ⟨by kernel_rfl, fun w9 hS => (show _ = Result.ok (.value (.bool (decide (x.s < 0)))) w9 by kernel_rfl).trans (by rw [e1])⟩) HS1 ?_
     refine tk 8 ((.bool false)) HS1 ?_
     refine tk 9 ((.bool false)) HS1 ?_
     refine tk 10 ((.pointer (some ⟨wr.heap.size, 2, none⟩))) HS1 ?_
     refine wpAnyH_take (i := 11) (v := (.int .i64 x.s)) rfl (by kernel_rfl) (by kernel_rfl) (by kernel_rfl) (fun _ _ _ h => h) (.inl ⟨by kernel_rfl, fun w9 hS => by have k := TB3.out.on hS; have k0 := k.b0; have k1 := k.b1; have k2 := k.b2; go_simp⟩) HS1 ?_
     refine wpAnyH_take (i := 12) (v := (.bool false)) rfl (by kernel_rfl) (by kernel_rfl) (by kernel_rfl) (fun _ _ _ h => h) (.inl ⟨by kernel_rfl, fun w9 hS => (show _ = Result.ok (.value (.bool (decide (2 <= x.s)))) w9 by kernel_rfl).trans (by rw [e2])⟩) HS1 ?_
     refine tk 13 ((.bool false)) HS1 ?_
     refine tk 14 ((.bool false)) HS1 ?_
     refine tk 15 ((.slice (some ⟨b, off, none⟩) n c)) HS1 ?_
     refine tk 16 ((.int .i64 j)) HS1 ?_
     refine wpAnyH_take (i := 17) (v := (.slice (some ⟨b, off, none⟩) j c)) rfl (by kernel_rfl) (by kernel_rfl) (by kernel_rfl) (fun _ _ _ h => h) (.inl ⟨by kernel_rfl, fun w9 hS => by go_simp⟩) HS1 ?_
     refine wpAnyH_take (i := 18) (v := (.agg #[.int .i64 x.f, .int .i64 x.n, .int .i64 x.s])) rfl (by kernel_rfl) (by kernel_rfl) (by kernel_rfl) (fun _ _ _ h => h) (.inl ⟨by kernel_rfl, fun w9 hS => by have k := TB3.out.on hS; have k0 := k.b0; have k1 := k.b1; have k2 := k.b2; go_simp⟩) HS1 ?_
     refine Zc 19 126 #[(.agg #[.int .i64 x.f, .int .i64 x.n, .int .i64 x.s])] (c2 _) ?_
     rintro e w4 ⟨bx, rfl, HX4, hbw4⟩
     refine Zu (Zr HS1 hbw4) fun HS2 => ?_
     refine zcd (S' := fun w' => Below w4.heap.size w4 w') (fun w' h => Below.trans HS2 (h.mono (Below.size HS2))) _ _ _ _ ?_
     have HS3 : (fun w' => Below w4.heap.size w4 w') w4 := Below.refl _ _
     refine Zc 20 125 #[.slice (some ⟨b, off, none⟩) j c, O.clo bx] (zbu (some ⟨b, off, none⟩) j c (l.take j) x bx false hu2 _ (HT2.out.below HS2) HX4.out (by omega)) ?_
     rintro e w5 ⟨rfl, hbw5⟩
     refine Zu (Zr HS3 hbw5) fun HS4 => ?_
     refine tk 21 ((.bool false)) HS4 ?_
     refine wpAnyH_done (by kernel_rfl) ?_ _
     refine O.then_act (B := ⟨#[.slice (some ⟨b, off, none⟩) n c, .int .i64 out, undef, undef, u4, .int .i64 j, .pointer (some ⟨wr.heap.size, 0, none⟩), .int .i64 out, .bool false, .bool false, .int .i64 out, .bool false, .bool false, .bool false, .slice (some ⟨b, off, none⟩) n c, .int .i64 n, .bool false, .bool false, .slice (some ⟨b, off, none⟩) n c, .int .i64 n, .int .i64 j, .bool true, .int .i64 j, .pointer (some ⟨b, off + j * 3, none⟩), .agg #[.int .i64 x.f, .int .i64 x.n, .int .i64 x.s], .agg #[.int .i64 x.f, .int .i64 x.n, .int .i64 x.s], .int .i64 out, .bool true, .bool false, .bool false, .pointer (some ⟨wr.heap.size, 2, none⟩), .int .i64 x.s, .bool false, .bool false, .bool false, .pointer (some ⟨wr.heap.size, 2, none⟩), .int .i64 x.s, .bool false, .bool false, .bool false, .slice (some ⟨b, off, none⟩) n c, .int .i64 j, .slice (some ⟨b, off, none⟩) j c, .agg #[.int .i64 x.f, .int .i64 x.n, .int .i64 x.s], O.clo bx, .bool false, .bool false, u47], []⟩) (by kernel_rfl) ?_
     have HB5 := Zt HB3 HS2
     have HB6 := Zt HB5 hbw5
     clear c1 c2 HS0 HS1 HS2 HS3 HS4 hbw3 hbw4 hbw5
     go_wp2
     go_roundw
     case rel => exact ⟨j + 1, by go_num, by omega, HA2, HI2, HB6⟩
     case measure => simp [intOf] <;> omega
   ·have dj : decide ((j : Int) < n) = false := by simp; omega
    obtain rfl : j = n := by omega
    have hlt2 : l.take j = l := List.take_of_length_le (by rw [HT.out.1]; exact Nat.le_refl _)
    rw [hlt2] at HA HI
    have HE : Hid (p = true) := Zh (by
     rw [<- HP.out]
     exact O.may_iff.2 ⟨h1, h2, by rw [HT.out.1]; exact h3, HA.out, HI.out⟩)
    go_wp2
    go_ret
    exact ⟨by rw [HE.out]; rfl, HB.out⟩
 ·have HE : Hid (p = false) := Zh (by
   rw [<- HP.out]
   exact O.may_no fun hm => hb ⟨hm.1, hm.2.1, by rw [<- HT.out.1]; exact hm.2.2.1⟩)
  by_cases h1 : out < 0
  ·have d1 : decide (out < 0) = true := by simpa using h1
   go_wp2
   go_ret
   exact ⟨by rw [HE.out]; rfl, Below.refl _ _⟩
  ·have d1 : decide (out < 0) = false := by simpa using h1
   by_cases h2 : 4 < out
   ·have d2 : decide (4 < out) = true := by simpa using h2
    go_wp2
    go_ret
    exact ⟨by rw [HE.out]; rfl, Below.refl _ _⟩
   ·have d2 : decide (4 < out) = false := by simpa using h2
    have d3 : decide (3 < (n : Int)) = true := by simp; omega
    go_wp2
    go_ret
    exact ⟨by rw [HE.out]; rfl, Below.refl _ _⟩
open Go.RowKit
theorem O.same_step {l k : List O.Pl} {i : Nat} {x : O.Pl} (hx : l[i]? = some x) (hy : k[i]? = some x) (h : l.take i = k.take i) : l.take (i + 1) = k.take (i + 1) := by
 obtain ⟨h0, h1⟩ := List.getElem?_eq_some_iff.1 hx
 obtain ⟨h2, h3⟩ := List.getElem?_eq_some_iff.1 hy
 rw [List.take_succ_eq_append_getElem h0, List.take_succ_eq_append_getElem h2, h, h1, h3]
theorem O.same_bad {l k : List O.Pl} {i : Nat} {x y : O.Pl} (hx : l[i]? = some x) (hy : k[i]? = some y) (h : ¬ x = y) : decide (l = k) = false := by
 refine decide_eq_false fun e => h ?_
 rw [e, hy] at hx; exact (Option.some.inj hx).symm
theorem zhe (a a' : Option Addr) (n m c c' : Nat) (l k : List O.Pl) (w : World) (h : QIn w a n c l) (h' : QIn w a' m c' k) (hn : n <= 1000000) (p : Bool) (hp : decide (l = k) = p) :
  Calls Tryz.prog 78 #[.slice a n c, .slice a' m c'] w fun e w' => e = .returned (.bool p) /\ Below w.heap.size w w' := by
 by_cases hnm : n = m
 ·subst hnm
  have HT := Zh h
  have HK := Zh h'
  have HP := Zh hp
  have dn : ((n : Int) != n) = false := by simp
  clear h h' hp
  go_enter Tryz.func78, Tryz.ntmps78
  go_wp2_with fail
  go_loopw [13] (fun i wr => ∃ k' : Nat, i = .int .i64 k' /\ k' <= n /\ Hid (l.take k' = k.take k') /\ Hid (Below w.heap.size w wr)) (fun i _ => n - (intOf i).toNat)
  case atStart => exact ⟨0, rfl, by omega, Zh (by simp), Zh (Below.refl _ _)⟩
  case round =>
   obtain ⟨i, rfl, hin, HA, HB⟩ := hrel
   by_cases hlt : i < n
   ·have d1 : decide ((i : Int) < n) = true := by simp; omega
    obtain ⟨b, off, x, rfl, hb, hx, p1, p2, p3⟩ := (HT.out.below HB.out).at hlt
    obtain ⟨b2, off2, y, rfl, hb2, hy, q1, q2, q3⟩ := (HK.out.below HB.out).at hlt
    have k0 : (0 : Int) <= i := by omega
    have k1 : (i : Int) < n := by omega
    have HX := Zh hx
    have HY := Zh hy
    clear hx hy
    by_cases hxy : x = y
    ·subst hxy
     have HE := Zh (O.same_step HX.out HY.out HA.out)
     go_wp2_with fail
     go_quiet (fail)
     go_wp2
     go_roundw
     case rel => exact ⟨i + 1, by go_num, by omega, HE, Zh (HB.out.trans (zad _ _ _))⟩
     case measure => simp [intOf] <;> omega
    ·have HE : Hid (p = false) := Zh (by rw [<- HP.out]; exact O.same_bad HX.out HY.out hxy)
     obtain ⟨x1, x2, x3⟩ := x
     obtain ⟨y1, y2, y3⟩ := y
     by_cases h1 : x1 = y1
     ·subst h1
      by_cases h2 : x2 = y2
      ·subst h2
       have h3 : ¬ x3 = y3 := fun e => hxy (by rw [e])
       go_wp2_with fail
       go_quiet (fail)
       go_wp2
       go_ret
       exact ⟨by rw [HE.out]; rfl, HB.out.trans (zad _ _ _)⟩
      ·go_wp2_with fail
       go_quiet (fail)
       go_wp2
       go_ret
       exact ⟨by rw [HE.out]; rfl, HB.out.trans (zad _ _ _)⟩
     ·go_wp2_with fail
      go_quiet (fail)
      go_wp2
      go_ret
      exact ⟨by rw [HE.out]; rfl, HB.out.trans (zad _ _ _)⟩
   ·have d1 : decide ((i : Int) < n) = false := by simp; omega
    have HE : Hid (p = true) := Zh (by
     have h1 := HA.out
     rw [List.take_of_length_le (by rw [HT.out.1]; omega), List.take_of_length_le (by rw [HK.out.1]; omega)] at h1
     rw [<- HP.out]; exact decide_eq_true h1)
    go_wp2
    go_ret
    exact ⟨by rw [HE.out]; rfl, HB.out⟩
 ·have HE : Hid (p = false) := Zh (by
   rw [<- hp]
   refine decide_eq_false fun e => hnm ?_
   rw [<- h.1, <- h'.1, e])
  have dn : ((n : Int) != m) = true := by simp; omega
  clear h h' hp hnm
  go_enter Tryz.func78, Tryz.ntmps78
  go_wp2
  go_ret
  exact ⟨by rw [HE.out]; rfl, Below.refl _ _⟩
theorem zfb (a a' : Option Addr) (n m c c' : Nat) (l k : List O.Pl) (w : World) (h : QIn w a n c l) (h' : QIn w a' m c' k) (hn : n <= 1000000) (p : Bool) (hp : decide (l = k) = p) :
  Calls Tryz.prog 34 #[.slice a n c, .slice a' m c'] w fun e w' => e = .returned (.bool p) /\ Below w.heap.size w w' := by
 have c1 := zhe a a' n m c c' l k w h h' hn p hp
 clear h h' hp
 go_enter Tryz.func34, Tryz.ntmps34
 go_wp2_with fail
 refine c1.mono ?_
 rintro e w2 ⟨rfl, hb2⟩
 go_wp2
 go_ret
 exact ⟨rfl, hb2⟩
open Go.RowKit
theorem O.of_yes {l : List O.Pl} {x : Int} {j : Nat} {p : O.Pl} (hx : l[j]? = some p) (h : ∀ q ∈ l.take j, O.has q x = false) (hp : O.has p x = true) : O.of l x = j := O.of_some hx hp h
theorem O.of_range (l : List O.Pl) (x : Int) : -1 <= O.of l x /\ O.of l x < l.length := by
 rcases O.of_cases l x with ⟨h, _⟩ | ⟨i, p, h, hi, _⟩
 ·rw [h]; omega
 ·rw [h]; have := (List.getElem?_eq_some_iff.1 hi).1; omega
theorem zdo (a : Option Addr) (n c : Nat) (l : List O.Pl) (x r : Int) (hv : O.of l x = r) (w : World) (h : QIn w a n c l) (hn : n <= 1000000) :
  Calls Tryz.prog 28 #[.slice a n c, .int .i64 x] w fun e w' => e = .returned (.int .i64 r) /\ Below w.heap.size w w' := by
 have HT := Zh h
 have HV := Zh hv
 clear h hv
 go_enter Tryz.func28, Tryz.ntmps28
 go_wp2_with fail
 go_loopw [9] (fun i wr => ∃ j : Nat, i = .int .i64 j /\ j <= n /\ Hid (∀ q ∈ l.take j, O.has q x = false) /\ Hid (Below w.heap.size w wr)) (fun i _ => n - (intOf i).toNat)
 case atStart => exact ⟨0, rfl, by omega, Zh (by simp), Zh (Below.refl _ _)⟩
 case round =>
  obtain ⟨j, rfl, hjn, HA, HB⟩ := hrel
  by_cases hlt : j < n
  ·have d1 : decide ((j : Int) < n) = true := by simp; omega
   obtain ⟨b', off, y, rfl, hbl, hx, p0, p1, p2⟩ := (HT.out.below HB.out).at hlt
   have HX := Zh hx
   have j0 : (0 : Int) <= j := by omega
   have j1 : (j : Int) < n := by omega
   obtain ⟨u, hu⟩ : ∃ u, O.has y x = u := ⟨_, rfl⟩
   have HU := Zh hu
   have c1 := fun W => zcq y x u W hu
   have HB1 := Zh (HB.out.trans ((O.box_below wr y).mono HB.out.size))
   have HY := Zh (O.box_is wr y)
   obtain ⟨W, hW⟩ : ∃ W, O.box wr y = W := ⟨_, rfl⟩
   rw [hW] at HB1 HY
   unfold O.box at hW
   have y0 := HY.out.b0
   have y1 := HY.out.b1
   have y2 := HY.out.b2
   unfold O.val at c1
   clear hu hx
   go_wp2_with fail
   refine (c1 _).mono ?_
   rintro e w2 ⟨rfl, hb2⟩
   have HB2 := Zt HB1 hb2
   clear hb2 c1 hW
   cases u with
   | true =>
    have HE : Hid (r = j) := Zh (by rw [<- HV.out]; exact O.of_yes HX.out HA.out HU.out)
    go_wp2
    go_ret
    exact ⟨by rw [HE.out]; rfl, HB2.out⟩
   | false =>
    go_wp2
    go_roundw
    case rel => exact ⟨j + 1, by go_num, by omega, Zh (O.any_snoc HX.out HA.out HU.out), HB2⟩
    case measure => simp [intOf] <;> omega
  ·have d1 : decide ((j : Int) < n) = false := by simp; omega
   have HE : Hid (r = -1) := Zh (by
    rw [<- HV.out]
    have h1 := HA.out
    rw [List.take_of_length_le (by rw [HT.out.1]; omega)] at h1
    exact O.of_none h1)
   go_wp2
   go_ret
   exact ⟨by rw [HE.out]; rfl, HB.out⟩
theorem zcr (a : Option Addr) (n c : Nat) (l : List O.Pl) (x : Int) (v : Bool) (hv : O.gives l x = v) (w : World) (h : QIn w a n c l) (hn : n <= 1000000) :
  Calls Tryz.prog 31 #[.slice a n c, .int .i64 x] w fun e w' => e = .returned (.bool v) /\ Below w.heap.size w w' := by
 have HT := Zh h
 have HV := Zh hv
 have c1 := fun r hr => zdo a n c l x r hr w h hn
 clear h hv
 rcases O.of_cases l x with ⟨hr, _⟩ | ⟨i, p, hr, hi, _⟩
 ·have c2 := c1 _ hr
  have HE : Hid (v = false) := Zh (by rw [<- HV.out]; unfold O.gives; rw [hr]; simp)
  clear c1 hr
  go_enter Tryz.func31, Tryz.ntmps31
  go_wp2_with fail
  refine c2.mono ?_
  rintro e w2 ⟨rfl, hb2⟩
  go_wp2
  go_ret
  exact ⟨by rw [HE.out]; rfl, hb2⟩
 ·have c2 := c1 _ hr
  have hin : i < n := by rw [<- HT.out.1]; exact (List.getElem?_eq_some_iff.1 hi).1
  obtain ⟨u, hu⟩ : ∃ u, decide (p.s = 0) = u := ⟨_, rfl⟩
  have HE : Hid (v = u) := Zh (by rw [<- HV.out, <- hu]; unfold O.gives; rw [O.of_at hr hi, hr]; simp)
  have HI := Zh hi
  clear c1 hr hi
  go_enter Tryz.func31, Tryz.ntmps31
  go_wp2_with fail
  refine c2.mono ?_
  rintro e w2 ⟨rfl, hb2⟩
  obtain ⟨b', off, y, rfl, hbl, hx, p0, p1, p2⟩ := (HT.out.below hb2).at hin
  obtain rfl : y = p := by have := HI.out; rw [hx] at this; exact Option.some.inj this
  have j0 : (0 : Int) <= i := by omega
  have j1 : (i : Int) < n := by omega
  have e1 : ((i : Int) != -1) = true := by simp
  have HB2 := Zh hb2
  have hu' : (y.s == 0) = u := by rw [<- hu]; simp [BEq.beq]
  clear c2 hx hb2
  go_wp2_with fail
  go_ret
  exact ⟨by rw [HE.out]; rfl, HB2.out⟩
end Go.Proofs.YtonejangijkdmaaGreat
