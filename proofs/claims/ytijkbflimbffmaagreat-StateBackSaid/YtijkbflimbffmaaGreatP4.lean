import Derived.Lib.QuietBelow
import Derived.RangeFuncBox
import Derived.RangeFuncNested
import Derived.RangeFuncBound
import Derived.RangeFuncCalls
import Derived.RangeFuncLeaves
import Derived.Shelf.Abstract
import Derived.Shelf.RegionOpen
import Derived.OwnWalkIn
import Derived.TacticsInMore
import Derived.LoopNIn
import Derived.LoopIn
import Derived.Laws.BitsLemmas
import Derived.Deep.RegionWith
import Derived.WalkMore
import Derived.Lib.RowBridge
import Derived.ArgAppend
import Derived.Laws.OwnMore
import Derived.Test.YtijkbflimbffmaaGreatP0
import Derived.Test.YtijkbflimbffmaaGreatP1
import Derived.Test.YtijkbflimbffmaaGreatP3
namespace Go.Proofs.YtijkbflimbffmaaGreat
def U.may (n u : Int) : Bool := decide (0 <= n /\ n <= 8 /\ 0 <= u /\ u < 2 ^ n.toNat)
def U.bit (u : Int) (i : Nat) : Bool := decide (u / 2 ^ i % 2 = 1)
def U.num (b : Bool) : Int := if b then 1 else 0
def U.all (n u : Int) : List (Nat × Bool) := if U.may n u then (List.range n.toNat).map fun i => (i, U.bit u i) else []
def U.at' (n u i : Int) : Int := if U.may n u && decide (0 <= i) && decide (i < n) then U.num (U.bit u i.toNat) else -1
def U.off (n u i : Int) : Bool := decide (U.at' n u i = 0)
def U.take (n u i : Int) : Int := if U.off n u i then u + 2 ^ i.toNat else u
def U.free (n u : Int) : List Int := (U.all n u).filterMap fun p => if p.2 then none else some (p.1 : Int)
def U.first (n u : Int) : Int := (U.free n u).headD (-1)
open Go.RowKit
theorem u0 {w : World} {g : Nat} {n u : Int} (h : Blok w g 281 #[.int .i64 n, .int .i64 u]) : w.cell? ⟨g, 0, none⟩ = some (.int .i64 n) := h.cell 0
theorem u1 {w : World} {g : Nat} {n u : Int} (h : Blok w g 281 #[.int .i64 n, .int .i64 u]) : w.cell? ⟨g, 1, none⟩ = some (.int .i64 u) := h.cell 1
open Go.RowKit Go.Shelf
attribute [local go_sem] Oper.semAt_some
open Go.RowKit Go.Shelf
attribute [local go_sem] Oper.semAt_some
open Go.RowKit Go.Shelf
attribute [local go_sem] Oper.semAt_some
open Go.RowKit
def U.newN (n : Int) : Int := if U.may n 0 then n else 0
end Go.Proofs.YtijkbflimbffmaaGreat
namespace Go.Proofs.YtijkbflimbffmaaGreat
end Go.Proofs.YtijkbflimbffmaaGreat
namespace Go.Proofs.YtijkbflimbffmaaGreat
open Go.RowKit
namespace L
def use1 (N at' u : Int) (x : T3) : Int := if x.a = at' then U.take N u x.b else u
def uses (N at' u : Int) (l : List T3) : Int := l.foldl (use1 N at') u
end L
namespace L
end L
open Go.RowKit
instance : L.Rec Int := ⟨1, fun x => [x], fun _ => rfl, by decide⟩
theorem L.flat_int (l : List Int) : L.flat l = l.map (Value.int .i64) := by
 induction l with
 | nil => rfl
 | cons x l ih => rw [L.flat_cons, ih]; rfl
namespace L
def sorted' (l : List Ls) : List Int := (l.map (·.a)).mergeSort fun x y => decide (x <= y)
def busy (l : List Ls) : List Int := Lib.compact (sorted' l)
theorem sorted_le (l : List Ls) : (sorted' l).Pairwise (· <= ·) := by
 unfold sorted'
 have := List.pairwise_mergeSort (le := fun x y : Int => decide (x <= y)) (fun a b c h1 h2 => by simp at *; omega) (fun a b => by simp; omega) (l.map (·.a))
 exact this.imp (fun h => by simpa using h)
theorem sorted_len (l : List Ls) : (sorted' l).length = l.length := by unfold sorted'; simp
theorem compact_facts {zs : List Int} (h : zs.Pairwise (· <= ·)) : ∀ m, m <= zs.length -> (∀ x ∈ Lib.compactUpTo zs.toArray m, ∃ j, j < m /\ zs.toArray[j]! = x) /\ (∀ j, j < m -> zs.toArray[j]! ∈ Lib.compactUpTo zs.toArray m) /\ (Lib.compactUpTo zs.toArray m).Pairwise (· < ·)
 | 0, _ => ⟨fun x hx => by simp [Lib.compactUpTo] at hx, fun j hj => by omega, by simp [Lib.compactUpTo]⟩
 | m + 1, hm => by
  obtain ⟨h1, h2, h3⟩ := compact_facts h m (by omega)
  have hle : ∀ i j, i <= j -> j < zs.length -> zs.toArray[i]! <= zs.toArray[j]! := fun i j hij hj => by
   rw [getElem!_pos _ i (by simp; omega), getElem!_pos _ j (by simpa using hj)]
   rcases Nat.eq_or_lt_of_le hij with rfl | hlt
   ·exact Int.le_refl _
   ·simpa using List.pairwise_iff_getElem.1 h i j (by omega) hj hlt
  rw [Lib.compactUpTo_succ]
  by_cases hk : Lib.keeps zs.toArray m = true
  ·rw [if_pos hk]
   refine ⟨fun x hx => ?_, fun j hj => ?_, ?_⟩
   ·rcases List.mem_append.1 hx with hx | hx
    ·obtain ⟨j, hj, e⟩ := h1 x hx; exact ⟨j, by omega, e⟩
    ·exact ⟨m, by omega, (List.mem_singleton.1 hx).symm⟩
   ·by_cases hjm : j = m
    ·subst hjm; simp
    ·exact List.mem_append_left _ (h2 j (by omega))
   ·rw [List.pairwise_append]
    refine ⟨h3, by simp, fun x hx y hy => ?_⟩
    obtain ⟨j, hj, rfl⟩ := h1 x hx
    obtain rfl : y = zs.toArray[m]! := by simpa using hy
    have hne : m = 0 \/ zs.toArray[m]! ≠ zs.toArray[m - 1]! := by simpa [Lib.keeps] using hk
    have a1 := hle j (m - 1) (by omega) (by omega)
    have a2 := hle (m - 1) m (by omega) (by omega)
    rcases hne with h0 | h0
    ·omega
    ·omega
  ·rw [if_neg hk, List.append_nil]
   have hne : ¬ (m = 0) /\ zs.toArray[m]! = zs.toArray[m - 1]! := by simpa [Lib.keeps] using hk
   refine ⟨fun x hx => ?_, fun j hj => ?_, h3⟩
   ·obtain ⟨j, hj, e⟩ := h1 x hx; exact ⟨j, by omega, e⟩
   ·by_cases hjm : j = m
    ·subst hjm; rw [hne.2]; exact h2 _ (by omega)
    ·exact h2 j (by omega)
theorem busy_mem {l : List Ls} {x : Int} : x ∈ busy l ↔ ∃ y ∈ l, y.a = x := by
 have hf := compact_facts (sorted_le l) _ (Nat.le_refl _)
 have hs : x ∈ sorted' l ↔ ∃ y ∈ l, y.a = x := by unfold sorted'; rw [List.mem_mergeSort, List.mem_map]
 rw [<- hs]
 unfold busy Lib.compact
 constructor
 ·intro h
  obtain ⟨j, hj, rfl⟩ := hf.1 x h
  rw [getElem!_pos _ j (by simpa using hj)]
  simp
 ·intro h
  obtain ⟨j, hj, rfl⟩ := List.mem_iff_getElem.1 h
  have := hf.2.1 j hj
  rw [getElem!_pos _ j (by simpa using hj)] at this
  simpa using this
theorem busy_len (l : List Ls) : (busy l).length <= l.length := by
 unfold busy; rw [<- sorted_len l]; exact Lib.compact_length_le _
theorem adr_snoc {l : List Ls} {j : Nat} {x : Ls} (hx : l[j]? = some x) : (l.take (j + 1)).map (·.a) = (l.take j).map (·.a) ++ [x.a] := by
 rw [take_snoc hx, List.map_append]; rfl
end L
end Go.Proofs.YtijkbflimbffmaaGreat
namespace Go.Proofs.YtijkbflimbffmaaGreat
set_option maxHeartbeats 400000
namespace O
structure Pl where
 f : Int
 n : Int
 s : Int
deriving DecidableEq
def zp : Pl := ⟨0, 0, 0⟩
def has (p : Pl) (x : Int) : Bool := decide (0 <= p.f /\ p.f <= 4 /\ 1 <= p.n /\ p.n <= 4 /\ p.f <= x /\ x < p.f + p.n)
def below (p : Pl) (out : Int) : Bool := decide (0 <= p.f /\ 1 <= p.n /\ p.n <= out - p.f)
def fits (p : Pl) (out : Int) : Bool := decide (0 <= p.f /\ 1 <= p.n /\ p.n <= out - p.f /\ 0 <= p.s /\ p.s < 2)
def hit (p q : Pl) : Bool := has p q.f || has q p.f
def meet (p q : Pl) : Bool := (List.range 8).any fun i => has p i && has q i
theorem has_iff {p : Pl} {x : Int} : has p x = true ↔ 0 <= p.f /\ p.f <= 4 /\ 1 <= p.n /\ p.n <= 4 /\ p.f <= x /\ x < p.f + p.n := by simp [has]
theorem below_iff {p : Pl} {out : Int} : below p out = true ↔ 0 <= p.f /\ 1 <= p.n /\ p.n <= out - p.f := by simp [below]
theorem fits_iff {p : Pl} {out : Int} : fits p out = true ↔ 0 <= p.f /\ 1 <= p.n /\ p.n <= out - p.f /\ 0 <= p.s /\ p.s < 2 := by simp [fits]
theorem hit_comm (p q : Pl) : hit p q = hit q p := by unfold hit; rw [Bool.or_comm]
def May (l : List Pl) (out : Int) : Prop := 0 <= out /\ out <= 4 /\ l.length <= 3 /\ (∀ p ∈ l, fits p out = true) /\ l.Pairwise (fun q p => hit p q = false)
instance (l : List Pl) (out : Int) : Decidable (May l out) := by unfold May; exact inferInstance
def may (l : List Pl) (out : Int) : Bool := decide (May l out)
theorem may_iff {l : List Pl} {out : Int} : may l out = true ↔ May l out := by simp [may]
theorem may_no {l : List Pl} {out : Int} (h : ¬ May l out) : may l out = false := by simpa [may] using h
def of (l : List Pl) (x : Int) : Int := match l.findIdx? (fun p => has p x) with | some i => (i : Int) | none => -1
def at' (l : List Pl) (k : Int) : Pl := l.getD k.toNat zp
def gives (l : List Pl) (x : Int) : Bool := decide (0 <= of l x /\ (at' l (of l x)).s = 0)
theorem of_none {l : List Pl} {x : Int} (h : ∀ p ∈ l, has p x = false) : of l x = -1 := by
 unfold of
 rw [List.findIdx?_eq_none_iff.2 (fun p hp => by rw [h p hp])]
theorem of_some {l : List Pl} {x : Int} {i : Nat} {p : Pl} (hi : l[i]? = some p) (hp : has p x = true) (hb : ∀ q ∈ l.take i, has q x = false) : of l x = i := by
 unfold of
 obtain ⟨h0, h1⟩ := List.getElem?_eq_some_iff.1 hi
 rw [List.findIdx?_eq_some_iff_getElem.2 ⟨h0, by rw [h1]; exact hp, fun j hj => by
  rw [hb (l[j]'(by omega)) (List.mem_take_iff_getElem.2 ⟨j, by omega, rfl⟩)]; decide⟩]
theorem of_cases (l : List Pl) (x : Int) : (of l x = -1 /\ ∀ p ∈ l, has p x = false) \/ ∃ (i : Nat) (p : Pl), of l x = i /\ l[i]? = some p /\ has p x = true /\ ∀ q ∈ l.take i, has q x = false := by
 by_cases h : ∀ p ∈ l, has p x = false
 ·exact .inl ⟨of_none h, h⟩
 ·right
  have h2 : l.findIdx? (fun p => has p x) ≠ none := fun e => h (fun p hp => by simpa using List.findIdx?_eq_none_iff.1 e p hp)
  obtain ⟨i, hi⟩ := Option.ne_none_iff_exists'.1 h2
  obtain ⟨h3, h4, h5⟩ := List.findIdx?_eq_some_iff_getElem.1 hi
  refine ⟨i, l[i], by unfold of; rw [hi], List.getElem?_eq_getElem h3, h4, fun q hq => ?_⟩
  obtain ⟨j, hj, rfl⟩ := List.mem_take_iff_getElem.1 hq
  have := h5 j (by omega)
  simpa using this
theorem at_some {l : List Pl} {k : Nat} {p : Pl} (h : l[k]? = some p) : at' l k = p := by
 unfold at'; rw [Int.toNat_natCast, List.getD_eq_getElem?_getD, h]; rfl
def loses (was will : Pl) (busy : List Int) : Bool := busy.any fun x => has was x && !has will x
def add (l : List Pl) (out f n : Int) : List Pl × Int :=
 if may l out = false \/ below ⟨f, n, 0⟩ out = false then (l, 1)
 else if l.any (fun q => hit ⟨f, n, 0⟩ q) = true then (l, 11)
 else if l.length = 3 then (l, 9) else (l ++ [⟨f, n, 0⟩], 0)
def drain (l : List Pl) (out k : Int) : List Pl × Int :=
 if may l out = false then (l, 1)
 else if k < 0 \/ (l.length : Int) <= k then (l, 5)
 else if (at' l k).s = 1 then (l, 11) else (l.set k.toNat { at' l k with s := 1 }, 0)
def size (l : List Pl) (out k n : Int) (busy : List Int) : List Pl × Int :=
 if may l out = false then (l, 1)
 else if k < 0 \/ (l.length : Int) <= k then (l, 5)
 else if below { at' l k with n := n } out = false then (l, 1)
 else if (l.eraseIdx k.toNat).any (fun q => hit { at' l k with n := n } q) = true then (l, 11)
 else if loses (at' l k) { at' l k with n := n } busy = true then (l, 12)
 else (l.set k.toNat { at' l k with n := n }, 0)
def gone (l : List Pl) (out k : Int) (busy : List Int) : List Pl × Int :=
 if may l out = false then (l, 1)
 else if k < 0 \/ (l.length : Int) <= k then (l, 5)
 else if (at' l k).s = 0 \/ loses (at' l k) zp busy = true then (l, 12)
 else (l.eraseIdx k.toNat, 0)
end O
open Go.RowKit
def O.cells (t : O.Pl) : List Value := [.int .i64 t.f, .int .i64 t.n, .int .i64 t.s]
def O.flat (l : List O.Pl) : List Value := l.flatMap O.cells
theorem O.flat_cons (t : O.Pl) (l : List O.Pl) : O.flat (t :: l) = .int .i64 t.f :: .int .i64 t.n :: .int .i64 t.s :: O.flat l := rfl
theorem O.flat_append (l k : List O.Pl) : O.flat (l ++ k) = O.flat l ++ O.flat k := by simp [O.flat]
theorem O.flat_len (l : List O.Pl) : (O.flat l).length = l.length * 3 := by
 induction l with
 | nil => rfl
 | cons t l ih => rw [O.flat_cons]; simp [ih]; omega
theorem O.flat_at : ∀ (l : List O.Pl) (i : Nat) (x : O.Pl), l[i]? = some x -> (O.flat l)[i * 3]? = some (.int .i64 x.f) /\ (O.flat l)[i * 3 + 1]? = some (.int .i64 x.n) /\ (O.flat l)[i * 3 + 2]? = some (.int .i64 x.s)
 | [], _, _, h => by simp at h
 | y :: l, 0, x, h => by
  obtain rfl : y = x := by simpa using h
  exact ⟨rfl, rfl, rfl⟩
 | y :: l, i + 1, x, h => by
  have := O.flat_at l i x (by simpa using h)
  have e : (i + 1) * 3 = i * 3 + 3 := by omega
  rw [e, O.flat_cons]
  exact this
theorem O.flat_one (l : List O.Pl) : ∀ u ∈ O.flat l, u.oneCell' = true := by
 intro u hu
 obtain ⟨t, _, ht⟩ := List.mem_flatMap.1 hu
 simp only [O.cells, List.mem_cons, List.not_mem_nil, or_false] at ht
 rcases ht with rfl | rfl | rfl <;> rfl
theorem O.flat_some {l : List O.Pl} {j : Nat} {u : Value} (h : (O.flat l)[j]? = some u) : ∃ i x, l[i]? = some x /\ (j = i * 3 /\ u = .int .i64 x.f \/ j = i * 3 + 1 /\ u = .int .i64 x.n \/ j = i * 3 + 2 /\ u = .int .i64 x.s) := by
 have hj : j < l.length * 3 := by rw [<- O.flat_len]; exact (List.getElem?_eq_some_iff.1 h).1
 have hi : j / 3 < l.length := by omega
 have hx := List.getElem?_eq_getElem hi
 have h2 := O.flat_at l (j / 3) _ hx
 refine ⟨j / 3, _, hx, ?_⟩
 have h3 : j % 3 = 0 \/ j % 3 = 1 \/ j % 3 = 2 := by omega
 rcases h3 with h0 | h0 | h0
 ·refine .inl ⟨by omega, ?_⟩
  have e : j / 3 * 3 = j := by omega
  rw [e, h] at h2
  exact Option.some.inj h2.1
 ·refine .inr (.inl ⟨by omega, ?_⟩)
  have e : j / 3 * 3 + 1 = j := by omega
  rw [e, h] at h2
  exact Option.some.inj h2.2.1
 ·refine .inr (.inr ⟨by omega, ?_⟩)
  have e : j / 3 * 3 + 2 = j := by omega
  rw [e, h] at h2
  exact Option.some.inj h2.2.2
def QIn (w : World) (a : Option Addr) (n c : Nat) (l : List O.Pl) : Prop :=
 l.length = n /\ (n <= c /\ c <= maxLen) /\ (a = none -> n = 0 /\ c = 0) /\ (l = [] \/ ∃ b off, a = some ⟨b, off, none⟩ /\ b < w.heap.size /\ ∀ i x, l[i]? = some x -> w.cell? ⟨b, off + i * 3, none⟩ = some (.int .i64 x.f) /\ w.cell? ⟨b, off + i * 3 + 1, none⟩ = some (.int .i64 x.n) /\ w.cell? ⟨b, off + i * 3 + 2, none⟩ = some (.int .i64 x.s))
theorem QIn.grown {w w' : World} {a : Option Addr} {n c : Nat} {l : List O.Pl} {row : Option Nat} (h : QIn w a n c l) (hg : w.grownBy w' row) (hr : ∀ x, a = some x -> some x.block ≠ row) : QIn w' a n c l := by
 refine ⟨h.1, h.2.1, h.2.2.1, ?_⟩
 rcases h.2.2.2 with h0 | ⟨b, off, rfl, hlt, hc⟩
 ·exact .inl h0
 ·refine .inr ⟨b, off, rfl, Nat.lt_of_lt_of_le hlt hg.size, fun i x hi => ?_⟩
  have hb : ∀ o, w'.cell? ⟨b, o, none⟩ = w.cell? ⟨b, o, none⟩ := fun o => by unfold World.cell?; rw [hg.block b hlt (hr _ rfl)]
  rw [hb, hb, hb]; exact hc i x hi
theorem QIn.on {w w' : World} {a : Option Addr} {n c : Nat} {l : List O.Pl} (h : QIn w a n c l) (hg : w.grownBy w' none) : QIn w' a n c l := h.grown hg (by simp)
theorem QIn.below {w w' : World} {a : Option Addr} {n c : Nat} {l : List O.Pl} (h : QIn w a n c l) (hb : Below w.heap.size w w') : QIn w' a n c l :=
 h.on ⟨hb.os, hb.tape, hb.output, hb.size, fun i hi _ => hb.block i hi⟩
theorem QIn.nil (w : World) : QIn w none 0 0 [] := ⟨rfl, ⟨Nat.le_refl _, by simp [maxLen]⟩, fun _ => ⟨rfl, rfl⟩, .inl rfl⟩
theorem QIn.at {w : World} {a : Option Addr} {n c i : Nat} {l : List O.Pl} (h : QIn w a n c l) (hi : i < n) :
  ∃ b off x, a = some ⟨b, off, none⟩ /\ b < w.heap.size /\ l[i]? = some x /\ w.cell? ⟨b, off + i * 3, none⟩ = some (.int .i64 x.f) /\ w.cell? ⟨b, off + i * 3 + 1, none⟩ = some (.int .i64 x.n) /\ w.cell? ⟨b, off + i * 3 + 2, none⟩ = some (.int .i64 x.s) := by
 rcases h.2.2.2 with rfl | ⟨b, off, rfl, hb, hc⟩
 ·have := h.1; simp at this; omega
 ·have hx := List.getElem?_eq_getElem (show i < l.length by rw [h.1]; exact hi)
  exact ⟨b, off, _, rfl, hb, hx, (hc i _ hx).1, (hc i _ hx).2.1, (hc i _ hx).2.2⟩
theorem QIn.take {w : World} {a : Option Addr} {n c : Nat} {l : List O.Pl} (h : QIn w a n c l) (j : Nat) (hj : j <= n) : QIn w a j c (l.take j) := by
 refine ⟨by have := h.1; simp; omega, ⟨by have := h.2.1; omega, h.2.1.2⟩, fun ha => ?_, ?_⟩
 ·have := h.2.2.1 ha; omega
 ·rcases h.2.2.2 with rfl | ⟨b, off, rfl, hb, hc⟩
  ·exact .inl (by simp)
  ·refine .inr ⟨b, off, rfl, hb, fun i x hi => hc i x ?_⟩
   rw [List.getElem?_take] at hi
   split at hi
   ·exact hi
   ·cases hi
theorem zbq {w : World} {B n : Nat} {v : Value} {l : List O.Pl} (h : w.ownsRow B 111 3 v n (O.flat l)) (hn : l.length = n) : ∃ a c, v = .slice a n c /\ QIn w a n c l := by
 rcases h.2 with ⟨rfl, h0⟩ | ⟨g, cap, cur, rfl, _, hg, hle, hm, _⟩
 ·obtain rfl : l = [] := List.eq_nil_of_length_eq_zero (by omega)
  exact ⟨none, 0, by rw [h0], by rw [h0]; exact QIn.nil w⟩
 ·refine ⟨_, cap, rfl, hn, ⟨by omega, hm⟩, fun h => (by cases h), .inr ⟨g, 0, rfl, (Array.getElem?_eq_some_iff.1 hg).1, fun i x hi => ?_⟩⟩
  obtain ⟨f1, f2, f3⟩ := O.flat_at l i x hi
  have c1 := h.cells (g := g) rfl _ _ f1
  have c2 := h.cells (g := g) rfl _ _ f2
  have c3 := h.cells (g := g) rfl _ _ f3
  rw [WideShapes.add_plain] at c1 c2 c3
  exact ⟨c1, by rw [Nat.add_assoc]; exact c2, by rw [Nat.add_assoc]; exact c3⟩
theorem zip : (Tryz.prog.info? 111).map (fun i => (i.zero, i.size, i.bytes)) = some (some (.agg #[.int .i64 0, .int .i64 0, .int .i64 0]), 3, 24) := by kernel_rfl
namespace O
def box (w : World) (x : Pl) : World := w.alloc (.cells #[.int .i64 x.f, .int .i64 x.n, .int .i64 x.s] 111)
theorem box_below (w : World) (x : Pl) : Below w.heap.size w (box w x) := (Below.refl _ w).alloc (Nat.le_refl _) _
theorem box_size (w : World) (x : Pl) : (box w x).heap.size = w.heap.size + 1 := by simp [box]
def Bx (w : World) (b : Nat) (x : Pl) : Prop := Blok w b 111 #[.int .i64 x.f, .int .i64 x.n, .int .i64 x.s]
theorem box_is (w : World) (x : Pl) : Bx (box w x) w.heap.size x := Blok.new _ _ _
theorem Bx.b0 {V : World} {b : Nat} {x : Pl} (h : Bx V b x) : V.cell? ⟨b, 0, none⟩ = some (.int .i64 x.f) := Blok.cell h 0
theorem Bx.b1 {V : World} {b : Nat} {x : Pl} (h : Bx V b x) : V.cell? ⟨b, 1, none⟩ = some (.int .i64 x.n) := Blok.cell h 1
theorem Bx.b2 {V : World} {b : Nat} {x : Pl} (h : Bx V b x) : V.cell? ⟨b, 2, none⟩ = some (.int .i64 x.s) := Blok.cell h 2
theorem Bx.on {V V' : World} {b : Nat} {x : Pl} (h : Bx V b x) (hb : Below V.heap.size V V') : Bx V' b x := Blok.below h hb (Blok.lt h)
def val (x : Pl) : Value := .agg #[.int .i64 x.f, .int .i64 x.n, .int .i64 x.s]
end O
open Go.RowKit
theorem zcq (x : O.Pl) (y : Int) (v : Bool) (w : World) (hv : O.has x y = v) :
  Calls Tryz.prog 199 #[O.val x, .int .i64 y] w fun e w' => e = .returned (.bool v) /\ Below w.heap.size w w' := by
 have HB := Zh (O.box_below w x)
 unfold O.box at HB
 unfold O.val
 go_enter Tryz.func199, Tryz.ntmps199
 by_cases k1 : x.f < 0
 ·have d1 : decide (x.f < 0) = true := by simpa using k1
  have HE : Hid (v = false) := Zh (by rw [<- hv]; simp [O.has]; omega)
  go_wp2
  go_ret
  exact ⟨by rw [HE.out]; rfl, HB.out⟩
 ·have d1 : decide (x.f < 0) = false := by simpa using k1
  by_cases k2 : 4 < x.f
  ·have d2 : decide (4 < x.f) = true := by simpa using k2
   have HE : Hid (v = false) := Zh (by rw [<- hv]; simp [O.has]; omega)
   go_wp2
   go_ret
   exact ⟨by rw [HE.out]; rfl, HB.out⟩
  ·have d2 : decide (4 < x.f) = false := by simpa using k2
   by_cases k3 : x.n < 1
   ·have d3 : decide (x.n < 1) = true := by simpa using k3
    have HE : Hid (v = false) := Zh (by rw [<- hv]; simp [O.has]; omega)
    go_wp2
    go_ret
    exact ⟨by rw [HE.out]; rfl, HB.out⟩
   ·have d3 : decide (x.n < 1) = false := by simpa using k3
    by_cases k4 : 4 < x.n
    ·have d4 : decide (4 < x.n) = true := by simpa using k4
     have HE : Hid (v = false) := Zh (by rw [<- hv]; simp [O.has]; omega)
     go_wp2
     go_ret
     exact ⟨by rw [HE.out]; rfl, HB.out⟩
    ·have d4 : decide (4 < x.n) = false := by simpa using k4
     have hw : IntKind.i64.wrap (x.f + x.n) = x.f + x.n := IntWalk.i64_in _ (by omega)
     by_cases k5 : x.f <= y
     ·have d5 : decide (x.f <= y) = true := by simpa using k5
      by_cases k6 : y < x.f + x.n
      ·have d6 : decide (y < x.f + x.n) = true := by simpa using k6
       have HE : Hid (v = true) := Zh (by rw [<- hv]; simp [O.has]; omega)
       go_wp2
       go_ret
       exact ⟨by rw [HE.out]; rfl, HB.out⟩
      ·have d6 : decide (y < x.f + x.n) = false := by simpa using k6
       have HE : Hid (v = false) := Zh (by rw [<- hv]; simp [O.has]; omega)
       go_wp2
       go_ret
       exact ⟨by rw [HE.out]; rfl, HB.out⟩
     ·have d5 : decide (x.f <= y) = false := by simpa using k5
      have HE : Hid (v = false) := Zh (by rw [<- hv]; simp [O.has]; omega)
      go_wp2
      go_ret
      exact ⟨by rw [HE.out]; rfl, HB.out⟩
theorem za1 (x : O.Pl) (out : Int) (v : Bool) (w : World) (hv : O.below x out = v) (ho : 0 <= out /\ out <= 4) (hx : x.f <= 9223372036854775807) :
  Calls Tryz.prog 146 #[O.val x, .int .i64 out] w fun e w' => e = .returned (.bool v) /\ Below w.heap.size w w' := by
 have HB := Zh (O.box_below w x)
 unfold O.box at HB
 unfold O.val
 go_enter Tryz.func146, Tryz.ntmps146
 by_cases k1 : 0 <= x.f
 ·have d1 : decide (0 <= x.f) = true := by simpa using k1
  by_cases k2 : 1 <= x.n
  ·have d2 : decide (1 <= x.n) = true := by simpa using k2
   have hw : IntKind.i64.wrap (out - x.f) = out - x.f := IntWalk.i64_in _ (by omega)
   by_cases k3 : x.n <= out - x.f
   ·have d3 : decide (x.n <= out - x.f) = true := by simpa using k3
    have HE : Hid (v = true) := Zh (by rw [<- hv]; simp [O.below]; omega)
    go_wp2
    go_ret
    exact ⟨by rw [HE.out]; rfl, HB.out⟩
   ·have d3 : decide (x.n <= out - x.f) = false := by simpa using k3
    have HE : Hid (v = false) := Zh (by rw [<- hv]; simp [O.below]; omega)
    go_wp2
    go_ret
    exact ⟨by rw [HE.out]; rfl, HB.out⟩
  ·have d2 : decide (1 <= x.n) = false := by simpa using k2
   have HE : Hid (v = false) := Zh (by rw [<- hv]; simp [O.below]; omega)
   go_wp2
   go_ret
   exact ⟨by rw [HE.out]; rfl, HB.out⟩
 ·have d1 : decide (0 <= x.f) = false := by simpa using k1
  have HE : Hid (v = false) := Zh (by rw [<- hv]; simp [O.below]; omega)
  go_wp2
  go_ret
  exact ⟨by rw [HE.out]; rfl, HB.out⟩
open Go.RowKit
theorem zlm (p q : O.Pl) (v : Bool) (hv : O.hit p q = v) (w : World) (b : Nat) (hb : O.Bx w b p) :
  Calls Tryz.prog 198 #[O.val q, .pointer (some ⟨b, 0, none⟩)] w fun e w' => e = .returned (.bool v) /\ Below w.heap.size w w' := by
 have HV := Zh hv
 have HP := Zh (hb.on (O.box_below w q))
 have HQ := Zh (O.box_is w q)
 have HB := Zh (O.box_below w q)
 obtain ⟨W, hW⟩ : ∃ W, O.box w q = W := ⟨_, rfl⟩
 rw [hW] at HP HQ HB
 unfold O.box at hW
 have p0 := HP.out.b0
 have p1 := HP.out.b1
 have p2 := HP.out.b2
 have q0 := HQ.out.b0
 have q1 := HQ.out.b1
 have q2 := HQ.out.b2
 obtain ⟨u1, hu1⟩ : ∃ u, O.has p q.f = u := ⟨_, rfl⟩
 obtain ⟨u2, hu2⟩ : ∃ u, O.has q p.f = u := ⟨_, rfl⟩
 have HU : Hid (v = (u1 || u2)) := Zh (by rw [<- HV.out, <- hu1, <- hu2]; rfl)
 have c1 := zcq p q.f u1 W hu1
 have U2 := Zh hu2
 unfold O.val at c1 ⊢
 clear hv hb hu1 hu2
 go_enter Tryz.func198, Tryz.ntmps198
 go_wp2_with fail
 refine c1.mono ?_
 rintro e w1 ⟨rfl, hb1⟩
 have HB1 := Zt HB hb1
 have HP1 := Zh (HP.out.on hb1)
 have HQ1 := Zh (HQ.out.on hb1)
 clear p0 p1 p2 q0 q1 q2 hb1 c1 hW HP HQ
 have p0 := HP1.out.b0
 have p1 := HP1.out.b1
 have p2 := HP1.out.b2
 have q0 := HQ1.out.b0
 have q1 := HQ1.out.b1
 have q2 := HQ1.out.b2
 cases u1 with
 | true =>
  go_wp2
  go_ret
  exact ⟨by rw [HU.out]; rfl, HB1.out⟩
 | false =>
  have c2 := zcq q p.f u2 w1 U2.out
  unfold O.val at c2
  go_wp2_with fail
  refine c2.mono ?_
  rintro e w2 ⟨rfl, hb2⟩
  go_wp2
  go_ret
  exact ⟨by rw [HU.out]; rfl, HB1.out.trans (hb2.mono HB1.out.size)⟩
def O.clo (b : Nat) : Value := .func (.func 198) #[] #[.pointer (some ⟨b, 0, none⟩)]
theorem za7 (p : O.Pl) (w : World) : Calls Tryz.prog 148 #[O.val p] w fun e w' => ∃ b, e = .returned (O.clo b) /\ Hid (O.Bx w' b p) /\ Below w.heap.size w w' := by
 have HB := Zh (O.box_below w p)
 have HX := Zh (O.box_is w p)
 unfold O.val
 go_enter Tryz.func148, Tryz.ntmps148
 go_wp2
 go_ret
 exact ⟨w.heap.size, rfl, HX, HB.out⟩
theorem O.any_snoc {f : O.Pl -> Bool} {l : List O.Pl} {j : Nat} {x : O.Pl} (hx : l[j]? = some x) (h : ∀ q ∈ l.take j, f q = false) (h2 : f x = false) : ∀ q ∈ l.take (j + 1), f q = false := by
 intro q hq
 obtain ⟨h0, h1⟩ := List.getElem?_eq_some_iff.1 hx
 rw [List.take_succ_eq_append_getElem h0, List.mem_append, List.mem_singleton, h1] at hq
 rcases hq with hq | rfl
 ·exact h q hq
 ·exact h2
theorem O.any_yes {f : O.Pl -> Bool} {l : List O.Pl} {j : Nat} {x : O.Pl} (hx : l[j]? = some x) (h : f x = true) : l.any f = true :=
 List.any_eq_true.2 ⟨x, List.mem_of_getElem? hx, h⟩
theorem O.any_no {f : O.Pl -> Bool} {l : List O.Pl} (h : ∀ q ∈ l, f q = false) : l.any f = false := by
 rw [Bool.eq_false_iff]; intro h1
 obtain ⟨x, hx, h2⟩ := List.any_eq_true.1 h1
 rw [h x hx] at h2; cases h2
theorem zka (a : Option Addr) (n c : Nat) (l : List O.Pl) (p : O.Pl) (b : Nat) (v : Bool) (hv : l.any (O.hit p) = v) (w : World) (h : QIn w a n c l) (hb : O.Bx w b p) (hn : n <= 1000000) :
  Calls Tryz.prog 197 #[.slice a n c, O.clo b] w fun e w' => (∃ r : Int, e = .returned (.int .i64 r) /\ Hid (decide (0 <= r) = v)) /\ Below w.heap.size w w' := by
 have HT := Zh h
 have HV := Zh hv
 have HP := Zh hb
 clear h hv hb
 unfold O.clo
 go_enter Tryz.func197, Tryz.ntmps197
 go_wp2_with fail
 go_loopw [8] (fun i wr => ∃ j : Nat, i = .int .i64 j /\ j <= n /\ Hid (∀ q ∈ l.take j, O.hit p q = false) /\ Hid (Below w.heap.size w wr)) (fun i _ => n - (intOf i).toNat)
 case atStart => exact ⟨0, rfl, by omega, Zh (by simp), Zh (Below.refl _ _)⟩
 case round =>
  obtain ⟨j, rfl, hjn, HA, HB⟩ := hrel
  by_cases hlt : j < n
  ·have d1 : decide ((j : Int) < n) = true := by simp; omega
   obtain ⟨b', off, x, rfl, hbl, hx, p0, p1, p2⟩ := (HT.out.below HB.out).at hlt
   have HX := Zh hx
   have j0 : (0 : Int) <= j := by omega
   have j1 : (j : Int) < n := by omega
   have HPr := Zh (HP.out.on HB.out)
   obtain ⟨u, hu⟩ : ∃ u, O.hit p x = u := ⟨_, rfl⟩
   have HU := Zh hu
   have c1 := zlm p x u hu wr b HPr.out
   unfold O.val at c1
   clear hu hx
   go_wp2_with fail
   refine c1.mono ?_
   rintro e w2 ⟨rfl, hb2⟩
   have HB2 := Zt HB hb2
   clear hb2 c1
   cases u with
   | true =>
    go_wp2
    go_ret
    exact ⟨⟨j, rfl, Zh (by rw [<- HV.out, O.any_yes HX.out HU.out]; simp)⟩, HB2.out⟩
   | false =>
    go_wp2
    go_roundw
    case rel => exact ⟨j + 1, by go_num, by omega, Zh (O.any_snoc HX.out HA.out HU.out), HB2⟩
    case measure => simp [intOf] <;> omega
  ·have d1 : decide ((j : Int) < n) = false := by simp; omega
   have HE : Hid (v = false) := Zh (by
    rw [<- HV.out]
    have h1 := HA.out
    rw [List.take_of_length_le (by rw [HT.out.1]; omega)] at h1
    exact O.any_no h1)
   go_wp2
   go_ret
   exact ⟨⟨-1, rfl, Zh (by rw [HE.out]; decide)⟩, HB.out⟩
theorem zbu (a : Option Addr) (n c : Nat) (l : List O.Pl) (p : O.Pl) (b : Nat) (v : Bool) (hv : l.any (O.hit p) = v) (w : World) (h : QIn w a n c l) (hb : O.Bx w b p) (hn : n <= 1000000) :
  Calls Tryz.prog 147 #[.slice a n c, O.clo b] w fun e w' => e = .returned (.bool v) /\ Below w.heap.size w w' := by
 have c1 := zka a n c l p b v hv w h hb hn
 unfold O.clo at c1 ⊢
 clear h hb hv
 go_enter Tryz.func147, Tryz.ntmps147
 go_wp2_with fail
 refine c1.mono ?_
 rintro e w2 ⟨⟨r, rfl, hr⟩, hb2⟩
 go_wp2
 go_ret
 exact ⟨by rw [hr.out]; rfl, hb2⟩
namespace O
def Apart (l : List Pl) : Prop := l.Pairwise (fun q p => hit p q = false)
def seek (l : List Pl) (out k : Int) : Int := if may l out = false then 1 else if k < 0 \/ (l.length : Int) <= k then 5 else 0
theorem seek_ok {l : List Pl} {out k : Int} : seek l out k = 0 ↔ may l out = true /\ 0 <= k /\ k < l.length := by
 unfold seek
 cases may l out
 ·simp
 ·by_cases h : k < 0 \/ (l.length : Int) <= k
  ·simp [h]; omega
  ·simp [h]; omega
theorem drain_no {l : List Pl} {out k : Int} (h : seek l out k ≠ 0) : drain l out k = (l, seek l out k) := by
 unfold seek at h ⊢; unfold drain
 by_cases h1 : may l out = false
 ·rw [if_pos h1, if_pos h1]
 ·rw [if_neg h1] at h; rw [if_neg h1, if_neg h1]
  by_cases h2 : k < 0 \/ (l.length : Int) <= k
  ·rw [if_pos h2, if_pos h2]
  ·rw [if_neg h2] at h; exact absurd rfl h
theorem drain_yes {l : List Pl} {out k : Int} (h : seek l out k = 0) : drain l out k = if (at' l k).s = 1 then (l, 11) else (l.set k.toNat { at' l k with s := 1 }, 0) := by
 obtain ⟨h1, h2, h3⟩ := seek_ok.1 h
 unfold drain
 rw [if_neg (by rw [h1]; decide), if_neg (by omega)]
theorem size_no {l : List Pl} {out k n : Int} {busy : List Int} (h : seek l out k ≠ 0) : size l out k n busy = (l, seek l out k) := by
 unfold seek at h ⊢; unfold size
 by_cases h1 : may l out = false
 ·rw [if_pos h1, if_pos h1]
 ·rw [if_neg h1] at h; rw [if_neg h1, if_neg h1]
  by_cases h2 : k < 0 \/ (l.length : Int) <= k
  ·rw [if_pos h2, if_pos h2]
  ·rw [if_neg h2] at h; exact absurd rfl h
theorem size_yes {l : List Pl} {out k n : Int} {busy : List Int} (h : seek l out k = 0) : size l out k n busy = if below { at' l k with n := n } out = false then (l, 1)
  else if (l.eraseIdx k.toNat).any (fun q => hit { at' l k with n := n } q) = true then (l, 11)
  else if loses (at' l k) { at' l k with n := n } busy = true then (l, 12)
  else (l.set k.toNat { at' l k with n := n }, 0) := by
 obtain ⟨h1, h2, h3⟩ := seek_ok.1 h
 unfold size
 rw [if_neg (by rw [h1]; decide), if_neg (by omega)]
theorem gone_no {l : List Pl} {out k : Int} {busy : List Int} (h : seek l out k ≠ 0) : gone l out k busy = (l, seek l out k) := by
 unfold seek at h ⊢; unfold gone
 by_cases h1 : may l out = false
 ·rw [if_pos h1, if_pos h1]
 ·rw [if_neg h1] at h; rw [if_neg h1, if_neg h1]
  by_cases h2 : k < 0 \/ (l.length : Int) <= k
  ·rw [if_pos h2, if_pos h2]
  ·rw [if_neg h2] at h; exact absurd rfl h
theorem gone_yes {l : List Pl} {out k : Int} {busy : List Int} (h : seek l out k = 0) : gone l out k busy = if (at' l k).s = 0 \/ loses (at' l k) zp busy = true then (l, 12) else (l.eraseIdx k.toNat, 0) := by
 obtain ⟨h1, h2, h3⟩ := seek_ok.1 h
 unfold gone
 rw [if_neg (by rw [h1]; decide), if_neg (by omega)]
theorem fits_zero (f n out : Int) : fits ⟨f, n, 0⟩ out = below ⟨f, n, 0⟩ out := by
 rw [Bool.eq_iff_iff, fits_iff, below_iff]
 show (0 <= f /\ 1 <= n /\ n <= out - f /\ (0 : Int) <= 0 /\ (0 : Int) < 2) ↔ (0 <= f /\ 1 <= n /\ n <= out - f)
 omega
theorem fits_n {p : Pl} {n out : Int} (h : 0 <= p.s /\ p.s < 2) : fits { p with n := n } out = below { p with n := n } out := by
 rw [Bool.eq_iff_iff, fits_iff, below_iff]; constructor <;> intro h2
 ·exact ⟨h2.1, h2.2.1, h2.2.2.1⟩
 ·exact ⟨h2.1, h2.2.1, h2.2.2, h.1, h.2⟩
theorem may_small {l : List Pl} {out : Int} {x : Pl} (hm : May l out) (hx : x ∈ l) : 0 <= x.s /\ x.s < 2 := by
 have := fits_iff.1 (hm.2.2.2.1 x hx); exact ⟨this.2.2.2.1, this.2.2.2.2⟩
theorem zp_has (y : Int) : has zp y = false := by
 rw [Bool.eq_false_iff]; intro h; have := has_iff.1 h; simp [zp] at this
theorem loses_zp (x : Pl) (bs : List Int) : loses x zp bs = bs.any (has x) := by
 unfold loses
 congr 1
 funext y
 rw [zp_has]; simp
def Sm (l : List Pl) : Prop := ∀ x ∈ l, x.f <= 9223372036854775807
end O
end Go.Proofs.YtijkbflimbffmaaGreat
