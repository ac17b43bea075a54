import Derived.Deep.AppendLies
import Derived.Laws.BitsLemmas
import Derived.Laws.OwnMore
import Derived.Maps.AppendAt
import Derived.ArgAppend
import Derived.Test.YtnbkkjcmblfhpaaGreatP20
import Derived.Test.YtnbkkjcmblfhpaaGreatP12
import Derived.Test.YtnbkkjcmblfhpaaGreatP6
import Derived.Test.YtnbkkjcmblfhpaaGreatP0
import Derived.Test.YtnbkkjcmblfhpaaGreatP8
import Derived.Test.YtnbkkjcmblfhpaaGreatP7
namespace Go.Proofs.YtnbkkjcmblfhpaaGreat
open Go.RowKit
theorem zr3 (a : Option Addr) (len cap : Nat) (L : List Int) (w : World) (h9 : len <= 90000) (hlen : L.length = len) (h : zfv .u8 w a cap L) (hnil : a = none -> len = 0 /\ cap = 0) :
  Calls Tryz.prog 58 #[.slice a len cap] w fun e w' => ∃ A', e = .returned (.tuple #[Y.val ((J.read L).getD J.s00) A', .bool (J.read L).isSome]) /\ Hid (J.Got w' w.heap.size ((J.read L).getD J.s00) A') /\ Below w.heap.size w w' := (callsIn_wide (n := 8)).1 (zsl 8 (by omega) a len cap L w h9 hlen h hnil)
theorem znb (t : Y.St) (v : Bool) (a : Option Addr) (len cap : Nat) (L : List Int) (ht : (J.read L).getD J.s00 = t) (hv : (J.read L).isSome = v) (w : World) (h9 : len <= 90000) (hlen : L.length = len) (h : zfv .u8 w a cap L) (hnil : a = none -> len = 0 /\ cap = 0) :
  Calls Tryz.prog 58 #[.slice a len cap] w fun e w' => ∃ (xap : Option Addr) (xnp xcp : Nat) (xal : Option Addr) (xnl xcl : Nat) (xah : Option Addr) (xnh xch : Nat), e = .returned (.tuple #[.agg #[.int .i64 t.d.b, .int .i64 t.d.k, .int .i64 t.d.c, .int .i64 t.d.j, .int .i64 t.d.lo, .int .i64 t.d.hi, .int .i64 t.d.dy, .int .i64 t.d.bl, .int .i64 t.p.q, .int .i64 t.p.i, .int .i64 t.p.h, .bool t.p.pair, .int .i64 t.now, .slice xap xnp xcp, .slice xal xnl xcl, .slice xah xnh xch], .bool v]) /\ Hid (J.Got w' w.heap.size t ⟨xap, xnp, xcp, xal, xnl, xcl, xah, xnh, xch⟩) /\ Below w.heap.size w w' := by
 subst ht hv
 refine (zr3 a len cap L w h9 hlen h hnil).mono ?_
 rintro e w' ⟨⟨xap, xnp, xcp, xal, xnl, xcl, xah, xnh, xch⟩, rfl, hG, hb⟩
 exact ⟨xap, xnp, xcp, xal, xnl, xcl, xah, xnh, xch, rfl, hG, hb⟩
end Go.Proofs.YtnbkkjcmblfhpaaGreat
namespace Go.Proofs.YtnbkkjcmblfhpaaGreat
open Go.RowKit
theorem J.zx {P : Program} {ops : Array Oper} {rest : List Oper} {o : Oper} {a : Act} {w w' : World} {Q : Exit -> Act -> World -> Prop} {g : Nat} {t ty : TypeId} {x y : Operand} {old cells : Array Value} (hk : Blok w g t old) (hw : w.setRow g cells = w')
  (h : wpList P ops Q rest (a.put o.dst undef) w') (hgd : o.guard = none := by with_unfolding_all exact rfl) (ho : o.op = .store ty x y := by with_unfolding_all exact rfl) (hx : a.eval x = .pointer (some ⟨g, 0, none⟩) := by kernel_rfl) (hy : a.eval y = .agg cells := by kernel_rfl) (hi : (P.info? ty).map (·.size) = some cells.size := by kernel_rfl) (hold : old.size = cells.size := by with_unfolding_all exact rfl) (h1 : cells.all (·.oneCell') = true := by kernel_rfl) : wpList P ops Q (o :: rest) a w := zhu hk hw hgd ho hx hy hi hold h1 h
end Go.Proofs.YtnbkkjcmblfhpaaGreat
namespace Go.Proofs.YtnbkkjcmblfhpaaGreat
open Go.RowKit
theorem zf9 {x : Int} (h0 : -9223372036854775808 <= x) (h1 : x <= 9223372036854775807) : IntKind.i64.wrap x = x := by
 rw [IntKind.wrap_i64]; omega
structure FP where
 no : Int
 a : Option Addr
 n : Nat
 c : Nat
 B : List Int
 s : Int
def FP.cells (x : FP) : List Value := [.int .i64 x.no, .slice x.a x.n x.c, .int .i64 x.s]
def FP.file (x : FP) : D.F := (x.no, x.B, x.s)
def FP.flat (xs : List FP) : List Value := xs.flatMap FP.cells
def FP.files (xs : List FP) : List D.F := xs.map FP.file
def FP.ok (w : World) (x : FP) : Prop := x.B.length = x.n /\ zfv .u8 w x.a x.c x.B /\ (x.a = none -> x.n = 0 /\ x.c = 0)
theorem FP.flat_append (xs ys : List FP) : FP.flat (xs ++ ys) = FP.flat xs ++ FP.flat ys := by simp [FP.flat]
theorem FP.files_append (xs ys : List FP) : FP.files (xs ++ ys) = FP.files xs ++ FP.files ys := by simp [FP.files]
theorem FP.files_len (xs : List FP) : (FP.files xs).length = xs.length := by simp [FP.files]
theorem FP.files_take (xs : List FP) (k : Nat) : FP.files (xs.take k) = (FP.files xs).take k := by simp [FP.files, List.map_take]
theorem FP.files_drop (xs : List FP) (k : Nat) : FP.files (xs.drop k) = (FP.files xs).drop k := by simp [FP.files, List.map_drop]
theorem FP.files_at {xs : List FP} {k : Nat} {x : FP} (h : xs[k]? = some x) : (FP.files xs).getD k D.nof = FP.file x := by simp [FP.files, h]
theorem FP.flat_len (xs : List FP) : (FP.flat xs).length = xs.length * 3 := by
 induction xs with
 | nil => rfl
 | cons x xs ih => simp [FP.flat, FP.cells] at ih ⊢; omega
theorem FP.flat_at : ∀ (xs : List FP) (i : Nat) (x : FP), xs[i]? = some x -> (FP.flat xs)[i * 3]? = some (.int .i64 x.no) /\ (FP.flat xs)[i * 3 + 1]? = some (.slice x.a x.n x.c) /\ (FP.flat xs)[i * 3 + 2]? = some (.int .i64 x.s)
 | [], _, _, h => by simp at h
 | y :: xs, 0, x, h => by
  obtain rfl : y = x := by simpa using h
  exact ⟨rfl, rfl, rfl⟩
 | y :: xs, i + 1, x, h => by
  have := FP.flat_at xs i x (by simpa using h)
  have e : (i + 1) * 3 = i * 3 + 3 := by omega
  rw [e]
  exact this
theorem FP.flat_one (xs : List FP) : ∀ u ∈ FP.flat xs, u.oneCell' = true := by
 intro u hu
 obtain ⟨x, _, hx⟩ := List.mem_flatMap.1 hu
 simp only [FP.cells, List.mem_cons, List.not_mem_nil, or_false] at hx
 rcases hx with rfl | rfl | rfl <;> rfl
theorem FP.ok.below {w w' : World} {x : FP} (h : FP.ok w x) (hb : Below w.heap.size w w') : FP.ok w' x := ⟨h.1, h.2.1.below hb, h.2.2⟩
def zuc (w : World) (a : Option Addr) (cap : Nat) (xs : List FP) : Prop :=
 (xs.length <= cap /\ cap <= maxLen) /\ (∀ x ∈ xs, FP.ok w x) /\ (xs = [] \/ ∃ b off, a = some ⟨b, off, none⟩ /\ b < w.heap.size /\ ∀ i u, (FP.flat xs)[i]? = some u -> w.cell? ⟨b, off + i, none⟩ = some u)
theorem zuc.below {w w' : World} {a : Option Addr} {cap : Nat} {xs : List FP} (h : zuc w a cap xs) (hb : Below w.heap.size w w') : zuc w' a cap xs := by
 refine ⟨h.1, fun x hx => (h.2.1 x hx).below hb, ?_⟩
 rcases h.2.2 with h0 | ⟨b, off, rfl, hlt, hc⟩
 ·exact .inl h0
 ·exact .inr ⟨b, off, rfl, Nat.lt_of_lt_of_le hlt hb.size, fun i u hi => (hb.cell (p := ⟨b, off + i, none⟩) hlt).trans (hc i u hi)⟩
theorem zuc.nil (w : World) (a : Option Addr) {cap : Nat} (h : cap <= maxLen) : zuc w a cap [] := ⟨⟨by simp, h⟩, by simp, .inl rfl⟩
theorem zuc.at {w : World} {a : Option Addr} {cap i : Nat} {xs : List FP} (h : zuc w a cap xs) (hi : i < xs.length) :
  ∃ b off no a' n c B s, a = some ⟨b, off, none⟩ /\ b < w.heap.size /\ xs[i]? = some ⟨no, a', n, c, B, s⟩ /\ w.cell? ⟨b, off + i * 3, none⟩ = some (.int .i64 no) /\ w.cell? ⟨b, off + i * 3 + 1, none⟩ = some (.slice a' n c) /\ w.cell? ⟨b, off + i * 3 + 2, none⟩ = some (.int .i64 s) /\ FP.ok w ⟨no, a', n, c, B, s⟩ := by
 rcases h.2.2 with rfl | ⟨b, off, rfl, hlt, hc⟩
 ·simp at hi
 ·have hx := List.getElem?_eq_getElem hi
  obtain ⟨f1, f2, f3⟩ := FP.flat_at xs i _ hx
  exact ⟨b, off, _, _, _, _, _, _, rfl, hlt, hx, hc _ _ f1, hc _ _ f2, hc _ _ f3, h.2.1 _ (List.getElem_mem hi)⟩
theorem zug {w : World} {B e n : Nat} {v : Value} {xs : List FP} (h : w.ownsRow B e 3 v n (FP.flat xs)) (hn : xs.length = n) (ho : ∀ x ∈ xs, FP.ok w x) : ∃ a cap, v = .slice a n cap /\ zuc w a cap xs /\ (a = none -> n = 0 /\ cap = 0) := by
 rcases h.2 with ⟨rfl, h0⟩ | ⟨g, cap, cur, rfl, _, hg, hle, hm, _⟩
 ·obtain rfl : xs = [] := List.eq_nil_of_length_eq_zero (by omega)
  exact ⟨none, 0, by rw [h0], zuc.nil w none (by simp [maxLen]), fun _ => ⟨h0, rfl⟩⟩
 ·refine ⟨_, cap, rfl, ⟨⟨by omega, hm⟩, ho, .inr ⟨g, 0, rfl, (Array.getElem?_eq_some_iff.1 hg).1, fun i u hi => ?_⟩⟩, fun h => by cases h⟩
  have c1 := h.cells (g := g) rfl _ _ hi
  rwa [WideShapes.add_plain] at c1
def zf0 (w : World) (a : Option Addr) (n c : Nat) (xs : List FP) : Prop := xs.length = n /\ zuc w a c xs /\ (a = none -> n = 0 /\ c = 0)
theorem zf0.below {w w' : World} {a : Option Addr} {n c : Nat} {xs : List FP} (h : zf0 w a n c xs) (hb : Below w.heap.size w w') : zf0 w' a n c xs := ⟨h.1, h.2.1.below hb, h.2.2⟩
theorem zf0.caps {w : World} {a : Option Addr} {n c : Nat} {xs : List FP} (h : zf0 w a n c xs) : n <= c /\ c <= maxLen := by have := h.2.1.1; rw [h.1] at this; exact this
theorem zf0.empty (w : World) : zf0 w none 0 0 [] := ⟨rfl, zuc.nil w none (by simp [maxLen]), fun _ => ⟨rfl, rfl⟩⟩
def dFar (b : Nat) (a : Option Addr) (xs : List FP) : Prop := (∀ g off, a = some ⟨g, off, none⟩ -> xs ≠ [] -> g ≠ b) /\ ∀ x ∈ xs, x.B = [] \/ ∀ y, x.a = some y -> y.block ≠ b
theorem dFar.nil (b : Nat) (a : Option Addr) : dFar b a [] := ⟨fun _ _ _ h => absurd rfl h, by simp⟩
theorem zf0.far {w : World} {a : Option Addr} {n c b : Nat} {xs : List FP} (h : zf0 w a n c xs) (hb : w.heap.size <= b) : dFar b a xs := by
 refine ⟨?_, fun x hx => ?_⟩
 ·rintro g off rfl h0 rfl
  rcases h.2.1.2.2 with h1 | ⟨g', off', he, hlt, _⟩
  ·exact h0 h1
  ·cases he; omega
 ·rcases (h.2.1.2.1 x hx).2.1.2.2 with h1 | ⟨g', off', he, hlt, _⟩
  ·exact .inl h1
  ·refine .inr ?_
   intro y hy hyb
   rw [he] at hy
   cases hy
   have : g' = b := hyb
   omega
def RetD (P : Nat -> Prop) (d : D.T) (w : World) (e : Ending) (w' : World) : Prop :=
 ∃ a n c xs, e = .returned (.agg #[.int .i64 d.1, .slice a n c]) /\ Hid (zf0 w' a n c xs) /\ Hid (FP.files xs = d.2) /\ Hid (∀ b, b < w.heap.size -> P b -> dFar b a xs) /\ Below w.heap.size w w'
def RetE (P : Nat -> Prop) (r : D.T × Int) (w : World) (e : Ending) (w' : World) : Prop :=
 ∃ a n c xs, e = .returned (.tuple #[.agg #[.int .i64 r.1.1, .slice a n c], .int .i64 r.2]) /\ Hid (zf0 w' a n c xs) /\ Hid (FP.files xs = r.1.2) /\ Hid (∀ b, b < w.heap.size -> P b -> dFar b a xs) /\ Below w.heap.size w w'
def any : Nat -> Prop := fun _ => True
theorem zvv : (Tryz.prog.info? 53).map (fun i => (i.zero, i.size, i.bytes)) = some (some (.agg #[.int .i64 0, .slice none 0 0, .int .i64 0]), 3, 40) := by kernel_rfl
theorem zvw : (Tryz.prog.info? 24).map (·.size) = some 2 := by kernel_rfl
def dbox (w : World) (k : Int) (a : Option Addr) (n c : Nat) : World := w.alloc (.cells #[.int .i64 k, .slice a n c] 24)
theorem zf2 (w : World) (k : Int) (a : Option Addr) (n c : Nat) : Below w.heap.size w (dbox w k a n c) := (Below.refl _ w).alloc (Nat.le_refl _) _
theorem zvb (w : World) (k : Int) (a : Option Addr) (n c : Nat) : (dbox w k a n c).heap.size = w.heap.size + 1 := by simp [dbox]
theorem zt2 (w : World) (k : Int) (a : Option Addr) (n c : Nat) : Blok (dbox w k a n c) w.heap.size 24 #[.int .i64 k, .slice a n c] := Blok.new w _ _
def zu3 (w : World) (no : Int) (a : Option Addr) (n c : Nat) (s : Int) : World := w.alloc (.cells #[.int .i64 no, .slice a n c, .int .i64 s] 53)
theorem zud (w : World) (no : Int) (a : Option Addr) (n c : Nat) (s : Int) : Below w.heap.size w (zu3 w no a n c s) := (Below.refl _ w).alloc (Nat.le_refl _) _
theorem zvc (w : World) (no : Int) (a : Option Addr) (n c : Nat) (s : Int) : (zu3 w no a n c s).heap.size = w.heap.size + 1 := by simp [zu3]
theorem zuh (w : World) (no : Int) (a : Option Addr) (n c : Nat) (s : Int) : Blok (zu3 w no a n c s) w.heap.size 53 #[.int .i64 no, .slice a n c, .int .i64 s] := Blok.new w _ _
theorem dk0 {w : World} {g : Nat} {k : Int} {v : Value} (h : Blok w g 24 #[.int .i64 k, v]) : w.cell? ⟨g, 0, none⟩ = some (.int .i64 k) := h.cell 0
theorem dk1 {w : World} {g : Nat} {u v : Value} (h : Blok w g 24 #[u, v]) : w.cell? ⟨g, 1, none⟩ = some v := h.cell 1
theorem fk0 {w : World} {g : Nat} {x y z : Value} (h : Blok w g 53 #[x, y, z]) : w.cell? ⟨g, 0, none⟩ = some x := h.cell 0
theorem fk1 {w : World} {g : Nat} {x y z : Value} (h : Blok w g 53 #[x, y, z]) : w.cell? ⟨g, 1, none⟩ = some y := h.cell 1
theorem fk2 {w : World} {g : Nat} {x y z : Value} (h : Blok w g 53 #[x, y, z]) : w.cell? ⟨g, 2, none⟩ = some z := h.cell 2
def dbn (w : World) (k : Int) (a : Option Addr) (n c : Nat) : World := dbox (dbox w k a n c) 0 none 0 0
theorem zui (w : World) (k : Int) (a : Option Addr) (n c : Nat) : Below w.heap.size w (dbn w k a n c) := (zf2 w k a n c).trans ((zf2 _ 0 none 0 0).mono (zf2 w k a n c).size)
theorem zun (w : World) (k : Int) (a : Option Addr) (n c : Nat) : (dbn w k a n c).heap.size = w.heap.size + 2 := by simp [dbn, dbox]
theorem zf7 (w : World) (k : Int) (a : Option Addr) (n c : Nat) : Blok (dbn w k a n c) w.heap.size 24 #[.int .i64 k, .slice a n c] := (zt2 w k a n c).alloc _
theorem zf4 (w : World) (k : Int) (a : Option Addr) (n c : Nat) : Blok (dbn w k a n c) (w.heap.size + 1) 24 #[.int .i64 0, .slice none 0 0] := by
 have := zt2 (dbox w k a n c) 0 none 0 0
 rwa [zvb] at this
theorem Blok.on {w w' : World} {g : Nat} {t : TypeId} {cs : Array Value} (h : Blok w g t cs) (hb : Below w.heap.size w w') : Blok w' g t cs := h.below hb h.lt
theorem zu5 {fn : Func} {p : Tmp} (h : fn.results = #[.cell p 24]) {tmps : Array Value} {w : World} (g : Nat) (k : Int) (a : Option Addr) (n cap : Nat)
  (hp : tmps.getD p undef = .pointer (some ⟨g, 0, none⟩)) (hg : Blok w g 24 #[.int .i64 k, .slice a n cap]) :
  (results fn tmps).run Tryz.prog w = .ok (.agg #[.int .i64 k, .slice a n cap]) w := by
 have hp' : tmps[p]?.getD undef = .pointer (some ⟨g, 0, none⟩) := by simpa using hp
 have hl := run_loadVar_row (P := Tryz.prog) w g 24 24 #[.int .i64 k, .slice a n cap] (0, 0) _ hg Tryz.underlying24 rfl zvw
 simp [results, h, hp', asAddr, hl]
theorem zt0 {fn : Func} {p u : Tmp} (h : fn.results = #[.cell p 24, .tmp u]) {tmps : Array Value} {w : World} (g : Nat) (k : Int) (a : Option Addr) (n cap : Nat) {x : Value}
  (hp : tmps.getD p undef = .pointer (some ⟨g, 0, none⟩)) (hu : tmps.getD u undef = x) (hg : Blok w g 24 #[.int .i64 k, .slice a n cap]) :
  (results fn tmps).run Tryz.prog w = .ok (.tuple #[.agg #[.int .i64 k, .slice a n cap], x]) w := by
 have hp' : tmps[p]?.getD undef = .pointer (some ⟨g, 0, none⟩) := by simpa using hp
 have hu' : tmps[u]?.getD undef = x := by simpa using hu
 have hl := run_loadVar_row (P := Tryz.prog) w g 24 24 #[.int .i64 k, .slice a n cap] (0, 0) _ hg Tryz.underlying24 rfl zvw
 simp [results, h, hp', hu', asAddr, hl, Result.andThen]
theorem Blok.putD {w : World} {g : Nat} {k : Int} {v : Value} (h : Blok w g 24 #[.int .i64 0, .slice none 0 0]) : Blok ((w.setCell ⟨g, 0, none⟩ (.int .i64 k)).setCell ⟨g, 1, none⟩ v) g 24 #[.int .i64 k, v] := by
 simpa using (h.set 0 (.int .i64 k)).set 1 v
theorem zwd {k : IntKind} {w : World} {a : Option Addr} {cap b : Nat} {L : List Int} (h : zfv k w a cap L) (hne : L = [] \/ ∀ x, a = some x -> x.block ≠ b) (i : Nat) (u : Value) : zfv k (w.setCell ⟨b, i, none⟩ u) a cap L := by
 refine ⟨h.1, h.2.1, ?_⟩
 rcases hne with h0 | hne
 ·exact .inl h0
 rcases h.2.2 with h0 | ⟨g, off, rfl, hg, hc⟩
 ·exact .inl h0
 ·exact .inr ⟨g, off, rfl, by rw [show (w.setCell ⟨b, i, none⟩ u).heap.size = w.heap.size from (Array.size_modify ..)]; exact hg, fun j hj => (zt4 (p := ⟨g, off + j, none⟩) (hne ⟨g, off, none⟩ rfl)).trans (hc j hj)⟩
theorem zf0.set {w : World} {a : Option Addr} {n c : Nat} {xs : List FP} (h : zf0 w a n c xs) {b : Nat} (hf : dFar b a xs) (i : Nat) (u : Value) : zf0 (w.setCell ⟨b, i, none⟩ u) a n c xs := by
 obtain ⟨hne, hx⟩ := hf
 refine ⟨h.1, ⟨h.2.1.1, fun x hm => ⟨(h.2.1.2.1 x hm).1, zwd (h.2.1.2.1 x hm).2.1 (hx x hm) i u, (h.2.1.2.1 x hm).2.2⟩, ?_⟩, h.2.2⟩
 by_cases h0 : xs = []
 ·exact .inl h0
 rcases h.2.1.2.2 with h0 | ⟨g, off, rfl, hg, hc⟩
 ·exact .inl h0
 ·exact .inr ⟨g, off, rfl, by rw [show (w.setCell ⟨b, i, none⟩ u).heap.size = w.heap.size from (Array.size_modify ..)]; exact hg, fun j v hj => (zt4 (p := ⟨g, off + j, none⟩) (hne g off rfl h0)).trans (hc j v hj)⟩
end Go.Proofs.YtnbkkjcmblfhpaaGreat
namespace Go.Proofs.YtnbkkjcmblfhpaaGreat
set_option maxHeartbeats 400000
set_option maxRecDepth 100000
open Go.RowKit
theorem zx7 {w : World} {g B : Nat} (h : Blok w g 53 #[]) (hB : B <= g) : w.ownsRow B 53 3 (.slice (some ⟨g, 0, none⟩) 0 0) 0 [] :=
 ⟨rfl, .inr ⟨g, 0, #[], rfl, hB, h, Nat.le_refl _, by simp [maxLen], rfl, rfl⟩⟩
theorem zuu (w : World) {ops : Array Oper} {rest : List Oper} {o : Oper} {a : Act} {Q : Exit -> Act -> World -> Prop} (hgd : o.guard = none) (s x : Operand)
  (ho : o.op = .call { callee := .builtin .append, args := #[s, x], argTypes := #[22, 22] })
  (base : Nat) (v : Value) (n : Nat) (xs : List FP) (hs : a.eval s = v) (hown : w.ownsRow base 53 3 v n (FP.flat xs))
  (ad : Option Addr) (m c : Nat) (ys : List FP) (hx : a.eval x = .slice ad m c) (hd : zf0 w ad m c ys) (h63 : n + m <= 10000) (hbase : base <= w.heap.size)
  (h : ∀ v' w', w'.ownsRow base 53 3 v' (n + m) (FP.flat (xs ++ ys)) -> w.grownBy w' v.ownBlock -> wpList Tryz.prog ops Q rest (a.put o.dst v') w') : wpList Tryz.prog ops Q (o :: rest) a w := by
 obtain ⟨i0, hi, hz0, hz1, hz2⟩ := info_parts zvv
 cases ad with
 | none =>
  obtain ⟨rfl, rfl⟩ := hd.2.2 rfl
  obtain rfl : ys = [] := List.eq_nil_of_length_eq_zero hd.1
  exact wpList_append_own_none hgd s x 22 ho base 53 i0 3 Tryz.underlying22 hi v n (FP.flat xs) hs hown hx (h v w (by simpa using hown) ⟨rfl, rfl, rfl, Nat.le_refl _, fun _ _ _ => rfl⟩)
 | some ad =>
  refine wpList_append_own w hgd s x 22 ho base 53 i0 _ 3 40 Tryz.underlying22 hi hz0 hz1 hz2 rfl (by decide) v n (FP.flat xs) hs hown ad m c (FP.flat ys) hx (by rw [FP.flat_len, hd.1]) (fun j u hj => ?_) (FP.flat_one ys) (by unfold maxLen; omega) (by omega) hbase (fun v' w' h1 h2 _ => h v' w' (by rw [FP.flat_append]; exact h1) h2)
  rcases hd.2.1.2.2 with rfl | ⟨b, off, he, _, hc⟩
  ·simp [FP.flat] at hj
  ·cases he
   rw [WideShapes.add_plain]
   exact hc j u hj
theorem zvk (a : Option Addr) (n c : Nat) (xs : List FP) (w : World) (h9 : n <= 1000) (hd : zf0 w a n c xs) :
  Calls Tryz.prog 103 #[.slice a n c] w fun e w' => ∃ v, e = .returned v /\ Hid (w'.ownsRow w.heap.size 53 3 v n (FP.flat xs)) /\ Below w.heap.size w w' := by
 have HD := Zh hd
 cases a with
 | none =>
  obtain ⟨rfl, rfl⟩ := hd.2.2 rfl
  obtain rfl : xs = [] := List.eq_nil_of_length_eq_zero hd.1
  clear hd
  have he : ∀ w : World, (binOp .eql 22 (.slice none 0 0) (.slice none 0 0)).run Tryz.prog w = .ok (.bool true) w := fun _ => by kernel_rfl
  go_enter Tryz.func103, Tryz.ntmps103
  go_wp2
  go_ret
  exact ⟨_, rfl, Zh (World.ownsRow_nil _ _ _ _), Below.refl _ _⟩
 | some x =>
  clear hd
  have he : ∀ w : World, (binOp .eql 22 (.slice (some x) n c) (.slice none 0 0)).run Tryz.prog w = .ok (.bool false) w := fun _ => by kernel_rfl
  go_enter Tryz.func103, Tryz.ntmps103
  go_wp2_with (at_builtin; refine zuu _ rfl _ _ rfl w.heap.size _ 0 [] rfl (zx7 (Blok.new w 53 #[]) (Nat.le_refl _)) (some x) n c xs rfl (HD.out.below ((Below.refl _ w).alloc (Nat.le_refl _) _)) (by omega) (by simp) ?_; intro v' w2 hown' hgrow)
  go_ret
  rw [Nat.zero_add] at hown'
  exact ⟨v', rfl, Zh (by simpa using hown'), ((Below.refl _ w).alloc (Nat.le_refl _) _).grown hgrow (by simp) (fun k ek => by cases ek; exact Nat.le_refl _)⟩
def Own1 (B : Nat) (w : World) (x : FP) : Prop := w.ownsRow B 5 1 (.slice x.a x.n x.c) x.n (x.B.map (Value.int .u8)) /\ ∀ c ∈ x.B, (Lit.int .u8 c).wf = true
def Apart (xs : List FP) : Prop := xs.Pairwise fun x y => ∀ g h, x.a = some g -> y.a = some h -> g.block < h.block
theorem Own1.ok {B : Nat} {w : World} {x : FP} (h : Own1 B w x) : FP.ok w x := by
 have hl : x.B.length = x.n := by have := h.1.1; simpa using this
 refine ⟨hl, zn3 h.1 h.2, fun ha => ?_⟩
 rcases h.1.2 with ⟨he, h0⟩ | ⟨g, cap, cur, he, _⟩
 ·simp only [Value.slice.injEq] at he; exact ⟨he.2.1, he.2.2⟩
 ·rw [ha] at he; simp at he
theorem Own1.lt {B : Nat} {w : World} {x : FP} (h : Own1 B w x) {g : Addr} (hg : x.a = some g) : B <= g.block /\ g.block < w.heap.size := h.1.lt g.block (by rw [hg]; rfl)
theorem Own1.grown {B : Nat} {w w' : World} {x : FP} {row : Option Nat} (h : Own1 B w x) (hg : w.grownBy w' row) (hne : ∀ g, x.a = some g -> some g.block ≠ row) : Own1 B w' x := by
 refine ⟨h.1.kept hg ?_, h.2⟩
 cases ha : x.a with
 | none => exact .inl rfl
 | some g => exact .inr (by have := hne g ha; simpa [Value.ownBlock, ha] using this)
theorem Own1.below {B : Nat} {w w' : World} {x : FP} (h : Own1 B w x) (hb : Below w.heap.size w w') : Own1 B w' x := ⟨zab h.1 hb, h.2⟩
theorem zf3 (w : World) (g i : Nat) (u : Value) : w.grownBy (w.setCell ⟨g, i, none⟩ u) (some g) :=
 ⟨rfl, rfl, rfl, by simp, fun k _ hk => Below.heap_setCell w ⟨g, i, none⟩ u k (fun e => hk (by simp [e]))⟩
theorem FP.flat_set (zs : List FP) (x : FP) (r : List FP) (a : Option Addr) (n c : Nat) : (FP.flat (zs ++ x :: r)).set (zs.length * 3 + 1) (.slice a n c) = FP.flat (zs ++ { x with a := a, n := n, c := c } :: r) := by
 rw [FP.flat_append, FP.flat_append, List.set_append_right _ _ (by rw [FP.flat_len]; omega), FP.flat_len]
 congr 1
 rw [show zs.length * 3 + 1 - zs.length * 3 = 1 by omega]
 rfl
def zyq (k : Int) (l : List D.F) (w : World) (e : Ending) (w' : World) : Prop :=
 ∃ a n c ys, e = .returned (.agg #[.int .i64 k, .slice a n c]) /\ Hid (ys.length = n) /\ Hid (FP.files ys = l) /\ Hid (w'.ownsRow w.heap.size 53 3 (.slice a n c) n (FP.flat ys)) /\ Hid (∀ y ∈ ys, Own1 w.heap.size w' y) /\ Hid (Apart ys) /\ Below w.heap.size w w'
theorem zt6 {w : World} {B n c g b : Nat} {t : TypeId} {cs : Array Value} {xs : List Value} (h : w.ownsRow B 53 3 (.slice (some ⟨g, 0, none⟩) n c) n xs) (hb : Blok w b t cs) (ht : t ≠ 53 \/ b < B) : b ≠ g := by
 rintro rfl
 rcases ht with ht | ht
 ·rcases h.2 with ⟨h0, _⟩ | ⟨g', cap', cur, he, _, hg, _⟩
  ·cases h0
  ·simp only [Value.slice.injEq, Option.some.injEq, Addr.mk.injEq, and_true, true_and] at he
   obtain ⟨rfl, rfl⟩ := he
   have := (show w.heap[b]? = _ from hb).symm.trans hg
   simp at this
   exact ht this.2
 ·have := h.lt b rfl
  omega
theorem own_any (k : Int) (a : Option Addr) (n c : Nat) (xs : List FP) (w : World) (hd : zf0 w a n c xs) (hs : D.small (FP.files xs)) :
  Calls Tryz.prog 75 #[.agg #[.int .i64 k, .slice a n c]] w (zyq k (FP.files xs) w) := by
 have HBX := Zh (zui w k a n c)
 have HD := Zh hd
 have hcap := hd.caps
 have hml : maxLen <= 9223372036854775807 := by decide
 have h14 : n <= 14 := by have h1 := hs.1; simp only [FP.files_len, hd.1] at h1; exact h1
 have HS : Hid (∀ x ∈ xs, x.B.length <= 70000) := Zh (fun x hx => hs.2 (FP.file x) (List.mem_map.2 ⟨x, hx, rfl⟩))
 clear hd hs
 go_enter Tryz.func75, Tryz.ntmps75
 go_wp2_with fail
 refine (zvk a n c xs (dbn w k a n c) (by omega) (HD.out.below HBX.out)).mono ?_
 rintro e w1 ⟨v, rfl, HO, hb1⟩
 have B1 := Zt HBX hb1
 have KA := Zh ((zf7 w k a n c).on hb1)
 have KR := Zh ((zf4 w k a n c).on hb1)
 clear hb1
 obtain ⟨a2, c2, rfl, _, hz2⟩ := zug HO.out HD.out.1 (fun x hx => (HD.out.2.1.2.1 x hx).below B1.out)
 have k1 := dk1 KA.out
 have f1 := KA.out.frozen 1
 have hg1 := zf3 w1 w.heap.size 1 (.slice a2 n c2)
 have KA2 : Hid (Blok (w1.setCell ⟨w.heap.size, 1, none⟩ (.slice a2 n c2)) w.heap.size 24 #[.int .i64 k, .slice a2 n c2]) := Zh (by simpa using KA.out.set 1 (.slice a2 n c2))
 have KR2 := Zh (KR.out.grown hg1 (by simp))
 have HO2 : Hid ((w1.setCell ⟨w.heap.size, 1, none⟩ (.slice a2 n c2)).ownsRow w.heap.size 53 3 (.slice a2 n c2) n (FP.flat xs)) := Zh (zan (HO.out.kept hg1 (.inr (fun e => by have := HO.out.lt _ e; rw [zun] at this; omega))) (by rw [zun]; omega))
 have HB2 : Hid (Below w.heap.size w (w1.setCell ⟨w.heap.size, 1, none⟩ (.slice a2 n c2))) := Zh (B1.out.setCell (p := ⟨w.heap.size, 1, none⟩) (Nat.le_refl _) _)
 have hcap2 : n <= c2 /\ c2 <= maxLen := by
  rcases HO.out.2 with ⟨he, _⟩ | ⟨g, cap, cur, he, _, _, h1, h2, _⟩
  ·simp only [Value.slice.injEq] at he; omega
  ·simp only [Value.slice.injEq] at he; omega
 clear KA KR HO B1
 go_wp2_with fail
 clear k1 f1
 clear hg1
 go_loopw [12] (fun i wr => ∃ (j : Nat) (zs : List FP), i = .int .i64 j /\ j <= n /\ zs.length = j /\ Hid (FP.files zs = FP.files (xs.take j)) /\ Hid (wr.ownsRow w.heap.size 53 3 (.slice a2 n c2) n (FP.flat (zs ++ xs.drop j))) /\ Hid (∀ z ∈ zs, Own1 w.heap.size wr z) /\ Hid (Apart zs) /\ Hid (Blok wr w.heap.size 24 #[.int .i64 k, .slice a2 n c2]) /\ Hid (Blok wr (w.heap.size + 1) 24 #[.int .i64 0, .slice none 0 0]) /\ Below w.heap.size w wr) (fun i _ => n - (intOf i).toNat)
 case atStart => exact ⟨0, [], rfl, by omega, rfl, Zh (by simp), HO2, Zh (by simp), Zh (by simp [Apart]), KA2, KR2, HB2.out⟩
 case round =>
  obtain ⟨j, zs, rfl, hjn, hzl, HZ, HO, HW, HP, KA, KR, hB⟩ := hrel
  by_cases hlt : j < n
  ·obtain ⟨g, cp, he, hBg, hgl⟩ := HO.out.form (by omega)
   simp only [Value.slice.injEq, true_and] at he
   obtain ⟨rfl, rfl⟩ := he
   have hxj : j < xs.length := by rw [HD.out.1]; exact hlt
   obtain ⟨⟨no, a1, n1, c1, B1, s1⟩, hx⟩ : ∃ x, xs[j]? = some x := ⟨_, List.getElem?_eq_getElem hxj⟩
   have hok := (HD.out.2.1.2.1 _ (List.mem_of_getElem? hx)).below hB
   have hx2 : (zs ++ xs.drop j)[j]? = some ⟨no, a1, n1, c1, B1, s1⟩ := by
    rw [List.getElem?_append_right (by omega), hzl, Nat.sub_self, List.getElem?_drop]; simpa using hx
   obtain ⟨g0, g1, g2⟩ := FP.flat_at _ _ _ hx2
   have q0 := (HO.out.cellAt (j * 3) (by omega)).trans g0
   have q1 := (HO.out.cellAt (j * 3 + 1) (by omega)).trans g1
   have q2 := (HO.out.cellAt (j * 3 + 2) (by omega)).trans g2
   have HX := Zh hx
   have HOK := Zh hok
   have hn1 : n1 <= 70000 := by have := HS.out _ (List.mem_of_getElem? hx); have h2 := hok.1; simp only at this h2; omega
   have G1 := Zh g1
   have hne : w.heap.size ≠ g := zt6 HO.out KA.out (.inl (by decide))
   have hne2 : w.heap.size + 1 ≠ g := zt6 HO.out KR.out (.inl (by decide))
   clear hx hok hx2 g0 g1 g2
   go_wp2_with fail
   refine wp_region_held (S := fun w' => w'.cell? ⟨w.heap.size, 1, none⟩ = some (.slice (some ⟨g, 0, none⟩) n c2) /\ w'.cell? ⟨wr.heap.size, 1, none⟩ = some (.slice a1 n1 c1)) (by kernel_rfl) ?_
   change wpAnyH _ _ _ _ _ _ _ _ (World.drew (zu3 wr no a1 n1 c1 s1))
   have FB := zud wr no a1 n1 c1 s1
   have FBD := FB.drew
   have HS0 : (fun w' : World => w'.cell? ⟨w.heap.size, 1, none⟩ = some (.slice (some ⟨g, 0, none⟩) n c2) /\ w'.cell? ⟨wr.heap.size, 1, none⟩ = some (.slice a1 n1 c1)) (World.drew (zu3 wr no a1 n1 c1 s1)) := ⟨dk1 (KA.out.on FBD), fk1 (zuh wr no a1 n1 c1 s1).drew⟩
   refine tk 0 ((.pointer (some ⟨w.heap.size, 1, none⟩))) HS0 ?_
   refine wpAnyH_take (i := 1) (v := (.slice (some ⟨g, 0, none⟩) n c2)) rfl (by kernel_rfl) (by kernel_rfl) (by kernel_rfl) (fun _ _ _ h => h) (.inl ⟨by kernel_rfl, fun w9 hS => by have c := hS.1; go_simp⟩) HS0 ?_
   refine tk 2 ((.int .i64 (j : Int))) HS0 ?_
   refine tk 3 ((.pointer (some ⟨wr.heap.size, 1, none⟩))) HS0 ?_
   refine wpAnyH_take (i := 4) (v := (.slice a1 n1 c1)) rfl (by kernel_rfl) (by kernel_rfl) (by kernel_rfl) (fun _ _ _ h => h) (.inl ⟨by kernel_rfl, fun w9 hS => by have c := hS.2; go_simp⟩) HS0 ?_
   refine Zc 5 104 #[.slice a1 n1 c1] (zuq a1 n1 c1 B1 _ (by omega) HOK.out.1 (HOK.out.2.1.below FBD)) ?_
   rintro e w3 ⟨v3, rfl, ho3, hb3⟩
   have hl3 : (World.drew (zu3 wr no a1 n1 c1 s1)).heap.size = wr.heap.size + 1 := zvc wr no a1 n1 c1 s1
   obtain ⟨a3, c3, rfl, r3⟩ := zsq ho3 HOK.out.2.1.2.1
   have hb3' : Below wr.heap.size wr w3 := FBD.trans (hb3.mono FBD.size)
   have HO3 := zab HO.out hb3'
   have KA3 := Zh (KA.out.on hb3')
   have KF3 := (zuh wr no a1 n1 c1 s1).drew.on hb3
   have KR3 := Zh (KR.out.on hb3')
   have hbw : wr.heap.size ≠ g := by omega
   have q4 := (HO3.cellAt (j * 3 + 1) (by omega)).trans G1.out
   have q5 := HO3.frozenAt (j * 3 + 1)
   have hg4 := zf3 w3 g (j * 3 + 1) (.slice a3 n1 c3)
   have HS3 : (fun w' : World => w'.cell? ⟨w.heap.size, 1, none⟩ = some (.slice (some ⟨g, 0, none⟩) n c2) /\ w'.cell? ⟨wr.heap.size, 1, none⟩ = some (.slice a1 n1 c1)) w3 := ⟨dk1 KA3.out, fk1 KF3⟩
   refine ⟨_, rfl, HS3, ?_⟩
   refine wpAnyH_take (i := 6) (v := (.pointer (some ⟨g, j * 3, none⟩))) rfl (by kernel_rfl) (by kernel_rfl) (by kernel_rfl) (fun _ _ _ h => h) (.inl ⟨by kernel_rfl, fun w9 hS => by go_simp⟩) HS3 ?_
   refine tk 7 ((.pointer (some ⟨g, j * 3 + 1, none⟩))) HS3 ?_
   have HS4 : (fun w' : World => w'.cell? ⟨w.heap.size, 1, none⟩ = some (.slice (some ⟨g, 0, none⟩) n c2) /\ w'.cell? ⟨wr.heap.size, 1, none⟩ = some (.slice a1 n1 c1)) (w3.setCell ⟨g, j * 3 + 1, none⟩ (.slice a3 n1 c3)) := ⟨dk1 (KA3.out.grown hg4 (by simp; exact hne)), fk1 (KF3.grown hg4 (by simp; exact hbw))⟩
   refine zaf (i := 8) (by kernel_rfl) (zah (w' := w3.setCell ⟨g, j * 3 + 1, none⟩ (.slice a3 n1 c3)) rfl (by kernel_rfl) (by go_simp) ⟨HS4, ?_⟩)
   refine wpAnyH_done (by kernel_rfl) ?_ _
   have hzx : FP.files (zs ++ [⟨no, a3, n1, c3, B1, s1⟩]) = FP.files (xs.take (j + 1)) := by
    obtain ⟨h1, h2⟩ := List.getElem?_eq_some_iff.1 HX.out
    rw [List.take_succ_eq_append_getElem h1, FP.files_append, FP.files_append, HZ.out, h2]; rfl
   have HZ4 := Zh hzx
   have HB4 := hB.trans (hb3'.mono hB.size)
   have HO4 : Hid ((w3.setCell ⟨g, j * 3 + 1, none⟩ (.slice a3 n1 c3)).ownsRow w.heap.size 53 3 (.slice (some ⟨g, 0, none⟩) n c2) n (FP.flat ((zs ++ [⟨no, a3, n1, c3, B1, s1⟩]) ++ xs.drop (j + 1)))) := Zh (by
    have h1 := (HO3.stored (j * 3 + 1) (.slice a3 n1 c3)).1
    obtain ⟨h2, h3⟩ := List.getElem?_eq_some_iff.1 HX.out
    rw [List.drop_eq_getElem_cons h2, h3, <- hzl, FP.flat_set] at h1
    rw [List.append_assoc, <- hzl]
    exact h1)
   have HN : Own1 w.heap.size w3 ⟨no, a3, n1, c3, B1, s1⟩ := ⟨zan ho3 (by rw [hl3]; have := hB.size; omega), HOK.out.2.1.2.1⟩
   have HN0 : ∀ h, a3 = some h -> wr.heap.size + 1 <= h.block := fun h hh => by have := (ho3.lt h.block (by rw [hh]; rfl)).1; rw [hl3] at this; exact this
   have HW4 : Hid (∀ z ∈ zs ++ [⟨no, a3, n1, c3, B1, s1⟩], Own1 w.heap.size (w3.setCell ⟨g, j * 3 + 1, none⟩ (.slice a3 n1 c3)) z) := Zh (by
    intro z hz
    have hz3 : Own1 w.heap.size w3 z := by
     rcases List.mem_append.1 hz with hz | hz
     ·exact (HW.out z hz).below hb3'
     ·simp only [List.mem_singleton] at hz
      rw [hz]; exact HN
    refine hz3.grown hg4 (fun h hh e => ?_)
    have hgg : h.block = g := by simpa using e
    have hbk : ∃ cs, w3.heap[h.block]? = some (.cells cs 5 (0, 0)) := by
     rcases hz3.1.2 with ⟨h0, _⟩ | ⟨g', cap', cur, he', _, hg', _⟩
     ·rw [hh] at h0; simp at h0
     ·rw [hh] at he'; simp only [Value.slice.injEq, Option.some.injEq] at he'; rw [he'.1]; exact ⟨_, hg'⟩
    obtain ⟨cs, hcs⟩ := hbk
    exact zt6 (t := 5) (b := h.block) HO3 hcs (.inl (by decide)) hgg)
   have HP4 : Hid (Apart (zs ++ [⟨no, a3, n1, c3, B1, s1⟩])) := Zh (by
    refine List.pairwise_append.2 ⟨HP.out, List.pairwise_singleton _ _, fun x hx y hy g1 g2 e1 e2 => ?_⟩
    simp only [List.mem_singleton] at hy
    subst hy
    have h1 := (HW.out x hx).lt e1
    have h2 := HN0 g2 e2
    omega)
   have KA4 := Zh (KA3.out.grown hg4 (by simp; exact hne))
   have KR4 := Zh (KR3.out.grown hg4 (by simp; exact hne2))
   have HB5 := Zh (HB4.setCell (p := ⟨g, j * 3 + 1, none⟩) hBg (.slice a3 n1 c3))
   clear HS3 hg4 HB4 HN HN0 HS4 q4 q5 KF3 HO3 hb3' hb3 ho3 r3 q0 q1 q2 HS0 FB FBD hzx hl3
   go_wp2
   go_roundw
   case rel => exact ⟨j + 1, zs ++ [⟨no, a3, n1, c3, B1, s1⟩], by go_num, by omega, by simp [hzl], HZ4, HO4, HW4, HP4, KA4, KR4, HB5.out⟩
   case measure => simp [intOf]; omega
  ·have hd : decide (j < n) = false := by simp; omega
   have hdn : xs.drop j = [] := List.drop_eq_nil_of_le (by rw [HD.out.1]; omega)
   have htn : xs.take j = xs := List.take_of_length_le (by rw [HD.out.1]; omega)
   rw [hdn, List.append_nil] at HO
   rw [htn] at HZ
   have hjn' : j = n := by omega
   have k0 := dk0 KA.out
   have k1 := dk1 KA.out
   have r0 := dk0 KR.out
   have r1 := dk1 KR.out
   have f0 := KR.out.frozen 0
   have f1 := KR.out.frozen 1
   go_wp2
   refine bodyPost_ret (zu5 (g := w.heap.size + 1) rfl k a2 n c2 (by kernel_rfl) KR.out.putD) (by kernel_rfl) ?_
   have hsz : ∀ x ∈ zs, ∀ g, x.a = some g -> g.block ≠ w.heap.size + 1 := fun x hx g hg e => by
    rcases (HW.out x hx).1.2 with ⟨h0, _⟩ | ⟨g', cap', cur, he', _, hg', _⟩
    ·rw [hg] at h0; simp at h0
    ·rw [hg] at he'
     simp only [Value.slice.injEq, Option.some.injEq] at he'
     rw [he'.1] at e
     have e' : g' = w.heap.size + 1 := e
     rw [e'] at hg'
     have h2 : wr.heap[w.heap.size + 1]? = _ := KR.out
     rw [h2] at hg'
     simp at hg'
   have hrow : (Value.slice a2 n c2).ownBlock ≠ some (w.heap.size + 1) := fun e => by
    rcases HO.out.2 with ⟨h0, _⟩ | ⟨g', cap', cur, he', _, hg', _⟩
    ·rw [h0] at e; simp [Value.ownBlock] at e
    ·rw [he'] at e
     have e' : g' = w.heap.size + 1 := by simpa [Value.ownBlock] using e
     rw [e'] at hg'
     have h2 : wr.heap[w.heap.size + 1]? = _ := KR.out
     rw [h2] at hg'
     simp at hg'
   have gg : wr.grownBy ((wr.setCell ⟨w.heap.size + 1, 0, none⟩ (.int .i64 k)).setCell ⟨w.heap.size + 1, 1, none⟩ (.slice a2 n c2)) (some (w.heap.size + 1)) :=
    ⟨rfl, rfl, rfl, by simp, fun b hb hne => ((zf3 _ (w.heap.size + 1) 1 _).block b (by simpa using hb) hne).trans ((zf3 wr (w.heap.size + 1) 0 _).block b hb hne)⟩
   exact ⟨a2, n, c2, zs, rfl, Zh (by omega), HZ, Zh (HO.out.kept gg (.inr hrow)), Zh (fun z hz => (HW.out z hz).grown gg (fun g hg e => hsz z hz g hg (by simpa using e))), HP, zf1 hB (Nat.le_succ _) _ _ _ _⟩
end Go.Proofs.YtnbkkjcmblfhpaaGreat
namespace Go.Proofs.YtnbkkjcmblfhpaaGreat
open Go.RowKit
namespace G
def RetP (B : Nat) (no : Int) (vb : Value) (r : D.T × Int) (w : World) (e : Ending) (w' : World) : Prop :=
 ∃ a n c ys, e = .returned (.int .i64 r.2) /\ Hid (Blok w' B 87 #[.int .i64 r.1.1, .slice a n c, .int .i64 no, vb]) /\ Hid (zf0 w' a n c ys) /\ Hid (FP.files ys = r.1.2) /\ Hid (∀ b, b < w.heap.size -> dFar b a ys) /\ w.grownBy w' (some B)
theorem pk {w : World} {g : Nat} {t : TypeId} {x y z u : Value} (h : Blok w g t #[x, y, z, u]) : w.cell? ⟨g, 0, none⟩ = some x /\ w.cell? ⟨g, 1, none⟩ = some y /\ w.cell? ⟨g, 2, none⟩ = some z /\ w.cell? ⟨g, 3, none⟩ = some u := ⟨h.cell 0, h.cell 1, h.cell 2, h.cell 3⟩
theorem put2 {w : World} {g : Nat} {t : TypeId} {x y z u : Value} (h : Blok w g t #[x, y, z, u]) (x' y' : Value) : Blok ((w.setCell ⟨g, 0, none⟩ x').setCell ⟨g, 1, none⟩ y') g t #[x', y', z, u] := by
 simpa using (h.set 0 x').set 1 y'
theorem put2_grown {w : World} {g : Nat} (x' y' : Value) : w.grownBy ((w.setCell ⟨g, 0, none⟩ x').setCell ⟨g, 1, none⟩ y') (some g) := (zf3 w g 0 x').trans (zf3 _ g 1 y')
theorem set_far {w : World} {a : Option Addr} {n c : Nat} {ys : List FP} {g : Nat} (h : zf0 w a n c ys) (hf : dFar g a ys) (x' y' : Value) : zf0 ((w.setCell ⟨g, 0, none⟩ x').setCell ⟨g, 1, none⟩ y') a n c ys := (h.set hf 0 x').set hf 1 y'
theorem disk_grown {w w' : World} {a : Option Addr} {n c : Nat} {ys : List FP} {g : Nat} (h : zf0 w a n c ys) (hf : dFar g a ys) (hg : w.grownBy w' (some g)) : zf0 w' a n c ys := by
 obtain ⟨h1, ⟨h2, h3, h4⟩, h5⟩ := h
 refine ⟨h1, ⟨h2, fun x hx => ⟨(h3 x hx).1, ⟨(h3 x hx).2.1.1, (h3 x hx).2.1.2.1, ?_⟩, (h3 x hx).2.2⟩, ?_⟩, h5⟩
 ·rcases (h3 x hx).2.1.2.2 with h0 | ⟨b, off, ha, hlt, hc⟩
  ·exact .inl h0
  ·rcases hf.2 x hx with h0 | hne
   ·exact .inl h0
   ·exact .inr ⟨b, off, ha, Nat.lt_of_lt_of_le hlt hg.size, fun i hi => (hg.cell_far ⟨b, off + i, none⟩ hlt (fun e => hne _ ha (by simpa using e))).trans (hc i hi)⟩
 ·rcases h4 with h0 | ⟨b, off, ha, hlt, hc⟩
  ·exact .inl h0
  ·by_cases hy : ys = []
   ·exact .inl hy
   ·exact .inr ⟨b, off, ha, Nat.lt_of_lt_of_le hlt hg.size, fun i u hi => (hg.cell_far ⟨b, off + i, none⟩ hlt (fun e => hf.1 b off ha hy (by simpa using e))).trans (hc i u hi)⟩
end G
end Go.Proofs.YtnbkkjcmblfhpaaGreat
namespace Go.Proofs.YtnbkkjcmblfhpaaGreat
open Go.RowKit
namespace G
def wbox (w : World) (k : Int) (a : Option Addr) (n c : Nat) (wn wt : Int) : World := w.alloc (.cells #[.int .i64 k, .slice a n c, .int .i64 wn, .int .i64 wt] 26)
def wbn (w : World) (k : Int) (a : Option Addr) (n c : Nat) (wn wt : Int) : World := wbox (wbox w k a n c wn wt) 0 none 0 0 0 0
theorem wbox_below (w : World) (k : Int) (a : Option Addr) (n c : Nat) (wn wt : Int) : Below w.heap.size w (wbox w k a n c wn wt) := (Below.refl _ w).alloc (Nat.le_refl _) _
theorem wbox_size (w : World) (k : Int) (a : Option Addr) (n c : Nat) (wn wt : Int) : (wbox w k a n c wn wt).heap.size = w.heap.size + 1 := by simp [wbox]
theorem wbox_blok (w : World) (k : Int) (a : Option Addr) (n c : Nat) (wn wt : Int) : Blok (wbox w k a n c wn wt) w.heap.size 26 #[.int .i64 k, .slice a n c, .int .i64 wn, .int .i64 wt] := Blok.new w _ _
theorem wbn_below (w : World) (k : Int) (a : Option Addr) (n c : Nat) (wn wt : Int) : Below w.heap.size w (wbn w k a n c wn wt) := (wbox_below w k a n c wn wt).trans ((wbox_below _ 0 none 0 0 0 0).mono (wbox_below w k a n c wn wt).size)
theorem wbn_size (w : World) (k : Int) (a : Option Addr) (n c : Nat) (wn wt : Int) : (wbn w k a n c wn wt).heap.size = w.heap.size + 2 := by simp [wbn, wbox]
theorem wbn_arg (w : World) (k : Int) (a : Option Addr) (n c : Nat) (wn wt : Int) : Blok (wbn w k a n c wn wt) w.heap.size 26 #[.int .i64 k, .slice a n c, .int .i64 wn, .int .i64 wt] := (wbox_blok w k a n c wn wt).alloc _
theorem wbn_res (w : World) (k : Int) (a : Option Addr) (n c : Nat) (wn wt : Int) : Blok (wbn w k a n c wn wt) (w.heap.size + 1) 26 #[.int .i64 0, .slice none 0 0, .int .i64 0, .int .i64 0] := by
 have h := wbox_blok (wbox w k a n c wn wt) 0 none 0 0 0 0
 rwa [wbox_size] at h
theorem info_wal : (Tryz.prog.info? 26).map (·.size) = some 4 := by kernel_rfl
theorem ret_wal {fn : Func} {p : Tmp} (h : fn.results = #[.cell p 26]) {tmps : Array Value} {w : World} (g : Nat) {x y z u : Value}
  (hp : tmps.getD p undef = .pointer (some ⟨g, 0, none⟩)) (hg : Blok w g 26 #[x, y, z, u]) :
  (results fn tmps).run Tryz.prog w = .ok (.agg #[x, y, z, u]) w := by
 have hp' : tmps[p]?.getD undef = .pointer (some ⟨g, 0, none⟩) := by simpa using hp
 have hl := run_loadVar_row (P := Tryz.prog) w g 26 26 #[x, y, z, u] (0, 0) _ hg Tryz.underlying26 rfl info_wal
 simp [results, h, hp', asAddr, hl]
theorem ret_wal2 {fn : Func} {p q : Tmp} (h : fn.results = #[.cell p 26, .tmp q]) {tmps : Array Value} {w : World} (g : Nat) {x y z u v : Value}
  (hp : tmps.getD p undef = .pointer (some ⟨g, 0, none⟩)) (hu : tmps.getD q undef = v) (hg : Blok w g 26 #[x, y, z, u]) :
  (results fn tmps).run Tryz.prog w = .ok (.tuple #[.agg #[x, y, z, u], v]) w := by
 have hp' : tmps[p]?.getD undef = .pointer (some ⟨g, 0, none⟩) := by simpa using hp
 have hu' : tmps[q]?.getD undef = v := by simpa using hu
 have hl := run_loadVar_row (P := Tryz.prog) w g 26 26 #[x, y, z, u] (0, 0) _ hg Tryz.underlying26 rfl info_wal
 simp [results, h, hp', hu', asAddr, hl, Result.andThen]
theorem put4 {w : World} {g : Nat} {x y z u x' y' z' u' : Value} (h : Blok w g 26 #[x', y', z', u']) : Blok ((((w.setCell ⟨g, 0, none⟩ x).setCell ⟨g, 1, none⟩ y).setCell ⟨g, 2, none⟩ z).setCell ⟨g, 3, none⟩ u) g 26 #[x, y, z, u] := by
 simpa using (((h.set 0 x).set 1 y).set 2 z).set 3 u
theorem put4_grown {w : World} {g : Nat} (x y z u : Value) : w.grownBy ((((w.setCell ⟨g, 0, none⟩ x).setCell ⟨g, 1, none⟩ y).setCell ⟨g, 2, none⟩ z).setCell ⟨g, 3, none⟩ u) (some g) := ((put2_grown x y).trans (zf3 _ g 2 z)).trans (zf3 _ g 3 u)
theorem below4 {B : Nat} {w w' : World} {b : Nat} (h : Below B w w') (hb : B <= b) (x y z u : Value) : Below B w ((((w'.setCell ⟨b, 0, none⟩ x).setCell ⟨b, 1, none⟩ y).setCell ⟨b, 2, none⟩ z).setCell ⟨b, 3, none⟩ u) := ((zf1 h hb 0 1 x y).setCell (p := ⟨b, 2, none⟩) hb z).setCell (p := ⟨b, 3, none⟩) hb u
def RetW (r : T) (w : World) (e : Ending) (w' : World) : Prop :=
 ∃ a n c ys, e = .returned (.agg #[.int .i64 r.1.1, .slice a n c, .int .i64 r.2.1, .int .i64 r.2.2]) /\ Hid (zf0 w' a n c ys) /\ Hid (FP.files ys = r.1.2) /\ Hid (∀ b, b < w.heap.size -> dFar b a ys) /\ Below w.heap.size w w'
def RetX (r : T × Int) (w : World) (e : Ending) (w' : World) : Prop :=
 ∃ a n c ys, e = .returned (.tuple #[.agg #[.int .i64 r.1.1.1, .slice a n c, .int .i64 r.1.2.1, .int .i64 r.1.2.2], .int .i64 r.2]) /\ Hid (zf0 w' a n c ys) /\ Hid (FP.files ys = r.1.1.2) /\ Hid (∀ b, b < w.heap.size -> dFar b a ys) /\ Below w.heap.size w w'
end G
end Go.Proofs.YtnbkkjcmblfhpaaGreat
namespace Go.Proofs.YtnbkkjcmblfhpaaGreat
set_option maxHeartbeats 1000000
set_option maxRecDepth 100000
open Go.RowKit
theorem R.head_len (D : List Int) : ((R.head D).2.1.2).length <= 1000 := by
 unfold R.head
 split
 ·simp
 split
 ·simp
 split
 ·simp
 split
 ·simp
 split
 ·simp only [List.length_take]; omega
 ·simp
theorem R.get_len (L : List Int) (p : Int) : ((R.get L p).2.1.2).length <= 1000 := by
 unfold R.get
 split
 ·simp
 ·exact R.head_len _
namespace G
noncomputable def firstL (L : List Int) : Y.St × Int × Bool := match first L with | some x => (x.1, x.2, true) | none => (J.s00, 0, false)
theorem first_no {L B : List Int} {er kd en : Int} (hg : R.get L 0 = (er, (kd, B), en)) (h : ¬ (er = 0 /\ kd = 1)) : firstL L = (J.s00, 0, false) := by
 unfold firstL first
 rw [hg, if_neg h]
theorem first_yes {L B : List Int} {en : Int} {t : Y.St} {v : Bool} (hg : R.get L 0 = (0, (1, B), en)) (ht : (J.read B).getD J.s00 = t) (hv : (J.read B).isSome = v) : firstL L = (t, (if v = true then en else 0), v) := by
 unfold firstL first
 rw [hg, if_pos ⟨rfl, rfl⟩]
 subst ht hv
 cases h : J.read B <;> rfl
theorem ret_first {fn : Func} {p q r : Tmp} (h : fn.results = #[.cell p 37, .tmp q, .tmp r]) {tmps : Array Value} {V : World} (g : Nat) {cs : Array Value} {v u : Value} (hz : cs.size = 16)
  (hp : tmps.getD p undef = .pointer (some ⟨g, 0, none⟩)) (hq : tmps.getD q undef = v) (hr : tmps.getD r undef = u) (hg : Blok V g 37 cs) :
  (results fn tmps).run Tryz.prog V = .ok (.tuple #[.agg cs, v, u]) V := by
 have hp' : tmps[p]?.getD undef = .pointer (some ⟨g, 0, none⟩) := by simpa using hp
 have hq' : tmps[q]?.getD undef = v := by simpa using hq
 have hr' : tmps[r]?.getD undef = u := by simpa using hr
 have hl := run_loadVar_row (P := Tryz.prog) V g 37 37 cs (0, 0) _ hg Tryz.underlying37 rfl (by rw [hz]; kernel_rfl)
 simp [results, h, hp', hq', hr', asAddr, hl, Result.andThen]
theorem got0 (w : World) (H : Nat) : J.Got w H J.s00 Y.a0 := ⟨⟨QIn.nil w, RIn.nil w, RIn.nil w⟩, ⟨fun _ h => (nomatch h), fun _ h => (nomatch h), fun _ h => (nomatch h)⟩⟩
end G
theorem zw4 (er kd en : Int) (B : List Int) (a : Option Addr) (len cap : Nat) (p : Int) (L : List Int) (hg : R.get L p = (er, (kd, B), en)) (w : World) (h9 : len <= 90000) (hl : L.length = len) (h : zfv .u8 w a cap L) (hn : a = none -> len = 0 /\ cap = 0) :
  Calls Tryz.prog 57 #[.slice a len cap, .int .i64 p] w fun e w' => ∃ b n c, e = .returned (.tuple #[.agg #[.int .i64 kd, .slice b n c], .int .i64 en, .int .i64 er]) /\ Hid (B.length = n) /\ Hid (zfv .u8 w' b c B) /\ Hid (b = none -> n = 0 /\ c = 0) /\ Below w.heap.size w w' := by
 refine (zw3 a len cap p L w h9 hl h hn).mono ?_
 rintro e w' ⟨b, n, c, he, h1, h2, h3, _, hb⟩
 rw [hg] at he h1 h2
 exact ⟨b, n, c, he, h1, h2, h3, hb⟩
theorem G.first_any (t : Y.St) (en : Int) (v : Bool) (a : Option Addr) (len cap : Nat) (L : List Int) (hr : G.firstL L = (t, en, v)) (w : World) (h9 : len <= 90000) (hlen : L.length = len) (h : zfv .u8 w a cap L) (hnil : a = none -> len = 0 /\ cap = 0) :
  Calls Tryz.prog 23 #[.slice a len cap] w fun e w' => ∃ (xap : Option Addr) (xnp xcp : Nat) (xal : Option Addr) (xnl xcl : Nat) (xah : Option Addr) (xnh xch : Nat), e = .returned (.tuple #[.agg #[.int .i64 t.d.b, .int .i64 t.d.k, .int .i64 t.d.c, .int .i64 t.d.j, .int .i64 t.d.lo, .int .i64 t.d.hi, .int .i64 t.d.dy, .int .i64 t.d.bl, .int .i64 t.p.q, .int .i64 t.p.i, .int .i64 t.p.h, .bool t.p.pair, .int .i64 t.now, .slice xap xnp xcp, .slice xal xnl xcl, .slice xah xnh xch], .int .i64 en, .bool v]) /\ Hid (J.Got w' w.heap.size t ⟨xap, xnp, xcp, xal, xnl, xcl, xah, xnh, xch⟩) /\ Below w.heap.size w w' := by
 have HB0 := Zh (Below.refl w.heap.size w)
 have HR0 := Zh (h)
 have HL := Zh (And.intro hlen (And.intro hnil h9))
 have HT := Zh hr
 obtain ⟨⟨er, ⟨kd, B⟩, en'⟩, hg⟩ : ∃ x, R.get L 0 = x := ⟨_, rfl⟩
 have HG := Zh hg
 have hbl := R.get_len L 0
 rw [hg] at hbl
 have HBL : Hid (B.length <= 1000) := Zh hbl
 clear h hlen hnil h9 hr hg hbl
 obtain ⟨w1, hw1, hb, hk⟩ := Zn w 37 #[.int .i64 0, .int .i64 0, .int .i64 0, .int .i64 0, .int .i64 0, .int .i64 0, .int .i64 0, .int .i64 0, .int .i64 0, .int .i64 0, .int .i64 0, .bool false, .int .i64 0, .slice none 0 0, .slice none 0 0, .slice none 0 0]
 replace HR0 := Zh (HR0.out.below hb)
 have HB1 := Zt HB0 hb
 have KZ1 := Zh hk
 clear hb hk HB0
 go_enter Tryz.func23, Tryz.ntmps23
 go_wp2_with fail
 try rw [hw1]
 refine (zw4 er kd en' B a len cap 0 L HG.out w1 HL.out.2.2 HL.out.1 HR0.out HL.out.2.1).mono ?_
 rintro e w2 ⟨b1, n1, c1, rfl, hbn, hrow, hbz, hb⟩
 replace HR0 := Zh (HR0.out.below hb)
 have KZ2 := Zk KZ1 hb
 have HB2 := Zt HB1 hb
 clear hb KZ1 HB1
 have HW2 := hrow
 clear hrow hw1
 obtain ⟨w3, hw3, hb, hk⟩ := Zn w2 68 #[.int .i64 kd, .slice b1 n1 c1]
 replace HR0 := Zh (HR0.out.below hb)
 have KZ3 := Zk KZ2 hb
 replace HW2 := Zh (HW2.out.below hb)
 have HB3 := Zt HB2 hb
 have KB3 := Zh hk
 clear hb hk KZ2 HB2
 obtain ⟨wz3, hz3⟩ : ∃ W, w2.alloc (.cells #[.int .i64 0, .slice none 0 0] 68) = W := ⟨_, rfl⟩
 have HZK3 : Hid (Blok wz3 w2.heap.size 68 #[.int .i64 0, .slice none 0 0]) := Zh (by rw [<- hz3]; exact Blok.new w2 _ _)
 have HPZ3 : Hid (wz3.setRow w2.heap.size #[.int .i64 kd, .slice b1 n1 c1] = w3) := Zh (by rw [<- hz3, World.setRow_alloc_new, hw3])
 clear hw3
 have HLT0 := Zh KZ3.out.lt
 have y0 := Zv KB3.out 0 (.int .i64 kd)
 have y1 := Zv KB3.out 1 (.slice b1 n1 c1)
 by_cases k0 : er = 0
 rotate_left
 ·have e0 : (er != 0) = true := by simpa using k0
  obtain ⟨w4, hp4⟩ : ∃ W, w3.setRow (w.heap.size) #[.int .i64 0, .int .i64 0, .int .i64 0, .int .i64 0, .int .i64 0, .int .i64 0, .int .i64 0, .int .i64 0, .int .i64 0, .int .i64 0, .int .i64 0, .bool false, .int .i64 0, .slice none 0 0, .slice none 0 0, .slice none 0 0] = W := ⟨_, rfl⟩
  have hg4 : w3.grownBy w4 (some (w.heap.size)) := by rw [<- hp4]; exact zbr _ _ _
  have HP4 := Zh hp4
  have KZ4 : Hid (Blok w4 (w.heap.size) 37 #[.int .i64 0, .int .i64 0, .int .i64 0, .int .i64 0, .int .i64 0, .int .i64 0, .int .i64 0, .int .i64 0, .int .i64 0, .int .i64 0, .int .i64 0, .bool false, .int .i64 0, .slice none 0 0, .slice none 0 0, .slice none 0 0]) := Zh (by rw [<- hp4]; exact KZ3.out.put _)
  have HB4 := Zh (HB3.out.grown hg4 HB3.out.size (fun q hq => by cases hq; exact Nat.le_refl _))
  clear hp4 hg4 HR0 HW2 KB3 HB3
  go_wp2_with (first | (refine Zw HZK3.out HPZ3.out ?_) | (refine Zw KZ3.out HP4.out ?_))
  refine bodyPost_ret (G.ret_first (v := .int .i64 0) (u := .bool false) rfl w.heap.size rfl (by kernel_rfl) (by kernel_rfl) (by kernel_rfl) KZ4.out) rfl ?_
  have hn := (G.first_no HG.out (fun hh => k0 hh.1)).symm.trans HT.out
  simp only [Prod.mk.injEq] at hn
  obtain ⟨rfl, rfl, rfl⟩ := hn
  exact ⟨none, 0, 0, none, 0, 0, none, 0, 0, rfl, Zh (G.got0 _ _), HB4.out⟩
 subst k0
 have e0 : ((0 : Int) != 0) = false := rfl
 by_cases k1 : kd = 1
 rotate_left
 ·have e1 : (kd != 1) = true := by simpa using k1
  obtain ⟨w4, hp4⟩ : ∃ W, w3.setRow (w.heap.size) #[.int .i64 0, .int .i64 0, .int .i64 0, .int .i64 0, .int .i64 0, .int .i64 0, .int .i64 0, .int .i64 0, .int .i64 0, .int .i64 0, .int .i64 0, .bool false, .int .i64 0, .slice none 0 0, .slice none 0 0, .slice none 0 0] = W := ⟨_, rfl⟩
  have hg4 : w3.grownBy w4 (some (w.heap.size)) := by rw [<- hp4]; exact zbr _ _ _
  have HP4 := Zh hp4
  have KZ4 : Hid (Blok w4 (w.heap.size) 37 #[.int .i64 0, .int .i64 0, .int .i64 0, .int .i64 0, .int .i64 0, .int .i64 0, .int .i64 0, .int .i64 0, .int .i64 0, .int .i64 0, .int .i64 0, .bool false, .int .i64 0, .slice none 0 0, .slice none 0 0, .slice none 0 0]) := Zh (by rw [<- hp4]; exact KZ3.out.put _)
  have HB4 := Zh (HB3.out.grown hg4 HB3.out.size (fun q hq => by cases hq; exact Nat.le_refl _))
  clear hp4 hg4 HR0 HW2 KB3 HB3
  go_wp2_with (first | (refine Zw HZK3.out HPZ3.out ?_) | (refine Zw KZ3.out HP4.out ?_))
  refine bodyPost_ret (G.ret_first (v := .int .i64 0) (u := .bool false) rfl w.heap.size rfl (by kernel_rfl) (by kernel_rfl) (by kernel_rfl) KZ4.out) rfl ?_
  have hn := (G.first_no HG.out (fun hh => k1 hh.2)).symm.trans HT.out
  simp only [Prod.mk.injEq] at hn
  obtain ⟨rfl, rfl, rfl⟩ := hn
  exact ⟨none, 0, 0, none, 0, 0, none, 0, 0, rfl, Zh (G.got0 _ _), HB4.out⟩
 subst k1
 have e1 : ((1 : Int) != 1) = false := rfl
 obtain ⟨u, hu⟩ : ∃ u, (J.read B).getD J.s00 = u := ⟨_, rfl⟩
 obtain ⟨v', hv'⟩ : ∃ v, (J.read B).isSome = v := ⟨_, rfl⟩
 have HU := Zh hu
 have HV' := Zh hv'
 clear hu hv'
 go_wp2_with (refine Zw HZK3.out HPZ3.out ?_)
 refine (znb u v' b1 n1 c1 B HU.out HV'.out w3 (by have h1 := HBL.out; have h2 := hbn.out; omega) hbn.out HW2.out hbz.out).mono ?_
 rintro e w4 ⟨xap, xnp, xcp, xal, xnl, xcl, xah, xnh, xch, rfl, hG, hb⟩
 replace HR0 := Zh (HR0.out.below hb)
 have KZ4 := Zk KZ3 hb
 replace HW2 := Zh (HW2.out.below hb)
 replace KB3 := Zk KB3 hb
 have HB4 := Zt HB3 hb
 clear hb KZ3 HB3
 have HGx4 := hG
 have HLT : Hid (w.heap.size < w3.heap.size) := HLT0
 clear hG y0 y1
 obtain ⟨w5, hw5, hb, hk⟩ := Zn w4 37 #[.int .i64 u.d.b, .int .i64 u.d.k, .int .i64 u.d.c, .int .i64 u.d.j, .int .i64 u.d.lo, .int .i64 u.d.hi, .int .i64 u.d.dy, .int .i64 u.d.bl, .int .i64 u.p.q, .int .i64 u.p.i, .int .i64 u.p.h, .bool u.p.pair, .int .i64 u.now, .slice xap xnp xcp, .slice xal xnl xcl, .slice xah xnh xch]
 replace HR0 := Zh (HR0.out.below hb)
 have KZ5 := Zk KZ4 hb
 replace HW2 := Zh (HW2.out.below hb)
 replace KB3 := Zk KB3 hb
 replace HGx4 := Zh (HGx4.out.below hb)
 have HB5 := Zt HB4 hb
 have KT5 := Zh hk
 clear hb hk KZ4 HB4
 obtain ⟨wz5, hz5⟩ : ∃ W, w4.alloc (.cells #[.int .i64 0, .int .i64 0, .int .i64 0, .int .i64 0, .int .i64 0, .int .i64 0, .int .i64 0, .int .i64 0, .int .i64 0, .int .i64 0, .int .i64 0, .bool false, .int .i64 0, .slice none 0 0, .slice none 0 0, .slice none 0 0] 37) = W := ⟨_, rfl⟩
 have HZK5 : Hid (Blok wz5 w4.heap.size 37 #[.int .i64 0, .int .i64 0, .int .i64 0, .int .i64 0, .int .i64 0, .int .i64 0, .int .i64 0, .int .i64 0, .int .i64 0, .int .i64 0, .int .i64 0, .bool false, .int .i64 0, .slice none 0 0, .slice none 0 0, .slice none 0 0]) := Zh (by rw [<- hz5]; exact Blok.new w4 _ _)
 have HPZ5 : Hid (wz5.setRow w4.heap.size #[.int .i64 u.d.b, .int .i64 u.d.k, .int .i64 u.d.c, .int .i64 u.d.j, .int .i64 u.d.lo, .int .i64 u.d.hi, .int .i64 u.d.dy, .int .i64 u.d.bl, .int .i64 u.p.q, .int .i64 u.p.i, .int .i64 u.p.h, .bool u.p.pair, .int .i64 u.now, .slice xap xnp xcp, .slice xal xnl xcl, .slice xah xnh xch] = w5) := Zh (by rw [<- hz5, World.setRow_alloc_new, hw5])
 clear hw5
 have hn := (G.first_yes HG.out HU.out HV'.out).symm.trans HT.out
 simp only [Prod.mk.injEq] at hn
 obtain ⟨rfl, hen, rfl⟩ := hn
 have HEN := Zh hen
 clear hen
 cases v' with
 | false =>
  have hq : J.read B = none := by cases h : J.read B with
   | none => rfl
   | some x => have h1 := HV'.out; rw [h] at h1; cases h1
  obtain rfl : J.s00 = u := by have h1 := HU.out; rw [hq] at h1; exact h1
  obtain rfl : (0 : Int) = en := HEN.out
  clear hq
  obtain ⟨w6, hp6⟩ : ∃ W, w5.setRow (w.heap.size) #[.int .i64 0, .int .i64 0, .int .i64 0, .int .i64 0, .int .i64 0, .int .i64 0, .int .i64 0, .int .i64 0, .int .i64 0, .int .i64 0, .int .i64 0, .bool false, .int .i64 0, .slice none 0 0, .slice none 0 0, .slice none 0 0] = W := ⟨_, rfl⟩
  have hg6 : w5.grownBy w6 (some (w.heap.size)) := by rw [<- hp6]; exact zbr _ _ _
  have HP6 := Zh hp6
  have KZ6 : Hid (Blok w6 (w.heap.size) 37 #[.int .i64 0, .int .i64 0, .int .i64 0, .int .i64 0, .int .i64 0, .int .i64 0, .int .i64 0, .int .i64 0, .int .i64 0, .int .i64 0, .int .i64 0, .bool false, .int .i64 0, .slice none 0 0, .slice none 0 0, .slice none 0 0]) := Zh (by rw [<- hp6]; exact KZ5.out.put _)
  have HB6 := Zh (HB5.out.grown hg6 HB5.out.size (fun q hq => by cases hq; exact Nat.le_refl _))
  clear hp6 hg6 HR0 HW2 KB3 HGx4 KT5 HB5
  go_wp2_with (first | (refine Zw HZK5.out HPZ5.out ?_) | (refine Zw KZ5.out HP6.out ?_))
  refine bodyPost_ret (G.ret_first (v := .int .i64 0) (u := .bool false) rfl w.heap.size rfl (by kernel_rfl) (by kernel_rfl) (by kernel_rfl) KZ6.out) rfl ?_
  exact ⟨none, 0, 0, none, 0, 0, none, 0, 0, rfl, Zh (G.got0 _ _), HB6.out⟩
 | true =>
  obtain rfl : en' = en := HEN.out
  have HKT := KT5
  obtain ⟨w6, hp6⟩ : ∃ W, w5.setRow (w.heap.size) #[.int .i64 u.d.b, .int .i64 u.d.k, .int .i64 u.d.c, .int .i64 u.d.j, .int .i64 u.d.lo, .int .i64 u.d.hi, .int .i64 u.d.dy, .int .i64 u.d.bl, .int .i64 u.p.q, .int .i64 u.p.i, .int .i64 u.p.h, .bool u.p.pair, .int .i64 u.now, .slice xap xnp xcp, .slice xal xnl xcl, .slice xah xnh xch] = W := ⟨_, rfl⟩
  have hg6 : w5.grownBy w6 (some (w.heap.size)) := by rw [<- hp6]; exact zbr _ _ _
  have HP6 := Zh hp6
  have KZ6 : Hid (Blok w6 (w.heap.size) 37 #[.int .i64 u.d.b, .int .i64 u.d.k, .int .i64 u.d.c, .int .i64 u.d.j, .int .i64 u.d.lo, .int .i64 u.d.hi, .int .i64 u.d.dy, .int .i64 u.d.bl, .int .i64 u.p.q, .int .i64 u.p.i, .int .i64 u.p.h, .bool u.p.pair, .int .i64 u.now, .slice xap xnp xcp, .slice xal xnl xcl, .slice xah xnh xch]) := Zh (by rw [<- hp6]; exact KZ5.out.put _)
  have HGx6 := Zh (HGx4.out.far hg6 (HLT.out))
  have HB6 := Zh (HB5.out.grown hg6 HB5.out.size (fun q hq => by cases hq; exact Nat.le_refl _))
  clear hp6 hg6 HR0 HW2 KB3 HGx4 KT5 HB5
  go_wp2_with (first | (refine Zw HZK5.out HPZ5.out ?_) | (refine zak HKT.out rfl rfl (by kernel_rfl) Tryz.underlying37 rfl (by kernel_rfl) ?_) | (refine Zw KZ5.out HP6.out ?_))
  refine bodyPost_ret (G.ret_first (v := .int .i64 en') (u := .bool true) rfl w.heap.size rfl (by kernel_rfl) (by kernel_rfl) (by kernel_rfl) KZ6.out) rfl ?_
  exact ⟨xap, xnp, xcp, xal, xnl, xcl, xah, xnh, xch, rfl, Zh (HGx6.out.down (Nat.le_of_lt HLT.out)), HB6.out⟩
end Go.Proofs.YtnbkkjcmblfhpaaGreat
namespace Go.Proofs.YtnbkkjcmblfhpaaGreat
set_option maxHeartbeats 1000000
set_option maxRecDepth 100000
open Go.RowKit
namespace G
theorem first_may {L : List Int} {t : Y.St} {en : Int} (h : firstL L = (t, en, true)) : Y.May t := by
 unfold firstL at h
 cases hf : first L with
 | none => rw [hf] at h; simp at h
 | some x =>
  rw [hf] at h
  simp only [Prod.mk.injEq, and_true] at h
  unfold first at hf
  split at hf
  ·cases hr : J.read (R.get L 0).2.1.2 with
   | none => rw [hr] at hf; cases hf
   | some s =>
    rw [hr] at hf
    cases hf
    rw [<- h.1]
    exact (J.zc7.1 (J.read_some.1 hr)).1.1
  ·cases hf
theorem old_few {l : List D.F} (now : Int) (h : l.length < 2) : isOld l now = false := by
 match l, h with
 | [], _ => rfl
 | [_], _ => rfl
theorem old_at {l : List D.F} {f : D.F} (now : Int) (h : l[1]? = some f) {t : Y.St} {en : Int} {v : Bool} (hf : firstL f.2.1 = (t, en, v)) : isOld l now = (v && decide (t.now + 1000 <= now)) := by
 match l, h with
 | q :: g :: r, h =>
  obtain rfl : g = f := by simpa using h
  have e : isOld (q :: g :: r) now = (match first g.2.1 with | some x => decide (x.1.now + 1000 <= now) | none => false) := rfl
  rw [e]
  unfold firstL at hf
  cases hq : first g.2.1 with
  | none => rw [hq] at hf; simp only [Prod.mk.injEq] at hf; rw [<- hf.2.2]; rfl
  | some x => rw [hq] at hf; simp only [Prod.mk.injEq] at hf; rw [<- hf.2.2, <- hf.1]; rfl
end G
theorem G.old_any (now : Int) (v : Bool) (a : Option Addr) (n c : Nat) (xs : List FP) (w : World) (hd : zf0 w a n c xs) (hs : D.small (FP.files xs)) (hv : G.isOld (FP.files xs) now = v) :
  Calls Tryz.prog 54 #[.slice a n c, .int .i64 now] w fun e w' => e = .returned (.bool v) /\ Below w.heap.size w w' := by
 have HB0 := Zh (Below.refl w.heap.size w)
 have HD0 := Zh (hd)
 have hcap := hd.caps
 have hml : maxLen <= 9223372036854775807 := by decide
 have HV := Zh hv
 have HS := Zh hs
 clear hd hv hs
 by_cases h2 : n < 2
 ·have d0 : decide ((n : Int) < 2) = true := by simp; omega
  have HE : Hid (v = false) := Zh (by rw [<- HV.out]; exact G.old_few now (by rw [FP.files_len, HD0.out.1]; exact h2))
  go_enter Tryz.func54, Tryz.ntmps54
  go_wp2
  go_ret
  exact ⟨by rw [HE.out]; rfl, Below.refl _ _⟩
 have d0 : decide ((n : Int) < 2) = false := by simp; omega
 obtain ⟨b, off, no, a', n', c', B, s, rfl, hlt, hx, p0, p1, p2, hok⟩ := HD0.out.2.1.at (i := 1) (by rw [HD0.out.1]; omega)
 have HOK := Zh hok
 have hbl : B.length <= 70000 := HS.out.2 (no, B, s) (List.mem_map.2 ⟨_, List.mem_of_getElem? hx, rfl⟩)
 obtain ⟨⟨t, en, v'⟩, hq⟩ : ∃ x, G.firstL B = x := ⟨_, rfl⟩
 have HQ := Zh hq
 have HE : Hid (v = (v' && decide (t.now + 1000 <= now))) := Zh (by rw [<- HV.out]; exact G.old_at now (f := (no, B, s)) (by unfold FP.files; rw [List.getElem?_map, hx]; rfl) hq)
 have HB9 := Zh hbl
 clear hx hok p0 p2 hq hbl
 have j0 : (0 : Int) <= 1 := by decide
 have j1 : (1 : Int) < n := by omega
 simp only [Nat.one_mul] at p1
 go_enter Tryz.func54, Tryz.ntmps54
 go_wp2_with fail
 refine (G.first_any t en v' a' n' c' B HQ.out w (by have h1 := HB9.out; have h3 := HOK.out.1; simp only at h3; omega) HOK.out.1 HOK.out.2.1 HOK.out.2.2).mono ?_
 rintro e w1 ⟨xap, xnp, xcp, xal, xnl, xcl, xah, xnh, xch, rfl, hG, hb⟩
 replace HD0 := Zh (HD0.out.below hb)
 replace HB0 := Zt HB0 hb
 clear hb
 clear hG p1
 obtain ⟨w2, hw2, hb, hk⟩ := Zn w1 37 #[.int .i64 t.d.b, .int .i64 t.d.k, .int .i64 t.d.c, .int .i64 t.d.j, .int .i64 t.d.lo, .int .i64 t.d.hi, .int .i64 t.d.dy, .int .i64 t.d.bl, .int .i64 t.p.q, .int .i64 t.p.i, .int .i64 t.p.h, .bool t.p.pair, .int .i64 t.now, .slice xap xnp xcp, .slice xal xnl xcl, .slice xah xnh xch]
 replace HD0 := Zh (HD0.out.below hb)
 replace HB0 := Zt HB0 hb
 have KT2 := Zh hk
 clear hb hk
 obtain ⟨wz2, hz2⟩ : ∃ W, w1.alloc (.cells #[.int .i64 0, .int .i64 0, .int .i64 0, .int .i64 0, .int .i64 0, .int .i64 0, .int .i64 0, .int .i64 0, .int .i64 0, .int .i64 0, .int .i64 0, .bool false, .int .i64 0, .slice none 0 0, .slice none 0 0, .slice none 0 0] 37) = W := ⟨_, rfl⟩
 have HZK2 : Hid (Blok wz2 w1.heap.size 37 #[.int .i64 0, .int .i64 0, .int .i64 0, .int .i64 0, .int .i64 0, .int .i64 0, .int .i64 0, .int .i64 0, .int .i64 0, .int .i64 0, .int .i64 0, .bool false, .int .i64 0, .slice none 0 0, .slice none 0 0, .slice none 0 0]) := Zh (by rw [<- hz2]; exact Blok.new w1 _ _)
 have HPZ2 : Hid (wz2.setRow w1.heap.size #[.int .i64 t.d.b, .int .i64 t.d.k, .int .i64 t.d.c, .int .i64 t.d.j, .int .i64 t.d.lo, .int .i64 t.d.hi, .int .i64 t.d.dy, .int .i64 t.d.bl, .int .i64 t.p.q, .int .i64 t.p.i, .int .i64 t.p.h, .bool t.p.pair, .int .i64 t.now, .slice xap xnp xcp, .slice xal xnl xcl, .slice xah xnh xch] = w2) := Zh (by rw [<- hz2, World.setRow_alloc_new, hw2])
 clear hw2
 have y12 := Zv KT2.out 12 (.int .i64 t.now)
 cases v' with
 | false =>
  go_wp2_with (refine Zw HZK2.out HPZ2.out ?_)
  go_ret
  exact ⟨by rw [HE.out]; rfl, HB0.out⟩
 | true =>
  have HMT := Zh (G.first_may HQ.out)
  have hn0 : 0 <= t.now /\ t.now <= 1073741824 := HMT.out.2.2.2.1
  have hw : IntKind.i64.wrap (t.now + 1000) = t.now + 1000 := by rw [IntKind.wrap_i64]; omega
  obtain ⟨u, hu⟩ : ∃ u, decide (t.now + 1000 <= now) = u := ⟨_, rfl⟩
  have HE2 : Hid (v = u) := Zh (by rw [HE.out, hu]; rfl)
  go_wp2_with (refine Zw HZK2.out HPZ2.out ?_)
  go_ret
  exact ⟨by rw [HE2.out]; rfl, HB0.out⟩
end Go.Proofs.YtnbkkjcmblfhpaaGreat
namespace Go.Proofs.YtnbkkjcmblfhpaaGreat
open Go.RowKit
def RowC (w : World) (size : Nat) (a : Option Addr) (n c : Nat) (cs : List Value) : Prop :=
 cs.length = n * size /\ (n <= c /\ c <= maxLen) /\ (a = none -> n = 0 /\ c = 0) /\ (∀ u ∈ cs, u.oneCell' = true) /\ ∀ x, a = some x -> ∀ i u, cs[i]? = some u -> w.cell? (x.add i) = some u
def zym (B : Nat) (w : World) (e : TypeId) (size : Nat) (v : Value) (p : Nat) (cs : List Value) : Prop :=
 (∃ a, v = .slice a p p /\ RowC w size a p p cs) \/ w.ownsRow B e size v p cs
theorem zf0.rowC {w : World} {a : Option Addr} {n c : Nat} {xs : List FP} (h : zf0 w a n c xs) : RowC w 3 a n c (FP.flat xs) := by
 refine ⟨by rw [FP.flat_len, h.1], h.caps, h.2.2, FP.flat_one xs, fun x hx i u hu => ?_⟩
 rcases h.2.1.2.2 with rfl | ⟨b, off, he, _, hc⟩
 ·simp [FP.flat] at hu
 ·rw [he] at hx; cases hx
  rw [WideShapes.add_plain]; exact hc i u hu
theorem zfv.rowC {w : World} {a : Option Addr} {n c : Nat} {L : List Int} (h : zfv .u8 w a c L) (hn : L.length = n) (hz : a = none -> n = 0 /\ c = 0) : RowC w 1 a n c (L.map (Value.int .u8)) := by
 refine ⟨by simp [hn], by have := h.1; omega, hz, zoh _ L, fun x hx i u hu => ?_⟩
 rcases h.2.2 with rfl | ⟨b, off, he, _, hc⟩
 ·simp at hu
 ·rw [he] at hx; cases hx
  obtain ⟨h1, h2⟩ := List.getElem?_eq_some_iff.1 hu
  simp at h1
  rw [WideShapes.add_plain, hc i h1, <- h2]
  simp [h1]
theorem zue {w : World} (t ty e : TypeId) (i : TypeInfo) (ht : Tryz.prog.underlying t = some (.slice e)) (hi : Tryz.prog.info? e = some i) (a : Option Addr) (p cp : Nat) (hp : p <= cp) (ad : Option Addr) (c : Nat) :
  (Builtin.append_ #[t, t] ty #[.slice a p cp, .slice ad 0 c]).run Tryz.prog w = .ok (.slice a p cp) w := by
 have hl : ∀ x, (loadCells x 0).run Tryz.prog w = .ok #[] w := fun x => by simpa using run_loadCells_list (P := Tryz.prog) w x [] (by simp)
 cases a <;> cases ad <;> simp [Builtin.append_, run_underlying ht, sizeOf, typeInfo, hi, Builtin.lenOf, Builtin.firstCells, hp, storeCells, hl, Result.andThen]
theorem zvl {w : World} {B : Nat} (t ty e : TypeId) (i : TypeInfo) (z : Value) (size bytes : Nat) (ht : Tryz.prog.underlying t = some (.slice e)) (hi : Tryz.prog.info? e = some i) (hz : i.zero = some z)
  (hsize : i.size = size) (hby : i.bytes = bytes) (hzs : z.cells.size = size) (hsz : 0 < size) {v : Value} {p : Nat} {cs : List Value} (hg : zym B w e size v p cs)
  {ad : Option Addr} {m c : Nat} {ds : List Value} (hx : RowC w size ad m c ds) (h63 : p + m <= maxLen) (hbytes : (p + m) * bytes <= 140737488355328) (hB : B <= w.heap.size) :
  ∃ v' w' row, (Builtin.append_ #[t, t] ty #[v, .slice ad m c]).run Tryz.prog w = .ok v' w' /\ ((v' = v /\ w' = w /\ m = 0) \/ w'.ownsRow B e size v' (p + m) (cs ++ ds)) /\ w.grownBy w' row /\ ∀ k, row = some k -> B <= k := by
 have same : w.grownBy w none := ⟨rfl, rfl, rfl, Nat.le_refl _, fun _ _ _ => rfl⟩
 by_cases hm : m = 0
 ·subst hm
  rcases hg with ⟨a, rfl, hr⟩ | ho
  ·exact ⟨_, _, none, zue t ty e i ht hi a p p (Nat.le_refl _) ad c, .inl ⟨rfl, rfl, rfl⟩, same, fun _ h => by cases h⟩
  ·rcases ho.2 with ⟨rfl, rfl⟩ | ⟨g, cap, cur, rfl, _, _, hc, _⟩
   ·exact ⟨_, _, none, zue t ty e i ht hi none 0 0 (Nat.le_refl _) ad c, .inl ⟨rfl, rfl, rfl⟩, same, fun _ h => by cases h⟩
   ·exact ⟨_, _, none, zue t ty e i ht hi _ p cap hc ad c, .inl ⟨rfl, rfl, rfl⟩, same, fun _ h => by cases h⟩
 ·cases ad with
  | none => exact absurd (hx.2.2.1 rfl).1 hm
  | some x =>
   have hnew : ∀ j u, ds[j]? = some u -> w.cell? (x.add j) = some u := hx.2.2.2.2 x rfl
   rcases hg with ⟨a, rfl, hr⟩ | ho
   ·cases a with
    | some b =>
     obtain ⟨v', w', h1, h2, h3⟩ := run_append_arg_grows (P := Tryz.prog) w t ty e i z size bytes ht hi hz hsize hby hzs hsz b p p cs hr.1 (hr.2.2.2.2 b rfl) x m c ds hx.1 hnew (by omega) h63 hbytes
     exact ⟨v', w', none, h1, .inr (zan h2 hB), h3, fun _ h => by cases h⟩
    | none =>
     obtain ⟨rfl, _⟩ := hr.2.2.1 rfl
     obtain rfl : cs = [] := List.eq_nil_of_length_eq_zero (by have := hr.1; omega)
     obtain ⟨v', w', h1, h2, h3, _⟩ := run_append_own (P := Tryz.prog) w B t ty e i z size bytes ht hi hz hsize hby hzs hsz (.slice none 0 0) 0 [] (World.ownsRow_nil w _ e size) x m c ds hx.1 hnew hx.2.2.2.1 h63 hbytes hB
     exact ⟨v', w', none, h1, .inr h2, h3, fun _ h => by cases h⟩
   ·obtain ⟨v', w', h1, h2, h3, _⟩ := run_append_own (P := Tryz.prog) w B t ty e i z size bytes ht hi hz hsize hby hzs hsz v p cs ho x m c ds hx.1 hnew hx.2.2.2.1 h63 hbytes hB
    exact ⟨v', w', v.ownBlock, h1, .inr h2, h3, fun k hk => (ho.lt k hk).1⟩
def zvx (w0 w : World) (v : Value) (xs : List FP) : Prop :=
 (∃ a, v = .slice a xs.length xs.length /\ zf0 w a xs.length xs.length xs) \/ w.ownsRow w0.heap.size 53 3 v xs.length (FP.flat xs)
theorem zvx.disk {w0 w : World} {v : Value} {xs : List FP} (h : zvx w0 w v xs) (ho : ∀ x ∈ xs, FP.ok w x) : ∃ a c, v = .slice a xs.length c /\ zf0 w a xs.length c xs := by
 rcases h with ⟨a, rfl, hd⟩ | hw
 ·exact ⟨a, _, rfl, hd⟩
 ·obtain ⟨a, c, h1, h2, h3⟩ := zug hw rfl ho
  exact ⟨a, c, h1, rfl, h2, h3⟩
theorem zvx.below {w0 w w' : World} {v : Value} {xs : List FP} (h : zvx w0 w v xs) (hb : Below w.heap.size w w') : zvx w0 w' v xs := by
 rcases h with ⟨a, rfl, hd⟩ | hw
 ·exact .inl ⟨a, rfl, hd.below hb⟩
 ·exact .inr (zab hw hb)
theorem zvd {w0 w : World} (ty : TypeId) {v : Value} {xs : List FP} (hg : zvx w0 w v xs) (hb : Below w0.heap.size w0 w) {ad : Option Addr} {m c : Nat} {ys : List FP} (hx : zf0 w ad m c ys) (h9 : xs.length + m <= 10000) :
  ∃ v' w', (Builtin.append_ #[22, 22] ty #[v, .slice ad m c]).run Tryz.prog w = .ok v' w' /\ zvx w0 w' v' (xs ++ ys) /\ Below w0.heap.size w0 w' /\ ∃ row, w.grownBy w' row /\ (∀ k, row = some k -> w0.heap.size <= k) := by
 obtain ⟨i0, hi, hz0, hz1, hz2⟩ := info_parts zvv
 have hG : zym w0.heap.size w 53 3 v xs.length (FP.flat xs) := by
  rcases hg with ⟨a, rfl, hd⟩ | hw
  ·exact .inl ⟨a, rfl, hd.rowC⟩
  ·exact .inr hw
 obtain ⟨v', w', row, h1, h2, h3, h4⟩ := zvl 22 ty 53 i0 _ 3 40 Tryz.underlying22 hi hz0 hz1 hz2 rfl (by decide) hG hx.rowC (by unfold maxLen; omega) (by omega) hb.size
 refine ⟨v', w', h1, ?_, hb.grown h3 hb.size h4, row, h3, h4⟩
 rcases h2 with ⟨rfl, rfl, hm⟩ | hw
 ·obtain rfl : ys = [] := List.eq_nil_of_length_eq_zero (by rw [hx.1, hm])
  rw [List.append_nil]; exact hg
 ·refine .inr ?_
  rw [List.length_append, hx.1, FP.flat_append]; exact hw
theorem zuj {w w' : World} {ops : Array Oper} {rest : List Oper} {o : Oper} {a : Act} {Q : Exit -> Act -> World -> Prop} (hgd : o.guard = none) {s x : Operand} {t : TypeId} {v xv v' : Value}
  (ho : o.op = .call { callee := .builtin .append, args := #[s, x], argTypes := #[t, t] }) (hs : a.eval s = v) (hx : a.eval x = xv)
  (hrun : (Builtin.append_ #[t, t] o.type #[v, xv]).run Tryz.prog w = .ok v' w') (h : wpList Tryz.prog ops Q rest (a.put o.dst v') w') : wpList Tryz.prog ops Q (o :: rest) a w := by
 refine wpList_plain hgd fun K hK' => ?_
 unfold Oper.wp
 simp [execOp, ho, resolve, invoke, builtin, hs, hx, hrun, Result.andThen]
 exact hK' _ _ h
theorem zwe {w w' : World} {o : Oper} {ρ : Operand -> Value} {s x : Operand} {t : TypeId} {v xv v' : Value}
  (ho : o.op = .call { callee := .builtin .append, args := #[s, x], argTypes := #[t, t] }) (hs : ρ s = v) (hx : ρ x = xv)
  (hrun : (Builtin.append_ #[t, t] o.type #[v, xv]).run Tryz.prog w = .ok v' w') : (execOp ρ o).run Tryz.prog w = .ok (.value v') w' := by
 simp [execOp, ho, resolve, invoke, builtin, hs, hx, hrun, Result.andThen]
end Go.Proofs.YtnbkkjcmblfhpaaGreat
namespace Go.Proofs.YtnbkkjcmblfhpaaGreat
set_option maxRecDepth 100000
open Go.RowKit
def sl3 (a : Option Addr) (l m : Nat) : Option Addr := if m = l then a else a.map (·.add (l * 3))
theorem zx8 {a : Option Addr} {l m : Nat} (h : sl3 a l m = none) : a = none := by
 unfold sl3 at h
 split at h
 ·exact h
 ·simpa using h
theorem FP.flat_part {xs : List FP} {l h i : Nat} {u : Value} (h1 : l <= h) (h2 : h <= xs.length) (hu : (FP.flat ((xs.take h).drop l))[i]? = some u) : (FP.flat xs)[l * 3 + i]? = some u := by
 have e : xs = xs.take l ++ ((xs.take h).drop l ++ xs.drop h) := by
  have e1 : xs.take l = (xs.take h).take l := by rw [List.take_take, Nat.min_eq_left h1]
  rw [<- List.append_assoc, e1, List.take_append_drop, List.take_append_drop]
 have hl : (FP.flat (xs.take l)).length = l * 3 := by rw [FP.flat_len]; simp; omega
 rw [e, FP.flat_append, List.getElem?_append_right (by rw [hl]; omega), hl, Nat.add_sub_cancel_left, FP.flat_append, List.getElem?_append_left (List.getElem?_eq_some_iff.1 hu).1]
 exact hu
theorem zf0.part {w : World} {a : Option Addr} {n c l h m : Nat} {xs : List FP} (hd : zf0 w a n c xs) (h1 : l <= h) (h2 : h <= n) (h3 : h <= m) (h4 : m <= c) : zf0 w (sl3 a l m) (h - l) (m - l) ((xs.take h).drop l) := by
 have hc := hd.caps
 have hl := hd.1
 refine ⟨by simp; omega, ⟨⟨by simp; omega, by omega⟩, fun x hx => hd.2.1.2.1 x (List.mem_of_mem_take (List.mem_of_mem_drop hx)), ?_⟩, fun hn => ?_⟩
 ·by_cases hlh : l = h
  ·exact .inl (List.drop_eq_nil_of_le (by simp; omega))
  ·rcases hd.2.1.2.2 with rfl | ⟨b, off, rfl, hb, hcell⟩
   ·simp at hl; omega
   ·refine .inr ⟨b, off + l * 3, ?_, hb, fun i u hu => ?_⟩
    ·unfold sl3
     rw [if_neg (by omega)]
     simp [WideShapes.add_plain]
    ·rw [Nat.add_assoc]
     exact hcell _ _ (FP.flat_part h1 (by omega) hu)
 ·have := hd.2.2 (zx8 hn); omega
section
variable (a : Option Addr) {len cap : Nat} (w : World)
theorem zyr : (sizeOf (Tryz.prog.elem 22)).run Tryz.prog w = .ok 3 w := by kernel_rfl
theorem zyz : (sizeOf (Tryz.prog.elem 51)).run Tryz.prog w = .ok 1 w := by kernel_rfl
theorem zxm {h m : Nat} (h2 : h <= m) (h3 : m <= cap) : (Instr.sliceAt 22 (.slice a len cap) none (some (.int .i64 (h : Int))) (some (.int .i64 (m : Int)))).run Tryz.prog w = .ok (.slice (sl3 a 0 m) h m) w := by
 rw [run_sliceAt_slice (w := w) (h := Tryz.underlying22), run_slice_hm (w := w) (ht := Tryz.underlying22) (h0 := by omega) (h2 := by omega) (h3 := by omega), zyr]
 simp [Result.andThen, sliced, sl3]
theorem sliceF_h {h : Nat} (h2 : h <= cap) : (Instr.sliceAt 22 (.slice a len cap) none (some (.int .i64 (h : Int))) none).run Tryz.prog w = .ok (.slice (sl3 a 0 cap) h cap) w := by
 rw [run_sliceAt_slice (w := w) (h := Tryz.underlying22), run_slice_h (w := w) (ht := Tryz.underlying22) (h0 := by omega) (h2 := by omega), zyr]
 simp [Result.andThen, sliced, sl3]
theorem zx9 {q : Nat} (h2 : q <= len) : (Instr.sliceAt 22 (.slice a len cap) (some (.int .i64 (q : Int))) none none).run Tryz.prog w = .ok (.slice (sl3 a q cap) (len - q) (cap - q)) w := by
 rw [run_sliceAt_slice (w := w) (h := Tryz.underlying22), run_slice_l (w := w) (ht := Tryz.underlying22) (h0 := by omega) (h1 := by omega), zyr]
 simp [Result.andThen, sliced, sl3]
theorem zvo {a : Option Addr} {len cap : Nat} {o : Oper} {ρ : Operand -> Value} {x lo : Operand} {q : Nat} (ho : o.op = .slice 22 x (some lo) none none) (hx : ρ x = .slice a len cap) (hlo : ρ lo = .int .i64 (q : Int)) (h2 : q <= len) (w : World) :
  (execOp ρ o).run Tryz.prog w = .ok (.value (.slice (sl3 a q cap) (len - q) (cap - q))) w := by
 unfold execOp
 simp only [ho, Option.map_some, Option.map_none, hx, hlo, Sem.run_bind, zx9 a w h2, Result.andThen, Sem.run_pure]
theorem zvy {h m : Nat} (h2 : h <= m) (h3 : m <= cap) : (Instr.sliceAt 51 (.slice a len cap) none (some (.int .i64 (h : Int))) (some (.int .i64 (m : Int)))).run Tryz.prog w = .ok (.slice (sl a 0 m) h m) w := by
 rw [run_sliceAt_slice (w := w) (h := Tryz.underlying51), run_slice_hm (w := w) (ht := Tryz.underlying51) (h0 := by omega) (h2 := by omega) (h3 := by omega), zyz]
 simp [Result.andThen, sliced, sl]
theorem zvg {a : Option Addr} {len cap : Nat} {o : Oper} {ρ : Operand -> Value} {x hi mx : Operand} {h m : Nat} (ho : o.op = .slice 51 x none (some hi) (some mx)) (hx : ρ x = .slice a len cap) (hhi : ρ hi = .int .i64 (h : Int)) (hmx : ρ mx = .int .i64 (m : Int)) (h2 : h <= m) (h3 : m <= cap) (w : World) :
  (execOp ρ o).run Tryz.prog w = .ok (.value (.slice (sl a 0 m) h m)) w := by
 unfold execOp
 simp only [ho, Option.map_some, Option.map_none, hx, hhi, hmx, Sem.run_bind, zvy a w h2 h3, Result.andThen, Sem.run_pure]
theorem zxn (g m : Nat) : sl (some ⟨g, 0, none⟩) 0 m = some ⟨g, 0, none⟩ := by
 unfold sl
 split
 ·rfl
 ·simp [WideShapes.add_plain]
theorem zwo {h : Nat} (h2 : h <= cap) : (Instr.sliceAt 51 (.slice a len cap) none (some (.int .i64 (h : Int))) none).run Tryz.prog w = .ok (.slice (sl a 0 cap) h cap) w := by
 rw [run_sliceAt_slice (w := w) (h := Tryz.underlying51), run_slice_h (w := w) (ht := Tryz.underlying51) (h0 := by omega) (h2 := by omega), zyz]
 simp [Result.andThen, sliced, sl]
end
theorem zvz {w : World} (ty : TypeId) {a : Option Addr} {n : Nat} {L : List Int} (hl : L.length = n) (hr : zfv .u8 w a n L) (ha : a = none -> n = 0) {ad : Option Addr} {m c : Nat} {K : List Int} (hx : zfv .u8 w ad c K) (hm : K.length = m) (hz : ad = none -> m = 0 /\ c = 0) (h9 : n + m <= 100000) :
  ∃ av cv w', (Builtin.append_ #[51, 51] ty #[.slice a n n, .slice ad m c]).run Tryz.prog w = .ok (.slice av (n + m) cv) w' /\ zfv .u8 w' av cv (L ++ K) /\ (av = none -> n + m = 0 /\ cv = 0) /\ Below w.heap.size w w' /\
   ∀ b, b < w.heap.size -> (L = [] \/ ∀ y, a = some y -> y.block ≠ b) -> (L ++ K = [] \/ ∀ y, av = some y -> y.block ≠ b) := by
 subst hl
 obtain ⟨i0, hi, hz0, hz1, hz2⟩ := info_parts zrf
 obtain ⟨v', w', row, h1, h2, h3, h4⟩ := zvl 51 ty 5 i0 _ 1 1 Tryz.underlying51 hi hz0 hz1 hz2 rfl (by decide) (B := w.heap.size) (v := .slice a L.length L.length) (p := L.length) (cs := L.map (Value.int .u8)) (.inl ⟨a, rfl, hr.rowC rfl (fun h => ⟨ha h, ha h⟩)⟩) (hx.rowC hm hz) (by unfold maxLen; omega) (by omega) (Nat.le_refl _)
 have hb : Below w.heap.size w w' := (Below.refl _ w).grown h3 (Nat.le_refl _) h4
 rcases h2 with ⟨rfl, rfl, hm0⟩ | hw
 ·obtain rfl : K = [] := List.eq_nil_of_length_eq_zero (by rw [hm, hm0])
  subst hm0
  exact ⟨a, L.length, w', h1, by simpa using hr, fun h => ⟨by have := ha h; omega, ha h⟩, hb, fun b _ h => by simpa using h⟩
 ·have hwf : ∀ n ∈ L ++ K, (Lit.int .u8 n).wf = true := fun n hn => by
   rcases List.mem_append.1 hn with h | h
   ·exact hr.2.1 n h
   ·exact hx.2.1 n h
  rw [<- List.map_append] at hw
  have hrow := zsq hw hwf
  obtain ⟨av, cv, rfl, hr2⟩ := hrow
  refine ⟨av, cv, w', h1, hr2, fun hn => ?_, hb, fun b hlt _ => .inr fun y hy hyb => ?_⟩
  ·rcases hw.2 with ⟨he, h0⟩ | ⟨g, cap, cur, he, _⟩
   ·simp only [Value.slice.injEq] at he; exact ⟨he.2.1, he.2.2⟩
   ·rw [hn] at he; simp at he
  ·have := (hw.lt y.block (by rw [hy]; rfl)).1
   omega
end Go.Proofs.YtnbkkjcmblfhpaaGreat
