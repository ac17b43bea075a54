/-
  A mapping as a row of memory; how many subscribers and addresses there are, and the spans.
-/
import Derived.Test.YtjfnopbdlopjgaaAPre
import Derived.BigQuiet
import Derived.Deep.QuietTactic
namespace Go.Proofs.Ytjfnopbdlopjgaa
open Go.RowKit

/-- A mapping: In (b, k), Out (c, j), Lo, Hi, Dyn, Block. -/
structure E.D where
  (b k c j lo hi dy bl : Int)
def ebox (w : World) (x : E.D) : World := w.alloc (.cells #[.int .i64 x.b, .int .i64 x.k, .int .i64 x.c, .int .i64 x.j, .int .i64 x.lo, .int .i64 x.hi, .int .i64 x.dy, .int .i64 x.bl] 25)
theorem ebox_below (w : World) (x : E.D) : Below w.heap.size w (ebox w x) := (Below.refl _ w).alloc (Nat.le_refl _) _
theorem ebox_size (w : World) (x : E.D) : (ebox w x).heap.size = w.heap.size + 1 := by simp [ebox]
theorem ebox_blok (w : World) (x : E.D) : Blok (ebox w x) w.heap.size 25 #[.int .i64 x.b, .int .i64 x.k, .int .i64 x.c, .int .i64 x.j, .int .i64 x.lo, .int .i64 x.hi, .int .i64 x.dy, .int .i64 x.bl] := Blok.new w _ _
theorem e0 {w : World} {g : Nat} {x : E.D} (h : Blok w g 25 #[.int .i64 x.b, .int .i64 x.k, .int .i64 x.c, .int .i64 x.j, .int .i64 x.lo, .int .i64 x.hi, .int .i64 x.dy, .int .i64 x.bl]) : w.cell? ⟨g, 0, none⟩ = some (.int .i64 x.b) := h.cell 0
theorem ce0 {w : World} {g : Nat} {x : E.D} (h : Blok w g 25 #[.int .i64 x.b, .int .i64 x.k, .int .i64 x.c, .int .i64 x.j, .int .i64 x.lo, .int .i64 x.hi, .int .i64 x.dy, .int .i64 x.bl]) : ∀ d os, (Go.Sort.grow (redrawn w d) os).cell? ⟨g, 0, none⟩ = some (.int .i64 x.b) := fun d os => cell_regrown (e0 h) d os
theorem e1 {w : World} {g : Nat} {x : E.D} (h : Blok w g 25 #[.int .i64 x.b, .int .i64 x.k, .int .i64 x.c, .int .i64 x.j, .int .i64 x.lo, .int .i64 x.hi, .int .i64 x.dy, .int .i64 x.bl]) : w.cell? ⟨g, 1, none⟩ = some (.int .i64 x.k) := h.cell 1
theorem ce1 {w : World} {g : Nat} {x : E.D} (h : Blok w g 25 #[.int .i64 x.b, .int .i64 x.k, .int .i64 x.c, .int .i64 x.j, .int .i64 x.lo, .int .i64 x.hi, .int .i64 x.dy, .int .i64 x.bl]) : ∀ d os, (Go.Sort.grow (redrawn w d) os).cell? ⟨g, 1, none⟩ = some (.int .i64 x.k) := fun d os => cell_regrown (e1 h) d os
theorem e2 {w : World} {g : Nat} {x : E.D} (h : Blok w g 25 #[.int .i64 x.b, .int .i64 x.k, .int .i64 x.c, .int .i64 x.j, .int .i64 x.lo, .int .i64 x.hi, .int .i64 x.dy, .int .i64 x.bl]) : w.cell? ⟨g, 2, none⟩ = some (.int .i64 x.c) := h.cell 2
theorem ce2 {w : World} {g : Nat} {x : E.D} (h : Blok w g 25 #[.int .i64 x.b, .int .i64 x.k, .int .i64 x.c, .int .i64 x.j, .int .i64 x.lo, .int .i64 x.hi, .int .i64 x.dy, .int .i64 x.bl]) : ∀ d os, (Go.Sort.grow (redrawn w d) os).cell? ⟨g, 2, none⟩ = some (.int .i64 x.c) := fun d os => cell_regrown (e2 h) d os
theorem e3 {w : World} {g : Nat} {x : E.D} (h : Blok w g 25 #[.int .i64 x.b, .int .i64 x.k, .int .i64 x.c, .int .i64 x.j, .int .i64 x.lo, .int .i64 x.hi, .int .i64 x.dy, .int .i64 x.bl]) : w.cell? ⟨g, 3, none⟩ = some (.int .i64 x.j) := h.cell 3
theorem ce3 {w : World} {g : Nat} {x : E.D} (h : Blok w g 25 #[.int .i64 x.b, .int .i64 x.k, .int .i64 x.c, .int .i64 x.j, .int .i64 x.lo, .int .i64 x.hi, .int .i64 x.dy, .int .i64 x.bl]) : ∀ d os, (Go.Sort.grow (redrawn w d) os).cell? ⟨g, 3, none⟩ = some (.int .i64 x.j) := fun d os => cell_regrown (e3 h) d os
theorem e4 {w : World} {g : Nat} {x : E.D} (h : Blok w g 25 #[.int .i64 x.b, .int .i64 x.k, .int .i64 x.c, .int .i64 x.j, .int .i64 x.lo, .int .i64 x.hi, .int .i64 x.dy, .int .i64 x.bl]) : w.cell? ⟨g, 4, none⟩ = some (.int .i64 x.lo) := h.cell 4
theorem ce4 {w : World} {g : Nat} {x : E.D} (h : Blok w g 25 #[.int .i64 x.b, .int .i64 x.k, .int .i64 x.c, .int .i64 x.j, .int .i64 x.lo, .int .i64 x.hi, .int .i64 x.dy, .int .i64 x.bl]) : ∀ d os, (Go.Sort.grow (redrawn w d) os).cell? ⟨g, 4, none⟩ = some (.int .i64 x.lo) := fun d os => cell_regrown (e4 h) d os
theorem e5 {w : World} {g : Nat} {x : E.D} (h : Blok w g 25 #[.int .i64 x.b, .int .i64 x.k, .int .i64 x.c, .int .i64 x.j, .int .i64 x.lo, .int .i64 x.hi, .int .i64 x.dy, .int .i64 x.bl]) : w.cell? ⟨g, 5, none⟩ = some (.int .i64 x.hi) := h.cell 5
theorem ce5 {w : World} {g : Nat} {x : E.D} (h : Blok w g 25 #[.int .i64 x.b, .int .i64 x.k, .int .i64 x.c, .int .i64 x.j, .int .i64 x.lo, .int .i64 x.hi, .int .i64 x.dy, .int .i64 x.bl]) : ∀ d os, (Go.Sort.grow (redrawn w d) os).cell? ⟨g, 5, none⟩ = some (.int .i64 x.hi) := fun d os => cell_regrown (e5 h) d os
theorem e6 {w : World} {g : Nat} {x : E.D} (h : Blok w g 25 #[.int .i64 x.b, .int .i64 x.k, .int .i64 x.c, .int .i64 x.j, .int .i64 x.lo, .int .i64 x.hi, .int .i64 x.dy, .int .i64 x.bl]) : w.cell? ⟨g, 6, none⟩ = some (.int .i64 x.dy) := h.cell 6
theorem ce6 {w : World} {g : Nat} {x : E.D} (h : Blok w g 25 #[.int .i64 x.b, .int .i64 x.k, .int .i64 x.c, .int .i64 x.j, .int .i64 x.lo, .int .i64 x.hi, .int .i64 x.dy, .int .i64 x.bl]) : ∀ d os, (Go.Sort.grow (redrawn w d) os).cell? ⟨g, 6, none⟩ = some (.int .i64 x.dy) := fun d os => cell_regrown (e6 h) d os
theorem e7 {w : World} {g : Nat} {x : E.D} (h : Blok w g 25 #[.int .i64 x.b, .int .i64 x.k, .int .i64 x.c, .int .i64 x.j, .int .i64 x.lo, .int .i64 x.hi, .int .i64 x.dy, .int .i64 x.bl]) : w.cell? ⟨g, 7, none⟩ = some (.int .i64 x.bl) := h.cell 7
theorem ce7 {w : World} {g : Nat} {x : E.D} (h : Blok w g 25 #[.int .i64 x.b, .int .i64 x.k, .int .i64 x.c, .int .i64 x.j, .int .i64 x.lo, .int .i64 x.hi, .int .i64 x.dy, .int .i64 x.bl]) : ∀ d os, (Go.Sort.grow (redrawn w d) os).cell? ⟨g, 7, none⟩ = some (.int .i64 x.bl) := fun d os => cell_regrown (e7 h) d os
/-- A span lies in a box. -/
def sbox (w : World) (a f t : Int) : World := w.alloc (.cells #[.int .i64 a, .int .i64 f, .int .i64 t] 28)
theorem sbox_below (w : World) (a f t : Int) : Below w.heap.size w (sbox w a f t) := (Below.refl _ w).alloc (Nat.le_refl _) _
theorem sbox_size (w : World) (a f t : Int) : (sbox w a f t).heap.size = w.heap.size + 1 := by simp [sbox]
theorem sbox_blok (w : World) (a f t : Int) : Blok (sbox w a f t) w.heap.size 28 #[.int .i64 a, .int .i64 f, .int .i64 t] := Blok.new w _ _
theorem s0 {w : World} {g : Nat} {a f t : Int} (h : Blok w g 28 #[.int .i64 a, .int .i64 f, .int .i64 t]) : w.cell? ⟨g, 0, none⟩ = some (.int .i64 a) := h.cell 0
theorem cs0 {w : World} {g : Nat} {a f t : Int} (h : Blok w g 28 #[.int .i64 a, .int .i64 f, .int .i64 t]) : ∀ d os, (Go.Sort.grow (redrawn w d) os).cell? ⟨g, 0, none⟩ = some (.int .i64 a) := fun d os => cell_regrown (s0 h) d os
theorem s1 {w : World} {g : Nat} {a f t : Int} (h : Blok w g 28 #[.int .i64 a, .int .i64 f, .int .i64 t]) : w.cell? ⟨g, 1, none⟩ = some (.int .i64 f) := h.cell 1
theorem cs1 {w : World} {g : Nat} {a f t : Int} (h : Blok w g 28 #[.int .i64 a, .int .i64 f, .int .i64 t]) : ∀ d os, (Go.Sort.grow (redrawn w d) os).cell? ⟨g, 1, none⟩ = some (.int .i64 f) := fun d os => cell_regrown (s1 h) d os
theorem s2 {w : World} {g : Nat} {a f t : Int} (h : Blok w g 28 #[.int .i64 a, .int .i64 f, .int .i64 t]) : w.cell? ⟨g, 2, none⟩ = some (.int .i64 t) := h.cell 2
theorem cs2 {w : World} {g : Nat} {a f t : Int} (h : Blok w g 28 #[.int .i64 a, .int .i64 f, .int .i64 t]) : ∀ d os, (Go.Sort.grow (redrawn w d) os).cell? ⟨g, 2, none⟩ = some (.int .i64 t) := fun d os => cell_regrown (s2 h) d os
/-- A result in a cell: a span. -/
theorem ret_span {fn : Func} {p : Tmp} (h : fn.results = #[.cell p 28]) {tmps : Array Value} {w : World} (g : Nat) (a f t : Int)
    (hp : tmps.getD p undef = .pointer (some ⟨g, 0, none⟩)) (hg : Blok w g 28 #[.int .i64 a, .int .i64 f, .int .i64 t]) :
    (results fn tmps).run Try.prog w = .ok (.agg #[.int .i64 a, .int .i64 f, .int .i64 t]) w := by
  have hp' : tmps[p]?.getD undef = .pointer (some ⟨g, 0, none⟩) := by simpa using hp
  have hl := run_loadVar_row (P := Try.prog) w g 28 28 #[.int .i64 a, .int .i64 f, .int .i64 t] (0, 0) _ hg Try.underlying28 rfl (by kernel_rfl)
  simp [results, h, hp', asAddr, hl]
/-- A span in a cell, and what else there is. -/
theorem ret_span2 {fn : Func} {p u : Tmp} (h : fn.results = #[.cell p 28, .tmp u]) {tmps : Array Value} {w : World} (g : Nat) (a f t : Int) {x : Value}
    (hp : tmps.getD p undef = .pointer (some ⟨g, 0, none⟩)) (hu : tmps.getD u undef = x) (hg : Blok w g 28 #[.int .i64 a, .int .i64 f, .int .i64 t]) :
    (results fn tmps).run Try.prog w = .ok (.tuple #[.agg #[.int .i64 a, .int .i64 f, .int .i64 t], x]) w := by
  have hp' : tmps[p]?.getD undef = .pointer (some ⟨g, 0, none⟩) := by simpa using hp
  have hu' : tmps[u]?.getD undef = x := by simpa using hu
  have hl := run_loadVar_row (P := Try.prog) w g 28 28 #[.int .i64 a, .int .i64 f, .int .i64 t] (0, 0) _ hg Try.underlying28 rfl (by kernel_rfl)
  simp [results, h, hp', hu', asAddr, hl, Result.andThen]
def E.ni (x : E.D) : Int := A.size x.b x.k
def E.no (x : E.D) : Int := A.size x.c x.j

set_option maxHeartbeats 400000 in
theorem subscribers_any (x : E.D) (s : Int) (w : World) (h : E.ni x = s) : Calls Try.prog 28 #[.agg #[.int .i64 x.b, .int .i64 x.k, .int .i64 x.c, .int .i64 x.j, .int .i64 x.lo, .int .i64 x.hi, .int .i64 x.dy, .int .i64 x.bl]] w fun e w' => e = .returned (.int .i64 s) ∧ Below w.heap.size w w' := by
  have HB := Lib.hid (ebox_below w x)
  have hs := size_any x.b x.k s (ebox w x) h
  clear h
  go_enter Try.func28, Try.ntmps28
  go_wp2_with fail
  refine hs.mono ?_
  rintro e w1 ⟨rfl, hb1⟩
  go_wp2
  go_ret
  exact ⟨rfl, HB.out.trans (hb1.mono HB.out.size)⟩

set_option maxHeartbeats 400000 in
theorem publics_any (x : E.D) (s : Int) (w : World) (h : E.no x = s) : Calls Try.prog 31 #[.agg #[.int .i64 x.b, .int .i64 x.k, .int .i64 x.c, .int .i64 x.j, .int .i64 x.lo, .int .i64 x.hi, .int .i64 x.dy, .int .i64 x.bl]] w fun e w' => e = .returned (.int .i64 s) ∧ Below w.heap.size w w' := by
  have HB := Lib.hid (ebox_below w x)
  have hs := size_any x.c x.j s (ebox w x) h
  clear h
  go_enter Try.func31, Try.ntmps31
  go_wp2_with fail
  refine hs.mono ?_
  rintro e w1 ⟨rfl, hb1⟩
  go_wp2
  go_ret
  exact ⟨rfl, HB.out.trans (hb1.mono HB.out.size)⟩

set_option maxHeartbeats 400000 in
theorem ports_any (x : E.D) (r s : Int) (w : World) (h0 : IntKind.i64.wrap (x.hi - x.lo) = r) (h : IntKind.i64.wrap (r + 1) = s) : Calls Try.prog 41 #[.agg #[.int .i64 x.b, .int .i64 x.k, .int .i64 x.c, .int .i64 x.j, .int .i64 x.lo, .int .i64 x.hi, .int .i64 x.dy, .int .i64 x.bl]] w fun e w' => e = .returned (.int .i64 s) ∧ Below w.heap.size w w' := by
  have HB := Lib.hid (ebox_below w x)
  go_enter Try.func41, Try.ntmps41
  go_wp2
  go_ret
  exact ⟨rfl, HB.out⟩

set_option maxHeartbeats 400000 in
theorem firstBlock_any (x : E.D) (r s : Int) (w : World) (h0 : IntKind.i64.wrap (x.hi - x.dy) = r) (h : IntKind.i64.wrap (r + 1) = s) : Calls Try.prog 32 #[.agg #[.int .i64 x.b, .int .i64 x.k, .int .i64 x.c, .int .i64 x.j, .int .i64 x.lo, .int .i64 x.hi, .int .i64 x.dy, .int .i64 x.bl]] w fun e w' => e = .returned (.int .i64 s) ∧ Below w.heap.size w w' := by
  have HB := Lib.hid (ebox_below w x)
  go_enter Try.func32, Try.ntmps32
  go_wp2
  go_ret
  exact ⟨rfl, HB.out⟩

set_option maxHeartbeats 400000 in
theorem shared_any (x : E.D) (r s t : Int) (w : World) (h0 : IntKind.i64.wrap (x.hi - x.lo) = r) (h1 : IntKind.i64.wrap (r + 1) = s) (h : IntKind.i64.wrap (s - x.dy) = t) : Calls Try.prog 45 #[.agg #[.int .i64 x.b, .int .i64 x.k, .int .i64 x.c, .int .i64 x.j, .int .i64 x.lo, .int .i64 x.hi, .int .i64 x.dy, .int .i64 x.bl]] w fun e w' => e = .returned (.int .i64 t) ∧ Below w.heap.size w w' := by
  have HB := Lib.hid (ebox_below w x)
  have c0 : ∀ d os, (Go.Sort.grow (redrawn (w.alloc (.cells #[.int .i64 x.b, .int .i64 x.k, .int .i64 x.c, .int .i64 x.j, .int .i64 x.lo, .int .i64 x.hi, .int .i64 x.dy, .int .i64 x.bl] 25)) d) os).cell? ⟨w.heap.size, 0, none⟩ = some (.int .i64 x.b) := ce0 (ebox_blok w x)
  have c1 : ∀ d os, (Go.Sort.grow (redrawn (w.alloc (.cells #[.int .i64 x.b, .int .i64 x.k, .int .i64 x.c, .int .i64 x.j, .int .i64 x.lo, .int .i64 x.hi, .int .i64 x.dy, .int .i64 x.bl] 25)) d) os).cell? ⟨w.heap.size, 1, none⟩ = some (.int .i64 x.k) := ce1 (ebox_blok w x)
  have c2 : ∀ d os, (Go.Sort.grow (redrawn (w.alloc (.cells #[.int .i64 x.b, .int .i64 x.k, .int .i64 x.c, .int .i64 x.j, .int .i64 x.lo, .int .i64 x.hi, .int .i64 x.dy, .int .i64 x.bl] 25)) d) os).cell? ⟨w.heap.size, 2, none⟩ = some (.int .i64 x.c) := ce2 (ebox_blok w x)
  have c3 : ∀ d os, (Go.Sort.grow (redrawn (w.alloc (.cells #[.int .i64 x.b, .int .i64 x.k, .int .i64 x.c, .int .i64 x.j, .int .i64 x.lo, .int .i64 x.hi, .int .i64 x.dy, .int .i64 x.bl] 25)) d) os).cell? ⟨w.heap.size, 3, none⟩ = some (.int .i64 x.j) := ce3 (ebox_blok w x)
  have c4 : ∀ d os, (Go.Sort.grow (redrawn (w.alloc (.cells #[.int .i64 x.b, .int .i64 x.k, .int .i64 x.c, .int .i64 x.j, .int .i64 x.lo, .int .i64 x.hi, .int .i64 x.dy, .int .i64 x.bl] 25)) d) os).cell? ⟨w.heap.size, 4, none⟩ = some (.int .i64 x.lo) := ce4 (ebox_blok w x)
  have c5 : ∀ d os, (Go.Sort.grow (redrawn (w.alloc (.cells #[.int .i64 x.b, .int .i64 x.k, .int .i64 x.c, .int .i64 x.j, .int .i64 x.lo, .int .i64 x.hi, .int .i64 x.dy, .int .i64 x.bl] 25)) d) os).cell? ⟨w.heap.size, 5, none⟩ = some (.int .i64 x.hi) := ce5 (ebox_blok w x)
  have c6 : ∀ d os, (Go.Sort.grow (redrawn (w.alloc (.cells #[.int .i64 x.b, .int .i64 x.k, .int .i64 x.c, .int .i64 x.j, .int .i64 x.lo, .int .i64 x.hi, .int .i64 x.dy, .int .i64 x.bl] 25)) d) os).cell? ⟨w.heap.size, 6, none⟩ = some (.int .i64 x.dy) := ce6 (ebox_blok w x)
  have c7 : ∀ d os, (Go.Sort.grow (redrawn (w.alloc (.cells #[.int .i64 x.b, .int .i64 x.k, .int .i64 x.c, .int .i64 x.j, .int .i64 x.lo, .int .i64 x.hi, .int .i64 x.dy, .int .i64 x.bl] 25)) d) os).cell? ⟨w.heap.size, 7, none⟩ = some (.int .i64 x.bl) := ce7 (ebox_blok w x)
  have hp := fun W => ports_any x r s W h0 h1
  clear h0 h1
  go_enter Try.func45, Try.ntmps45
  go_wp2_with fail
  refine wp_region_quiet_below (by kernel_rfl) (by kernel_rfl) ?_
  repeat (go_big_quiet_step (exact Calls.regrown_of (hp _)))
  refine wpQuiet_nil ?_
  intro _ hw'
  obtain ⟨⟨dq, osq⟩, hw''⟩ := hw'
  subst hw''
  go_wp2
  go_ret
  exact ⟨rfl, HB.out.trans ((below_regrown _ dq osq).mono HB.out.size)⟩

set_option maxHeartbeats 400000 in
theorem span_any (a f n r t : Int) (w : World) (h0 : IntKind.i64.wrap (f + n) = r) (h : IntKind.i64.wrap (r - 1) = t) : Calls Try.prog 29 #[.int .i64 a, .int .i64 f, .int .i64 n] w fun e w' => e = .returned (.agg #[.int .i64 a, .int .i64 f, .int .i64 t]) ∧ Below w.heap.size w w' := by
  have HB := Lib.hid (sbox_below w a f t)
  go_enter Try.func29, Try.ntmps29
  go_wp2
  refine bodyPost_ret (ret_span rfl w.heap.size a f t (by kernel_rfl) (sbox_blok w a f t)) rfl ?_
  exact ⟨rfl, HB.out⟩

set_option maxHeartbeats 400000 in
theorem has_any (a f t at' p : Int) (d : Bool) (w : World) (hd : decide (a = at' ∧ f ≤ p ∧ p ≤ t) = d) : Calls Try.prog 46 #[.agg #[.int .i64 a, .int .i64 f, .int .i64 t], .int .i64 at', .int .i64 p] w fun e w' => e = .returned (.bool d) ∧ Below w.heap.size w w' := by
  have HD := Lib.hid hd
  clear hd
  go_enter Try.func46, Try.ntmps46
  go_wp2
  all_goals (go_ret; refine ⟨?_, sbox_below _ _ _ _⟩; rw [← HD.out]; first | (rw [decide_eq_true (by omega)]; rfl) | (rw [decide_eq_false (by omega)]; rfl))
end Go.Proofs.Ytjfnopbdlopjgaa
