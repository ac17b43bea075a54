/-
  A mapping as a row of memory; how many subscribers and addresses there are, and the spans.
-/
import Derived.Test.YtbnhaoimdponkaaAPre
import Derived.BigQuiet
import Derived.Deep.QuietTactic
namespace Go.Proofs.Ytbnhaoimdponkaa
open Go.RowKit

/-- A mapping: In (b, k), Out (c, j), Lo, Hi, Dyn, Block. -/
structure E.D where
  (b k c j lo hi dy bl : Int)
def ebox (w : World) (x : E.D) : World := w.alloc (.cells #[.int .i64 x.b, .int .i64 x.k, .int .i64 x.c, .int .i64 x.j, .int .i64 x.lo, .int .i64 x.hi, .int .i64 x.dy, .int .i64 x.bl] 40)
theorem ebox_below (w : World) (x : E.D) : Below w.heap.size w (ebox w x) := (Below.refl _ w).alloc (Nat.le_refl _) _
theorem ebox_size (w : World) (x : E.D) : (ebox w x).heap.size = w.heap.size + 1 := by simp [ebox]
theorem ebox_blok (w : World) (x : E.D) : Blok (ebox w x) w.heap.size 40 #[.int .i64 x.b, .int .i64 x.k, .int .i64 x.c, .int .i64 x.j, .int .i64 x.lo, .int .i64 x.hi, .int .i64 x.dy, .int .i64 x.bl] := Blok.new w _ _
theorem e0 {w : World} {g : Nat} {x : E.D} (h : Blok w g 40 #[.int .i64 x.b, .int .i64 x.k, .int .i64 x.c, .int .i64 x.j, .int .i64 x.lo, .int .i64 x.hi, .int .i64 x.dy, .int .i64 x.bl]) : w.cell? ⟨g, 0, none⟩ = some (.int .i64 x.b) := h.cell 0
theorem ce0 {w : World} {g : Nat} {x : E.D} (h : Blok w g 40 #[.int .i64 x.b, .int .i64 x.k, .int .i64 x.c, .int .i64 x.j, .int .i64 x.lo, .int .i64 x.hi, .int .i64 x.dy, .int .i64 x.bl]) : ∀ d os, (Go.Sort.grow (redrawn w d) os).cell? ⟨g, 0, none⟩ = some (.int .i64 x.b) := fun d os => cell_regrown (e0 h) d os
theorem e1 {w : World} {g : Nat} {x : E.D} (h : Blok w g 40 #[.int .i64 x.b, .int .i64 x.k, .int .i64 x.c, .int .i64 x.j, .int .i64 x.lo, .int .i64 x.hi, .int .i64 x.dy, .int .i64 x.bl]) : w.cell? ⟨g, 1, none⟩ = some (.int .i64 x.k) := h.cell 1
theorem ce1 {w : World} {g : Nat} {x : E.D} (h : Blok w g 40 #[.int .i64 x.b, .int .i64 x.k, .int .i64 x.c, .int .i64 x.j, .int .i64 x.lo, .int .i64 x.hi, .int .i64 x.dy, .int .i64 x.bl]) : ∀ d os, (Go.Sort.grow (redrawn w d) os).cell? ⟨g, 1, none⟩ = some (.int .i64 x.k) := fun d os => cell_regrown (e1 h) d os
theorem e2 {w : World} {g : Nat} {x : E.D} (h : Blok w g 40 #[.int .i64 x.b, .int .i64 x.k, .int .i64 x.c, .int .i64 x.j, .int .i64 x.lo, .int .i64 x.hi, .int .i64 x.dy, .int .i64 x.bl]) : w.cell? ⟨g, 2, none⟩ = some (.int .i64 x.c) := h.cell 2
theorem ce2 {w : World} {g : Nat} {x : E.D} (h : Blok w g 40 #[.int .i64 x.b, .int .i64 x.k, .int .i64 x.c, .int .i64 x.j, .int .i64 x.lo, .int .i64 x.hi, .int .i64 x.dy, .int .i64 x.bl]) : ∀ d os, (Go.Sort.grow (redrawn w d) os).cell? ⟨g, 2, none⟩ = some (.int .i64 x.c) := fun d os => cell_regrown (e2 h) d os
theorem e3 {w : World} {g : Nat} {x : E.D} (h : Blok w g 40 #[.int .i64 x.b, .int .i64 x.k, .int .i64 x.c, .int .i64 x.j, .int .i64 x.lo, .int .i64 x.hi, .int .i64 x.dy, .int .i64 x.bl]) : w.cell? ⟨g, 3, none⟩ = some (.int .i64 x.j) := h.cell 3
theorem ce3 {w : World} {g : Nat} {x : E.D} (h : Blok w g 40 #[.int .i64 x.b, .int .i64 x.k, .int .i64 x.c, .int .i64 x.j, .int .i64 x.lo, .int .i64 x.hi, .int .i64 x.dy, .int .i64 x.bl]) : ∀ d os, (Go.Sort.grow (redrawn w d) os).cell? ⟨g, 3, none⟩ = some (.int .i64 x.j) := fun d os => cell_regrown (e3 h) d os
theorem e4 {w : World} {g : Nat} {x : E.D} (h : Blok w g 40 #[.int .i64 x.b, .int .i64 x.k, .int .i64 x.c, .int .i64 x.j, .int .i64 x.lo, .int .i64 x.hi, .int .i64 x.dy, .int .i64 x.bl]) : w.cell? ⟨g, 4, none⟩ = some (.int .i64 x.lo) := h.cell 4
theorem ce4 {w : World} {g : Nat} {x : E.D} (h : Blok w g 40 #[.int .i64 x.b, .int .i64 x.k, .int .i64 x.c, .int .i64 x.j, .int .i64 x.lo, .int .i64 x.hi, .int .i64 x.dy, .int .i64 x.bl]) : ∀ d os, (Go.Sort.grow (redrawn w d) os).cell? ⟨g, 4, none⟩ = some (.int .i64 x.lo) := fun d os => cell_regrown (e4 h) d os
theorem e5 {w : World} {g : Nat} {x : E.D} (h : Blok w g 40 #[.int .i64 x.b, .int .i64 x.k, .int .i64 x.c, .int .i64 x.j, .int .i64 x.lo, .int .i64 x.hi, .int .i64 x.dy, .int .i64 x.bl]) : w.cell? ⟨g, 5, none⟩ = some (.int .i64 x.hi) := h.cell 5
theorem ce5 {w : World} {g : Nat} {x : E.D} (h : Blok w g 40 #[.int .i64 x.b, .int .i64 x.k, .int .i64 x.c, .int .i64 x.j, .int .i64 x.lo, .int .i64 x.hi, .int .i64 x.dy, .int .i64 x.bl]) : ∀ d os, (Go.Sort.grow (redrawn w d) os).cell? ⟨g, 5, none⟩ = some (.int .i64 x.hi) := fun d os => cell_regrown (e5 h) d os
theorem e6 {w : World} {g : Nat} {x : E.D} (h : Blok w g 40 #[.int .i64 x.b, .int .i64 x.k, .int .i64 x.c, .int .i64 x.j, .int .i64 x.lo, .int .i64 x.hi, .int .i64 x.dy, .int .i64 x.bl]) : w.cell? ⟨g, 6, none⟩ = some (.int .i64 x.dy) := h.cell 6
theorem ce6 {w : World} {g : Nat} {x : E.D} (h : Blok w g 40 #[.int .i64 x.b, .int .i64 x.k, .int .i64 x.c, .int .i64 x.j, .int .i64 x.lo, .int .i64 x.hi, .int .i64 x.dy, .int .i64 x.bl]) : ∀ d os, (Go.Sort.grow (redrawn w d) os).cell? ⟨g, 6, none⟩ = some (.int .i64 x.dy) := fun d os => cell_regrown (e6 h) d os
theorem e7 {w : World} {g : Nat} {x : E.D} (h : Blok w g 40 #[.int .i64 x.b, .int .i64 x.k, .int .i64 x.c, .int .i64 x.j, .int .i64 x.lo, .int .i64 x.hi, .int .i64 x.dy, .int .i64 x.bl]) : w.cell? ⟨g, 7, none⟩ = some (.int .i64 x.bl) := h.cell 7
theorem ce7 {w : World} {g : Nat} {x : E.D} (h : Blok w g 40 #[.int .i64 x.b, .int .i64 x.k, .int .i64 x.c, .int .i64 x.j, .int .i64 x.lo, .int .i64 x.hi, .int .i64 x.dy, .int .i64 x.bl]) : ∀ d os, (Go.Sort.grow (redrawn w d) os).cell? ⟨g, 7, none⟩ = some (.int .i64 x.bl) := fun d os => cell_regrown (e7 h) d os
/-- A span lies in a box. -/
def E.ni (x : E.D) : Int := A.size x.b x.k
def E.no (x : E.D) : Int := A.size x.c x.j

set_option maxHeartbeats 400000 in
theorem subscribers_any (x : E.D) (s : Int) (w : World) (h : E.ni x = s) : Calls Try.prog 71 #[.agg #[.int .i64 x.b, .int .i64 x.k, .int .i64 x.c, .int .i64 x.j, .int .i64 x.lo, .int .i64 x.hi, .int .i64 x.dy, .int .i64 x.bl]] w fun e w' => e = .returned (.int .i64 s) ∧ Below w.heap.size w w' := by
  have HB := Lib.hid (ebox_below w x)
  have hs := size_any x.b x.k s (ebox w x) h
  clear h
  go_enter Try.func71, Try.ntmps71
  go_wp2_with fail
  refine hs.mono ?_
  rintro e w1 ⟨rfl, hb1⟩
  go_wp2
  go_ret
  exact ⟨rfl, HB.out.trans (hb1.mono HB.out.size)⟩

set_option maxHeartbeats 400000 in
theorem publics_any (x : E.D) (s : Int) (w : World) (h : E.no x = s) : Calls Try.prog 72 #[.agg #[.int .i64 x.b, .int .i64 x.k, .int .i64 x.c, .int .i64 x.j, .int .i64 x.lo, .int .i64 x.hi, .int .i64 x.dy, .int .i64 x.bl]] w fun e w' => e = .returned (.int .i64 s) ∧ Below w.heap.size w w' := by
  have HB := Lib.hid (ebox_below w x)
  have hs := size_any x.c x.j s (ebox w x) h
  clear h
  go_enter Try.func72, Try.ntmps72
  go_wp2_with fail
  refine hs.mono ?_
  rintro e w1 ⟨rfl, hb1⟩
  go_wp2
  go_ret
  exact ⟨rfl, HB.out.trans (hb1.mono HB.out.size)⟩

set_option maxHeartbeats 400000 in
theorem ports_any (x : E.D) (r s : Int) (w : World) (h0 : IntKind.i64.wrap (x.hi - x.lo) = r) (h : IntKind.i64.wrap (r + 1) = s) : Calls Try.prog 75 #[.agg #[.int .i64 x.b, .int .i64 x.k, .int .i64 x.c, .int .i64 x.j, .int .i64 x.lo, .int .i64 x.hi, .int .i64 x.dy, .int .i64 x.bl]] w fun e w' => e = .returned (.int .i64 s) ∧ Below w.heap.size w w' := by
  have HB := Lib.hid (ebox_below w x)
  go_enter Try.func75, Try.ntmps75
  go_wp2
  go_ret
  exact ⟨rfl, HB.out⟩

set_option maxHeartbeats 400000 in
theorem shared_any (x : E.D) (r s t : Int) (w : World) (h0 : IntKind.i64.wrap (x.hi - x.lo) = r) (h1 : IntKind.i64.wrap (r + 1) = s) (h : IntKind.i64.wrap (s - x.dy) = t) : Calls Try.prog 79 #[.agg #[.int .i64 x.b, .int .i64 x.k, .int .i64 x.c, .int .i64 x.j, .int .i64 x.lo, .int .i64 x.hi, .int .i64 x.dy, .int .i64 x.bl]] w fun e w' => e = .returned (.int .i64 t) ∧ Below w.heap.size w w' := by
  have HB := Lib.hid (ebox_below w x)
  have c0 : ∀ d os, (Go.Sort.grow (redrawn (w.alloc (.cells #[.int .i64 x.b, .int .i64 x.k, .int .i64 x.c, .int .i64 x.j, .int .i64 x.lo, .int .i64 x.hi, .int .i64 x.dy, .int .i64 x.bl] 40)) d) os).cell? ⟨w.heap.size, 0, none⟩ = some (.int .i64 x.b) := ce0 (ebox_blok w x)
  have c1 : ∀ d os, (Go.Sort.grow (redrawn (w.alloc (.cells #[.int .i64 x.b, .int .i64 x.k, .int .i64 x.c, .int .i64 x.j, .int .i64 x.lo, .int .i64 x.hi, .int .i64 x.dy, .int .i64 x.bl] 40)) d) os).cell? ⟨w.heap.size, 1, none⟩ = some (.int .i64 x.k) := ce1 (ebox_blok w x)
  have c2 : ∀ d os, (Go.Sort.grow (redrawn (w.alloc (.cells #[.int .i64 x.b, .int .i64 x.k, .int .i64 x.c, .int .i64 x.j, .int .i64 x.lo, .int .i64 x.hi, .int .i64 x.dy, .int .i64 x.bl] 40)) d) os).cell? ⟨w.heap.size, 2, none⟩ = some (.int .i64 x.c) := ce2 (ebox_blok w x)
  have c3 : ∀ d os, (Go.Sort.grow (redrawn (w.alloc (.cells #[.int .i64 x.b, .int .i64 x.k, .int .i64 x.c, .int .i64 x.j, .int .i64 x.lo, .int .i64 x.hi, .int .i64 x.dy, .int .i64 x.bl] 40)) d) os).cell? ⟨w.heap.size, 3, none⟩ = some (.int .i64 x.j) := ce3 (ebox_blok w x)
  have c4 : ∀ d os, (Go.Sort.grow (redrawn (w.alloc (.cells #[.int .i64 x.b, .int .i64 x.k, .int .i64 x.c, .int .i64 x.j, .int .i64 x.lo, .int .i64 x.hi, .int .i64 x.dy, .int .i64 x.bl] 40)) d) os).cell? ⟨w.heap.size, 4, none⟩ = some (.int .i64 x.lo) := ce4 (ebox_blok w x)
  have c5 : ∀ d os, (Go.Sort.grow (redrawn (w.alloc (.cells #[.int .i64 x.b, .int .i64 x.k, .int .i64 x.c, .int .i64 x.j, .int .i64 x.lo, .int .i64 x.hi, .int .i64 x.dy, .int .i64 x.bl] 40)) d) os).cell? ⟨w.heap.size, 5, none⟩ = some (.int .i64 x.hi) := ce5 (ebox_blok w x)
  have c6 : ∀ d os, (Go.Sort.grow (redrawn (w.alloc (.cells #[.int .i64 x.b, .int .i64 x.k, .int .i64 x.c, .int .i64 x.j, .int .i64 x.lo, .int .i64 x.hi, .int .i64 x.dy, .int .i64 x.bl] 40)) d) os).cell? ⟨w.heap.size, 6, none⟩ = some (.int .i64 x.dy) := ce6 (ebox_blok w x)
  have c7 : ∀ d os, (Go.Sort.grow (redrawn (w.alloc (.cells #[.int .i64 x.b, .int .i64 x.k, .int .i64 x.c, .int .i64 x.j, .int .i64 x.lo, .int .i64 x.hi, .int .i64 x.dy, .int .i64 x.bl] 40)) d) os).cell? ⟨w.heap.size, 7, none⟩ = some (.int .i64 x.bl) := ce7 (ebox_blok w x)
  have hp := fun W => ports_any x r s W h0 h1
  clear h0 h1
  go_enter Try.func79, Try.ntmps79
  go_wp2_with fail
  refine wp_region_quiet_below (by kernel_rfl) (by kernel_rfl) ?_
  repeat (go_big_quiet_step (exact Calls.regrown_of (hp _)))
  refine wpQuiet_nil ?_
  intro _ hw'
  obtain ⟨⟨dq, osq⟩, hw''⟩ := hw'
  subst hw''
  go_wp2
  go_ret
  exact ⟨rfl, HB.out.trans ((below_regrown _ dq osq).mono HB.out.size)⟩

end Go.Proofs.Ytbnhaoimdponkaa
