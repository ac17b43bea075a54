/-
  Results that lie in cells: one, one and a plain one, two.
-/
import Derived.Test.YtebiogadkamgcaaBlok
namespace Go.Proofs.Ytebiogadkamgcaa
open Go.RowKit
def isRow : TypeDesc → Bool
  | .struct _ => true
  | .array _ _ => true
  | _ => false
theorem ret_cell {fn : Func} {p : Tmp} {t t0 : TypeId} (h : fn.results = #[.cell p t]) {tmps : Array Value} {w : World} (g : Nat) (cs : Array Value) {d : TypeDesc}
    (hp : tmps.getD p undef = .pointer (some ⟨g, 0, none⟩)) (hg : Blok w g t0 cs) (hu : Try.prog.underlying t = some d) (hd : isRow d = true) (hi : (Try.prog.info? t).map (·.size) = some cs.size) :
    (results fn tmps).run Try.prog w = .ok (.agg cs) w := by
  have hp' : tmps[p]?.getD undef = .pointer (some ⟨g, 0, none⟩) := by simpa using hp
  have hl := run_loadVar_row (P := Try.prog) w g t0 t cs (0, 0) _ hg hu (by cases d <;> first | rfl | cases hd) hi
  simp [results, h, hp', asAddr, hl]
theorem ret_cell_tmp {fn : Func} {p u : Tmp} {t t0 : TypeId} (h : fn.results = #[.cell p t, .tmp u]) {tmps : Array Value} {w : World} (g : Nat) (cs : Array Value) (x : Value) {d : TypeDesc}
    (hp : tmps.getD p undef = .pointer (some ⟨g, 0, none⟩)) (hx : tmps.getD u undef = x) (hg : Blok w g t0 cs) (hu : Try.prog.underlying t = some d) (hd : isRow d = true) (hi : (Try.prog.info? t).map (·.size) = some cs.size) :
    (results fn tmps).run Try.prog w = .ok (.tuple #[.agg cs, x]) w := by
  have hp' : tmps[p]?.getD undef = .pointer (some ⟨g, 0, none⟩) := by simpa using hp
  have hx' : tmps[u]?.getD undef = x := by simpa using hx
  have hl := run_loadVar_row (P := Try.prog) w g t0 t cs (0, 0) _ hg hu (by cases d <;> first | rfl | cases hd) hi
  simp [results, h, hp', hx', asAddr, hl, Result.andThen]
theorem ret_cells {fn : Func} {p q : Tmp} {t t' t0 t1 : TypeId} (h : fn.results = #[.cell p t, .cell q t']) {tmps : Array Value} {w : World} (g g' : Nat) (cs cs' : Array Value) {d d' : TypeDesc}
    (hp : tmps.getD p undef = .pointer (some ⟨g, 0, none⟩)) (hq : tmps.getD q undef = .pointer (some ⟨g', 0, none⟩)) (hg : Blok w g t0 cs) (hg' : Blok w g' t1 cs') (hu : Try.prog.underlying t = some d) (hd : isRow d = true) (hi : (Try.prog.info? t).map (·.size) = some cs.size)
    (hu' : Try.prog.underlying t' = some d') (hd' : isRow d' = true) (hi' : (Try.prog.info? t').map (·.size) = some cs'.size) :
    (results fn tmps).run Try.prog w = .ok (.tuple #[.agg cs, .agg cs']) w := by
  have hp' : tmps[p]?.getD undef = .pointer (some ⟨g, 0, none⟩) := by simpa using hp
  have hq' : tmps[q]?.getD undef = .pointer (some ⟨g', 0, none⟩) := by simpa using hq
  have hl := run_loadVar_row (P := Try.prog) w g t0 t cs (0, 0) _ hg hu (by cases d <;> first | rfl | cases hd) hi
  have hl' := run_loadVar_row (P := Try.prog) w g' t1 t' cs' (0, 0) _ hg' hu' (by cases d' <;> first | rfl | cases hd') hi'
  simp [results, h, hp', hq', asAddr, hl, hl', Result.andThen]
end Go.Proofs.Ytebiogadkamgcaa
