/-
  One event, a slice of its own.
-/
import Derived.Test.YtebiogadkamgcaaYRows
namespace Go.Proofs.Ytebiogadkamgcaa
open Go.RowKit
/-- One event, a slice of its own. -/
theorem vin_one {W : World} {g : Nat} {t : TypeId} (ev : Y.Ev) (h : Blok W g t #[.int .i64 ev.k, .int .i64 ev.t, .int .i64 ev.a, .int .i64 ev.b, .int .i64 ev.c, .int .i64 ev.p.q, .int .i64 ev.p.i, .int .i64 ev.p.h, .bool ev.p.pair]) : VIn W (some ⟨g, 0, none⟩) 1 1 [ev] := by
  refine ⟨rfl, ⟨Nat.le_refl _, by decide⟩, fun e => (by cases e), .inr ⟨g, 0, rfl, h.lt, fun i x hi j u hj => ?_⟩⟩
  match i, hi with
  | 0, hi =>
    obtain rfl : ev = x := by simpa using hi
    rw [show 0 + 0 * V.Rec.k Y.Ev + j = j by omega, h.cell]
    have hj2 : [Value.int .i64 ev.k, .int .i64 ev.t, .int .i64 ev.a, .int .i64 ev.b, .int .i64 ev.c, .int .i64 ev.p.q, .int .i64 ev.p.i, .int .i64 ev.p.h, .bool ev.p.pair][j]? = some u := hj
    simpa using hj2
  | i + 1, hi => simp at hi
end Go.Proofs.Ytebiogadkamgcaa
