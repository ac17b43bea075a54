/-
  The document's Events: are two lists of events the same?
-/
import Derived.Test.YtebiogadkamgcaaYRows
import Derived.Test.YtebiogadkamgcaaLSameM
namespace Go.Proofs.Ytebiogadkamgcaa
open Go.RowKit
set_option maxRecDepth 100000 in
set_option maxHeartbeats 1600000 in
theorem refEvents_any (a a' : Option Addr) (n m c c' : Nat) (l k : List Y.Ev) (w : World) (h : VIn w a n c l) (h' : VIn w a' m c' k) (hn : n ≤ 1000000) (p : Bool) (hp : decide (l = k) = p) :
    Calls Try.prog 15 #[.slice a n c, .slice a' m c'] w fun e w' => e = .returned (.bool p) ∧ Below w.heap.size w w' := by
  by_cases hnm : n = m
  · subst hnm
    have HT := Lib.hid h
    have HK := Lib.hid h'
    have HP := Lib.hid hp
    have dn : ((n : Int) != n) = false := by simp
    clear h h' hp
    go_enter Try.func15, Try.ntmps15
    go_wp2_with fail
    go_loopw [5] (fun i wr => ∃ k' : Nat, i = .int .i64 k' ∧ k' ≤ n ∧ Hid (l.take k' = k.take k') ∧ Hid (Below w.heap.size w wr)) (fun i _ => n - (intOf i).toNat)
    case atStart => exact ⟨0, rfl, by omega, Lib.hid (by simp), Lib.hid (Below.refl _ _)⟩
    case round =>
      obtain ⟨i, rfl, hin, HA, HB⟩ := hrel
      by_cases hlt : i < n
      · have d1 : decide ((i : Int) < n) = true := by simp; omega
        obtain ⟨b, off, x, rfl, hb, hx, pc⟩ := (HT.out.below HB.out).at hlt
        obtain ⟨b2, off2, y, rfl, hb2, hy, qc⟩ := (HK.out.below HB.out).at hlt
        have k0 : (0 : Int) ≤ i := by omega
        have k1 : (i : Int) < n := by omega
        have HX := Lib.hid hx
        have HY := Lib.hid hy
        clear hx hy
        obtain ⟨x0, x1, x2, x3, x4, ⟨x5, x6, x7, x8⟩⟩ := x
        obtain ⟨y0, y1, y2, y3, y4, ⟨y5, y6, y7, y8⟩⟩ := y
        have p0 : wr.cell? ⟨b, off + i * 9, none⟩ = some (.int .i64 x0) := pc 0 _ rfl
        have p1 : wr.cell? ⟨b, off + i * 9 + 1, none⟩ = some (.int .i64 x1) := pc 1 _ rfl
        have p2 : wr.cell? ⟨b, off + i * 9 + 2, none⟩ = some (.int .i64 x2) := pc 2 _ rfl
        have p3 : wr.cell? ⟨b, off + i * 9 + 3, none⟩ = some (.int .i64 x3) := pc 3 _ rfl
        have p4 : wr.cell? ⟨b, off + i * 9 + 4, none⟩ = some (.int .i64 x4) := pc 4 _ rfl
        have p5 : wr.cell? ⟨b, off + i * 9 + 5, none⟩ = some (.int .i64 x5) := pc 5 _ rfl
        have p6 : wr.cell? ⟨b, off + i * 9 + 6, none⟩ = some (.int .i64 x6) := pc 6 _ rfl
        have p7 : wr.cell? ⟨b, off + i * 9 + 7, none⟩ = some (.int .i64 x7) := pc 7 _ rfl
        have p8 : wr.cell? ⟨b, off + i * 9 + 8, none⟩ = some (.bool x8) := pc 8 _ rfl
        have q0 : wr.cell? ⟨b2, off2 + i * 9, none⟩ = some (.int .i64 y0) := qc 0 _ rfl
        have q1 : wr.cell? ⟨b2, off2 + i * 9 + 1, none⟩ = some (.int .i64 y1) := qc 1 _ rfl
        have q2 : wr.cell? ⟨b2, off2 + i * 9 + 2, none⟩ = some (.int .i64 y2) := qc 2 _ rfl
        have q3 : wr.cell? ⟨b2, off2 + i * 9 + 3, none⟩ = some (.int .i64 y3) := qc 3 _ rfl
        have q4 : wr.cell? ⟨b2, off2 + i * 9 + 4, none⟩ = some (.int .i64 y4) := qc 4 _ rfl
        have q5 : wr.cell? ⟨b2, off2 + i * 9 + 5, none⟩ = some (.int .i64 y5) := qc 5 _ rfl
        have q6 : wr.cell? ⟨b2, off2 + i * 9 + 6, none⟩ = some (.int .i64 y6) := qc 6 _ rfl
        have q7 : wr.cell? ⟨b2, off2 + i * 9 + 7, none⟩ = some (.int .i64 y7) := qc 7 _ rfl
        have q8 : wr.cell? ⟨b2, off2 + i * 9 + 8, none⟩ = some (.bool y8) := qc 8 _ rfl
        have hd : (¬ x0 = y0) ∨ (x0 = y0 ∧ ¬ x1 = y1) ∨ (x0 = y0 ∧ x1 = y1 ∧ ¬ x2 = y2) ∨ (x0 = y0 ∧ x1 = y1 ∧ x2 = y2 ∧ ¬ x3 = y3) ∨ (x0 = y0 ∧ x1 = y1 ∧ x2 = y2 ∧ x3 = y3 ∧ ¬ x4 = y4) ∨ (x0 = y0 ∧ x1 = y1 ∧ x2 = y2 ∧ x3 = y3 ∧ x4 = y4 ∧ ¬ x5 = y5) ∨ (x0 = y0 ∧ x1 = y1 ∧ x2 = y2 ∧ x3 = y3 ∧ x4 = y4 ∧ x5 = y5 ∧ ¬ x6 = y6) ∨ (x0 = y0 ∧ x1 = y1 ∧ x2 = y2 ∧ x3 = y3 ∧ x4 = y4 ∧ x5 = y5 ∧ x6 = y6 ∧ ¬ x7 = y7) ∨ (x0 = y0 ∧ x1 = y1 ∧ x2 = y2 ∧ x3 = y3 ∧ x4 = y4 ∧ x5 = y5 ∧ x6 = y6 ∧ x7 = y7 ∧ ¬ x8 = y8) ∨ (x0 = y0 ∧ x1 = y1 ∧ x2 = y2 ∧ x3 = y3 ∧ x4 = y4 ∧ x5 = y5 ∧ x6 = y6 ∧ x7 = y7 ∧ x8 = y8) := by grind
        clear pc qc
        rcases hd with hne | ⟨rfl, hne⟩ | ⟨rfl, rfl, hne⟩ | ⟨rfl, rfl, rfl, hne⟩ | ⟨rfl, rfl, rfl, rfl, hne⟩ | ⟨rfl, rfl, rfl, rfl, rfl, hne⟩ | ⟨rfl, rfl, rfl, rfl, rfl, rfl, hne⟩ | ⟨rfl, rfl, rfl, rfl, rfl, rfl, rfl, hne⟩ | ⟨rfl, rfl, rfl, rfl, rfl, rfl, rfl, rfl, hne⟩ | ⟨rfl, rfl, rfl, rfl, rfl, rfl, rfl, rfl, rfl⟩
        any_goals
          have HE : Hid (p = false) := Lib.hid (by rw [← HP.out]; exact L.same_bad HX.out HY.out (fun e => by injection e; grind))
          try have hbq : (x8 == y8) = false := by simpa using hne
          go_wp2_with fail
          go_quiet (fail)
          go_wp2
          go_ret
          exact ⟨by rw [HE.out]; rfl, HB.out.trans (below_drewN _ _ _)⟩
        have HE := Lib.hid (L.same_step HX.out HY.out HA.out)
        go_wp2_with fail
        go_quiet (fail)
        go_wp2
        go_roundw
        case rel => exact ⟨i + 1, by go_num, by omega, HE, Lib.hid (HB.out.trans (below_drewN _ _ _))⟩
        case measure => simp [intOf] <;> omega
      · have d1 : decide ((i : Int) < n) = false := by simp; omega
        have HE : Hid (p = true) := Lib.hid (by
          have h1 := HA.out
          rw [List.take_of_length_le (by rw [HT.out.1]; omega), List.take_of_length_le (by rw [HK.out.1]; omega)] at h1
          rw [← HP.out]; exact decide_eq_true h1)
        go_wp2
        go_ret
        exact ⟨by rw [HE.out]; rfl, HB.out⟩
  · have HE : Hid (p = false) := Lib.hid (by
      rw [← hp]
      refine decide_eq_false fun e => hnm ?_
      rw [← h.1, ← h'.1, e])
    have dn : ((n : Int) != m) = true := by simp; omega
    clear h h' hp hnm
    go_enter Try.func15, Try.ntmps15
    go_wp2
    go_ret
    exact ⟨by rw [HE.out]; rfl, Below.refl _ _⟩
end Go.Proofs.Ytebiogadkamgcaa
