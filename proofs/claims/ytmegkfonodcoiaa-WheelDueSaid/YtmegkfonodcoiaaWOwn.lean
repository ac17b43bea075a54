/-
  Walks of wheel.own, New, Same; mooringsref10.New, Same.
-/
import Derived.Test.YtmegkfonodcoiaaWDel
namespace Go.Proofs.Ytmegkfonodcoiaa
open Go.RowKit

theorem ret_w1 {fn : Func} {p : Tmp} (h : fn.results = #[.cell p 24]) {tmps : Array Value} {V : World} (g : Nat) (x y : Value)
    (hp : tmps.getD p undef = .pointer (some ⟨g, 0, none⟩)) (hg : Blok V g 24 #[x, y]) :
    (results fn tmps).run Try.prog V = .ok (.agg #[x, y]) V := by
  have hp' : tmps[p]?.getD undef = .pointer (some ⟨g, 0, none⟩) := by simpa using hp
  have hl := run_loadVar_row (P := Try.prog) V g 24 24 #[x, y] (0, 0) _ hg Try.underlying24 rfl (by kernel_rfl)
  simp [results, h, hp', asAddr, hl]
theorem ret_w2 {fn : Func} {p u : Tmp} (h : fn.results = #[.cell p 24, .tmp u]) {tmps : Array Value} {V : World} (g : Nat) (x y : Value) {z : Value}
    (hp : tmps.getD p undef = .pointer (some ⟨g, 0, none⟩)) (hu : tmps.getD u undef = z) (hg : Blok V g 24 #[x, y]) :
    (results fn tmps).run Try.prog V = .ok (.tuple #[.agg #[x, y], z]) V := by
  have hp' : tmps[p]?.getD undef = .pointer (some ⟨g, 0, none⟩) := by simpa using hp
  have hu' : tmps[u]?.getD undef = z := by simpa using hu
  have hl := run_loadVar_row (P := Try.prog) V g 24 24 #[x, y] (0, 0) _ hg Try.underlying24 rfl (by kernel_rfl)
  simp [results, h, hp', hu', asAddr, hl, Result.andThen]
theorem ret_w3 {fn : Func} {p u q : Tmp} (h : fn.results = #[.cell p 24, .tmp u, .tmp q]) {tmps : Array Value} {V : World} (g : Nat) (x y : Value) {z r : Value}
    (hp : tmps.getD p undef = .pointer (some ⟨g, 0, none⟩)) (hu : tmps.getD u undef = z) (hq : tmps.getD q undef = r) (hg : Blok V g 24 #[x, y]) :
    (results fn tmps).run Try.prog V = .ok (.tuple #[.agg #[x, y], z, r]) V := by
  have hp' : tmps[p]?.getD undef = .pointer (some ⟨g, 0, none⟩) := by simpa using hp
  have hu' : tmps[u]?.getD undef = z := by simpa using hu
  have hq' : tmps[q]?.getD undef = r := by simpa using hq
  have hl := run_loadVar_row (P := Try.prog) V g 24 24 #[x, y] (0, 0) _ hg Try.underlying24 rfl (by kernel_rfl)
  simp [results, h, hp', hu', hq', asAddr, hl, Result.andThen]

theorem set2 {V : World} {g : Nat} {t : TypeId} {u v : Value} (h : Blok V g t #[u, v]) (x y : Value) : Blok ((V.setCell ⟨g, 0, none⟩ x).setCell ⟨g, 1, none⟩ y) g t #[x, y] ∧ V.grownBy ((V.setCell ⟨g, 0, none⟩ x).setCell ⟨g, 1, none⟩ y) (some g) := by
  refine ⟨?_, (grown_set _ _ _ _).trans (grown_set _ _ _ _)⟩
  have := (h.set 0 x).set 1 y
  simpa using this
theorem set21 {V : World} {g : Nat} {t : TypeId} {u v : Value} (h : Blok V g t #[u, v]) (y : Value) : Blok (V.setCell ⟨g, 1, none⟩ y) g t #[u, y] ∧ V.grownBy (V.setCell ⟨g, 1, none⟩ y) (some g) := by
  refine ⟨?_, grown_set _ _ _ _⟩
  have := h.set 1 y
  simpa using this
/-- The boxes of a wheel handed in, and of a result. -/
def wbox2 (w : World) (k : Int) (a : Option Addr) (n c : Nat) : World := wbox (wbox w k a n c) 0 none 0 0
theorem wbox2_below (w : World) (k : Int) (a : Option Addr) (n c : Nat) : Below w.heap.size w (wbox2 w k a n c) := (wbox_below _ _ _ _ _).trans ((wbox_below _ _ _ _ _).mono (by rw [wbox_size]; omega))
theorem wbox2_size (w : World) (k : Int) (a : Option Addr) (n c : Nat) : (wbox2 w k a n c).heap.size = w.heap.size + 2 := by simp [wbox2, wbox]
theorem wbox2_arg (w : World) (k : Int) (a : Option Addr) (n c : Nat) : Blok (wbox2 w k a n c) w.heap.size 24 #[.int .i64 k, .slice a n c] := (wbox_blok w k a n c).on' (wbox_below _ _ _ _ _)
theorem wbox2_res (w : World) (k : Int) (a : Option Addr) (n c : Nat) : Blok (wbox2 w k a n c) (w.heap.size + 1) 24 #[.int .i64 0, .slice none 0 0] := by
  have := wbox_blok (wbox w k a n c) 0 none 0 0
  rw [wbox_size] at this
  exact this

set_option maxRecDepth 100000 in
set_option maxHeartbeats 1000000 in
theorem own_any (k : Int) (a : Option Addr) (n c : Nat) (l : List W.Tm) (w : World) (h : TIn w a n c l) (hn : n ≤ 1000) :
    Calls Try.prog 24 #[.agg #[.int .i64 k, .slice a n c]] w fun e w' => ∃ a2 c2, e = .returned (.agg #[.int .i64 k, .slice a2 n c2]) ∧ Hid (w'.ownsRow w.heap.size 40 2 (.slice a2 n c2) n (W.flat l)) ∧ Below w.heap.size w w' := by
  have HT := Lib.hid h
  have HB := Lib.hid (wbox2_below w k a n c)
  have KA := Lib.hid (wbox2_arg w k a n c)
  have KR := Lib.hid (wbox2_res w k a n c)
  have hsz := wbox2_size w k a n c
  obtain ⟨W1, hW1⟩ : ∃ W1, wbox2 w k a n c = W1 := ⟨_, rfl⟩
  rw [hW1] at HB KA KR hsz
  unfold wbox2 wbox at hW1
  have a0 := KA.out.b0
  have a1 := KA.out.b1
  clear h
  go_enter Try.func24, Try.ntmps24
  go_wp2_with fail
  refine (cloneT_any a n c l W1 hn (HT.out.below HB.out)).mono ?_
  rintro e w3 ⟨v, rfl, HO, hb3⟩
  obtain ⟨a2, c2, rfl, -⟩ := own_timers HO.out HT.out.1
  have HB3 := Lib.hid (HB.out.trans (hb3.mono HB.out.size))
  have KA3 := Lib.hid (KA.out.on' hb3)
  have KR3 := Lib.hid (KR.out.on' hb3)
  clear hb3 a0 a1 hW1
  have a0 := KA3.out.b0
  have a1 := KA3.out.b1
  have fa := KA3.out.frozen 1
  obtain ⟨w4, hw4⟩ : ∃ w4, w3.setCell ⟨w.heap.size, 1, none⟩ (.slice a2 n c2) = w4 := ⟨_, rfl⟩
  obtain ⟨KA4, G4⟩ := set21 KA3.out (.slice a2 n c2)
  rw [hw4] at KA4 G4
  have KR4 := KR3.out.grown G4 (by simp)
  obtain ⟨w5, hw5⟩ : ∃ w5, (w4.setCell ⟨w.heap.size + 1, 0, none⟩ (.int .i64 k)).setCell ⟨w.heap.size + 1, 1, none⟩ (.slice a2 n c2) = w5 := ⟨_, rfl⟩
  obtain ⟨KR5, G5⟩ := set2 KR4 (.int .i64 k) (.slice a2 n c2)
  rw [hw5] at KR5 G5
  have HK5 := Lib.hid KR5
  have hown : Hid (w5.ownsRow w.heap.size 40 2 (.slice a2 n c2) n (W.flat l)) := Lib.hid (by
    have hlt : ∀ g, (Value.slice a2 n c2).ownBlock = some g → w.heap.size + 2 ≤ g := fun g hg => by have := (ownT_lt HO.out hg).1; rw [hsz] at this; exact this
    refine ownsRow_base ((HO.out.kept G4 ?_).kept G5 ?_) (by rw [hsz]; omega)
    · exact .inr (fun e => by have := hlt _ e; omega)
    · exact .inr (fun e => by have := hlt _ e; omega))
  have HB5 := Lib.hid ((HB3.out.grown G4 HB3.out.size (fun j hj => by cases hj; exact Nat.le_refl _)).grown G5 (Nat.le_trans HB3.out.size G4.size) (fun j hj => by cases hj; exact Nat.le_succ _))
  have x0 := KA4.b0
  have x1 := KA4.b1
  have z0 := KR4.b0
  have z1 := KR4.b1
  have g0 := KR4.frozen 0
  have g1 := KR4.frozen 1
  clear KA4 G4 KR4 KR5 G5
  go_wp2
  refine bodyPost_ret (ret_w1 rfl (w.heap.size + 1) (.int .i64 k) (.slice a2 n c2) (by kernel_rfl) HK5.out) rfl ?_
  exact ⟨a2, c2, rfl, hown, HB5.out⟩
end Go.Proofs.Ytmegkfonodcoiaa
