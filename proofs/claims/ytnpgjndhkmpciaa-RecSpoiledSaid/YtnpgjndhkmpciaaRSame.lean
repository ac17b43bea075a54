/-
  Walks of moorings/rec.Same and the document's Same, at whatever two records.
-/
import Derived.Test.YtnpgjndhkmpciaaRMath
import Derived.Test.YtnpgjndhkmpciaaBytes
namespace Go.Proofs.Ytnpgjndhkmpciaa
open Go.RowKit

/-- What Same returns. -/
def SameIs (r s : R.T) (w : World) (e : Ending) (w' : World) : Prop := e = .returned (.bool (decide (r = s))) ∧ Below w.heap.size w w'

theorem rec_boxes {P : Prop} {w : World} (u v : Obj) (h : Below w.heap.size w ((w.alloc u).alloc v) → P) : P := h (((Below.refl _ w).alloc (Nat.le_refl _) u).alloc (by simp) v)
theorem rec_eq {k k' : Int} {B B' : List Int} {d : Bool} (hk : k = k') (h : decide (B = B') = d) : decide (((k, B) : R.T) = (k', B')) = d := by
  subst hk; rw [← h]; simp
theorem rec_ne {k k' : Int} {B B' : List Int} (hk : ¬ k = k') : decide (((k, B) : R.T) = (k', B')) = false := by simp [hk]

theorem same_any (k k' : Int) (a a' : Option Addr) (n n' cap cap' : Nat) (B B' : List Int) (w : World) (hl : B.length = n) (hk : B'.length = n') (h : RowIn .u8 w a cap B) (h' : RowIn .u8 w a' cap' B') :
    Calls Try.prog 20 #[.agg #[.int .i64 k, .slice a n cap], .agg #[.int .i64 k', .slice a' n' cap']] w (SameIs (k, B) (k', B') w) := by
  have HL := Lib.hid hl
  have HK := Lib.hid hk
  have HR := Lib.hid h
  have HR' := Lib.hid h'
  clear hl hk h h'
  by_cases e : k = k'
  · obtain ⟨d, hd⟩ : ∃ d, decide (B = B') = d := ⟨_, rfl⟩
    have HD := Lib.hid (rec_eq e hd)
    have HD0 := Lib.hid hd
    clear hd
    subst e
    go_enter Try.func20, Try.ntmps20
    go_wp2_with fail
    refine rec_boxes (w := w) _ _ (fun hb => (equal_any a a' n n' cap cap' B B' _ HL.out HK.out (HR.out.below hb) (HR'.out.below hb)).mono ?_)
    rintro e w1 ⟨rfl, hb1⟩
    rw [HD0.out]
    have W1 := Lib.hid (hb.trans (hb1.mono hb.size))
    clear hb1
    go_wp2
    go_ret
    exact ⟨by rw [HD.out]; rfl, W1.out⟩
  · have HD := Lib.hid (rec_ne (B := B) (B' := B') e)
    go_enter Try.func20, Try.ntmps20
    go_wp2
    go_ret
    exact ⟨by rw [HD.out]; rfl, rec_boxes (w := w) _ _ (fun hb => hb)⟩

theorem refSame_any (k k' : Int) (a a' : Option Addr) (n n' cap cap' : Nat) (B B' : List Int) (w : World) (hl : B.length = n) (hk : B'.length = n') (h : RowIn .u8 w a cap B) (h' : RowIn .u8 w a' cap' B') :
    Calls Try.prog 18 #[.agg #[.int .i64 k, .slice a n cap], .agg #[.int .i64 k', .slice a' n' cap']] w (SameIs (k, B) (k', B') w) := by
  have HL := Lib.hid hl
  have HK := Lib.hid hk
  have HR := Lib.hid h
  have HR' := Lib.hid h'
  clear hl hk h h'
  by_cases e : k = k'
  · obtain ⟨d, hd⟩ : ∃ d, decide (B = B') = d := ⟨_, rfl⟩
    have HD := Lib.hid (rec_eq e hd)
    obtain ⟨s, hs⟩ : ∃ s, strOf B = s := ⟨_, rfl⟩
    obtain ⟨t, ht⟩ : ∃ t, strOf B' = t := ⟨_, rfl⟩
    have e1 : (s.toList == t.toList) = d := by rw [← hs, ← ht, str_beq HR.out.2.1 HR'.out.2.1, hd]
    have c1 := fun u v => conv_row (HR.out.below (rec_boxes (w := w) u v (fun hb => hb))) HL.out
    have c2 := fun u v => conv_row (HR'.out.below (rec_boxes (w := w) u v (fun hb => hb))) HK.out
    rw [hs] at c1
    rw [ht] at c2
    clear hd hs ht
    subst e
    go_enter Try.func18, Try.ntmps18
    go_wp2
    go_ret
    exact ⟨by rw [HD.out]; rfl, rec_boxes (w := w) _ _ (fun hb => hb)⟩
  · have HD := Lib.hid (rec_ne (B := B) (B' := B') e)
    go_enter Try.func18, Try.ntmps18
    go_wp2
    go_ret
    exact ⟨by rw [HD.out]; rfl, rec_boxes (w := w) _ _ (fun hb => hb)⟩
end Go.Proofs.Ytnpgjndhkmpciaa
