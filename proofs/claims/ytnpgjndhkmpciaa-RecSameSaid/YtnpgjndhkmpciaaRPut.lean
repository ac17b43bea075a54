/-
  Walks of moorings/rec.Put and of the document's Put, at whatever record.
-/
import Derived.Test.YtnpgjndhkmpciaaRReg
import Derived.Test.YtnpgjndhkmpciaaVPut
import Derived.Test.YtnpgjndhkmpciaaVRefPut
import Derived.Test.YtnpgjndhkmpciaaCSeal
import Derived.Test.YtnpgjndhkmpciaaCRef2
namespace Go.Proofs.Ytnpgjndhkmpciaa
open Go.RowKit

theorem row_some {k : IntKind} {w : World} {a : Option Addr} {cap : Nat} {L : List Int} (h : RowIn k w a cap L) (hl : 0 < L.length) : ∃ x, a = some x := by
  obtain ⟨b, off, rfl, _⟩ := row_at h hl
  exact ⟨_, rfl⟩
theorem row_nil_of {k : IntKind} {w : World} {a : Option Addr} {n cap : Nat} {L : List Int} (h : RowIn k w a cap L) (hn : L.length = n) (hl : 0 < n) : a = none → n = 0 ∧ cap = 0 := by
  obtain ⟨x, rfl⟩ := row_some h (by omega)
  intro h; cases h
theorem own_row3 {k : IntKind} {w : World} {B e n : Nat} {v : Value} {L : List Int} (h : w.ownsRow B e 1 v n (L.map (Value.int k))) (hw : ∀ n ∈ L, (Lit.int k n).wf = true) : ∃ a cap, v = .slice a n cap ∧ RowIn k w a cap L ∧ (a = none → n = 0 ∧ cap = 0) := by
  obtain ⟨a, cap, h1, _, h2⟩ := ownsRow_rowIn h hw
  refine ⟨a, cap, h1, h2, ?_⟩
  rintro rfl
  rcases h.2 with ⟨rfl, h0⟩ | ⟨g, cap', cur, rfl, _⟩
  · cases h1; exact ⟨rfl, rfl⟩
  · cases h1

/-- What Put returns. -/
def PutRec (r : R.T) (w : World) (e : Ending) (w' : World) : Prop :=
  ∃ a' cap' n', e = .returned (.tuple #[.slice a' n' cap', .bool (R.put r).isSome]) ∧ Hid (((R.put r).getD []).length = n') ∧ Hid (RowIn .u8 w' a' cap' ((R.put r).getD [])) ∧ Hid (a' = none → n' = 0 ∧ cap' = 0) ∧ Below w.heap.size w w'
theorem PutRec.no {r : R.T} {w w' : World} (h : ¬ R.ok r) (hb : Below w.heap.size w w') : PutRec r w (.returned (.tuple #[.slice none 0 0, .bool false])) w' :=
  ⟨none, 0, 0, by rw [R.put_no h]; rfl, by rw [R.put_no h]; exact Lib.hid rfl, by rw [R.put_no h]; exact Lib.hid (row_nil _ _), Lib.hid (fun _ => ⟨rfl, rfl⟩), hb⟩
theorem PutRec.yes {r : R.T} {w w' : World} {a : Option Addr} {n cap : Nat} (h : R.ok r) (hl : (R.bytes r).length = n) (hr : RowIn .u8 w' a cap (R.bytes r)) (hn : a = none → n = 0 ∧ cap = 0) (hb : Below w.heap.size w w') : PutRec r w (.returned (.tuple #[.slice a n cap, .bool true])) w' :=
  ⟨a, cap, n, by rw [R.put_yes h]; rfl, by rw [R.put_yes h]; exact Lib.hid hl, by rw [R.put_yes h]; exact Lib.hid hr, Lib.hid hn, hb⟩

theorem recPut_no (k : Int) (a : Option Addr) (n cap : Nat) (B : List Int) (w : World) (hl : B.length = n) (h : ¬ R.ok (k, B)) :
    Calls Try.prog 12 #[.agg #[.int .i64 k, .slice a n cap]] w (PutRec (k, B) w) := by
  have HOK := Lib.hid h
  have hc : k < 0 ∨ (0 ≤ k ∧ 255 < k) ∨ (0 ≤ k ∧ k ≤ 255 ∧ 1000 < n) := by
    by_cases h0 : k < 0
    · exact .inl h0
    · by_cases h1 : 255 < k
      · exact .inr (.inl ⟨by omega, h1⟩)
      · refine .inr (.inr ⟨by omega, by omega, ?_⟩)
        by_cases h2 : 1000 < n
        · exact h2
        · exact absurd ⟨by omega, by omega, by show B.length ≤ 1000; omega⟩ h
  clear h hl
  rcases hc with h0 | ⟨h0, h1⟩ | ⟨h0, h1, h2⟩
  · go_enter Try.func12, Try.ntmps12
    go_wp2
    go_ret2
    exact .no HOK.out (recBox_below w k a n cap)
  · have d0 : decide (k < 0) = false := by simp; omega
    go_enter Try.func12, Try.ntmps12
    go_wp2
    go_ret2
    exact .no HOK.out (recBox_below w k a n cap)
  · have d0 : decide (k < 0) = false := by simp; omega
    have d1 : decide (255 < k) = false := by simp; omega
    have d2 : (1000 : Int) < (n : Int) := by omega
    go_enter Try.func12, Try.ntmps12
    go_wp2
    go_ret2
    exact .no HOK.out (recBox_below w k a n cap)

set_option maxRecDepth 100000 in
set_option maxHeartbeats 400000 in
theorem recPut_yes (k : Int) (a : Option Addr) (n cap : Nat) (B : List Int) (w : World) (hl : B.length = n) (hr : RowIn .u8 w a cap B) (hn : a = none → n = 0 ∧ cap = 0) (h : R.ok (k, B)) :
    Calls Try.prog 12 #[.agg #[.int .i64 k, .slice a n cap]] w (PutRec (k, B) w) := by
  obtain ⟨i0, hi, hz0, hz1, hz2⟩ := info_parts info5
  have h0 : 0 ≤ k := h.1
  have h1 : k ≤ 255 := h.2.1
  have h2 : n ≤ 1000 := by have := h.2.2; simp only [hl] at this; exact this
  have d0 : decide (k < 0) = false := by simp; omega
  have d1 : decide (255 < k) = false := by simp; omega
  have d2 : decide ((1000 : Int) < (n : Int)) = false := by simp; omega
  have hw8 : IntKind.u8.wrap k = k := by simp [IntKind.wrap, IntKind.bits, IntKind.signed]; omega
  have HOK := Lib.hid h
  have HL := Lib.hid hl
  have HR := Lib.hid hr
  have HN := Lib.hid hn
  have hpl := R.put_len h
  simp only [hl] at hpl
  have hp1 : 1 ≤ (M.put (n : Int)).length ∧ (M.put (n : Int)).length ≤ 2 := by rw [hpl]; split <;> omega
  have HPW := Lib.hid (C.wf_lit (R.pre_wf h (C.lit_wf hr.2.1)))
  have HPL0 := R.pre_len (k, B)
  simp only [hl] at HPL0
  clear h hl hr hn hpl
  go_enter Try.func12, Try.ntmps12
  go_wp2_with fail
  refine wp_region_held (S := (fun w' => Below (recBox w k a n cap).heap.size (recBox w k a n cap) w')) (by kernel_rfl) ?_
  change wpAnyH _ _ _ _ _ _ _ _ (World.drew (recBox w k a n cap))
  have HS0 : (fun w' => Below (recBox w k a n cap).heap.size (recBox w k a n cap) w') (World.drew (recBox w k a n cap)) := below_drew _
  refine wpAnyH_take (i := 0) (v := (.pointer (some ⟨w.heap.size, 0, none⟩))) rfl (by kernel_rfl) (by kernel_rfl) (by kernel_rfl) (fun _ _ _ h => h) (.inl ⟨by kernel_rfl, fun w9 hS => by kernel_rfl⟩) HS0 ?_
  refine wpAnyH_take (i := 1) (v := (.int .i64 k)) rfl (by kernel_rfl) (by kernel_rfl) (by kernel_rfl) (fun _ _ _ h => h) (.inl ⟨by kernel_rfl, fun w9 hS => by have c := recBox_kind w k a n cap hS; go_simp⟩) HS0 ?_
  refine wpAnyH_take (i := 2) (v := (.int .u8 k)) rfl (by kernel_rfl) (by kernel_rfl) (by kernel_rfl) (fun _ _ _ h => h) (.inl ⟨by kernel_rfl, fun w9 hS => (show _ = Result.ok (.value (.int .u8 (IntKind.u8.wrap k))) w9 by kernel_rfl).trans (by rw [hw8])⟩) HS0 ?_
  refine wpAnyH_take (i := 4) (v := (.pointer (some ⟨w.heap.size, 1, none⟩))) rfl (by kernel_rfl) (by kernel_rfl) (by kernel_rfl) (fun _ _ _ h => h) (.inl ⟨by kernel_rfl, fun w9 hS => by kernel_rfl⟩) HS0 ?_
  refine wpAnyH_take (i := 5) (v := (.slice a n cap)) rfl (by kernel_rfl) (by kernel_rfl) (by kernel_rfl) (fun _ _ _ h => h) (.inl ⟨by kernel_rfl, fun w9 hS => by have c := recBox_body w k a n cap hS; go_simp⟩) HS0 ?_
  refine wpAnyH_take (i := 6) (v := (.int .i64 n)) rfl (by kernel_rfl) (by kernel_rfl) (by kernel_rfl) (fun _ _ _ h => h) (.inl ⟨by kernel_rfl, fun w9 hS => by kernel_rfl⟩) HS0 ?_
  refine wpAnyH_two (i := 3) (j := 7) (by kernel_rfl) ?_ ?_
  · refine wpOp_value (v := .slice (some ⟨(recBox w k a n cap).heap.size, 0, none⟩) 1 1) (w' := (World.drew (recBox w k a n cap)).alloc (.cells #[.int .u8 k] 5)) rfl (by kernel_rfl) (by kernel_rfl) ?_
    have HS1 : (fun w' => Below (recBox w k a n cap).heap.size (recBox w k a n cap) w') ((World.drew (recBox w k a n cap)).alloc (.cells #[.int .u8 k] 5)) := HS0.alloc (Nat.le_refl _) _
    refine ⟨HS1, ?_⟩
    refine wpAnyH_one (i := 7) (by kernel_rfl) (wpOp_call (f := 22) (args := #[.int .i64 n]) rfl (by kernel_rfl) (by kernel_rfl) (putRow_any n _) ?_)
    rintro e w2 ⟨ap0, cp, np, rfl, lp, rp, hb2⟩
    have LP := lp
    have hnp := lp.out
    obtain ⟨ap, rfl⟩ : ∃ x, ap0 = some x := row_some rp.out (by omega)
    have HS2 : (fun w' => Below (recBox w k a n cap).heap.size (recBox w k a n cap) w') w2 := Below.trans HS1 (hb2.mono (Below.size HS1))
    have ho2 : w2.ownsRow (recBox w k a n cap).heap.size 5 1 (.slice (some ⟨(recBox w k a n cap).heap.size, 0, none⟩) 1 1) 1 [.int .u8 k] := ownsRow_below ((Blok.new (World.drew (recBox w k a n cap)) 5 #[.int .u8 k]).own (xs := [.int .u8 k]) (Nat.le_refl _) rfl (Nat.le_refl _) (by simp [maxLen]) rfl) hb2
    have HPL : Hid ((R.pre (k, B)).length = 1 + np + n) := Lib.hid (by rw [HPL0, hnp])
    refine ⟨_, rfl, HS2, ?_⟩
    refine wpAnyH_one (i := 8) (by kernel_rfl) (wpOp_append rfl (by kernel_rfl) _ _ 22 (by rfl) (recBox w k a n cap).heap.size 5 i0 (.int .u8 0) 1 Try.underlying22 hi hz0 hz1 hz2 rfl (.slice (some ⟨(recBox w k a n cap).heap.size, 0, none⟩) 1 1) 1 [.int .u8 k] (by kernel_rfl) ho2 .u8 ap np cp (M.put n) (by kernel_rfl) rp.out LP.out (by unfold maxLen; omega) (by omega) (Below.size HS2) ?_)
    intro v3 w3 hown3 hgrow3
    have HS3 : (fun w' => Below (recBox w k a n cap).heap.size (recBox w k a n cap) w') w3 := below_appended0 ho2 (Below.size HS2) HS2 hgrow3
    refine ⟨HS3, ?_⟩
    refine wpAnyH_take (i := 9) (v := v3) rfl (by kernel_rfl) (by kernel_rfl) (by kernel_rfl) (fun _ _ _ h => h) (.inl ⟨by kernel_rfl, fun w9 hS => by kernel_rfl⟩) HS3 ?_
    refine wpAnyH_done (by kernel_rfl) ?_ _
    have c1 := recBox_body w k a n cap HS3
    have HO3 := Lib.hid hown3
    have HB3 : Hid (Below w.heap.size w w3) := Lib.hid ((recBox_below w k a n cap).trans (HS3.mono (recBox_below w k a n cap).size))
    have HR3 := Lib.hid (HR.out.below HB3.out)
    have HZ3 := Lib.hid (Below.size HS3)
    clear hown3 hgrow3 rp
    go_wp2_with (at_builtin; refine wpList_append_row _ rfl _ _ 22 rfl (recBox w k a n cap).heap.size 5 i0 (.int .u8 0) 1 Try.underlying22 hi hz0 hz1 hz2 rfl v3 (1 + np) ([Value.int .u8 k] ++ (M.put n).map (Value.int .u8)) rfl HO3.out .u8 a n cap B rfl HR3.out HL.out HN.out (by unfold maxLen; omega) (by omega) HZ3.out ?_; intro v4 w4 hown4 hgrow4; obtain ⟨a4, cap4, hv4, r4⟩ := own_row (k := .u8) (L := R.pre (k, B)) (by simpa [R.pre, HL.out] using hown4) HPW.out; have R4 := Lib.hid r4; have HB4 : Hid (Below w.heap.size w w4) := Lib.hid (below_appended0 (ownsRow_base HO3.out (recBox_below w k a n cap).size) HB3.out.size HB3.out hgrow4); clear hown4 hgrow4 r4; subst hv4)
    refine (seal_any a4 (1 + np + n) cap4 (R.pre (k, B)) _ (by omega) HPL.out R4.out).mono ?_
    rintro e w5 ⟨v5, rfl, hown5, hb5⟩
    obtain ⟨a5, cap5, rfl, r5, n5⟩ := own_row3 hown5 (C.wf_lit (C.seal_wf (C.lit_wf HPW.out)))
    have W5 := Lib.hid (HB4.out.trans (hb5.mono HB4.out.size))
    have R5 := Lib.hid r5
    have N5 := Lib.hid n5
    clear hown5 hb5 r5 n5
    go_wp2
    go_ret2
    exact .yes HOK.out (by rw [R.bytes, C.seal_len, HPL.out]) R5.out (fun h => absurd (N5.out h).1 (by omega)) W5.out
  · refine wpOp_call (f := 22) (args := #[.int .i64 n]) rfl (by kernel_rfl) (by kernel_rfl) (putRow_any n _) ?_
    rintro e w1 ⟨ap0, cp, np, rfl, lp, rp0, hb1⟩
    have LP := lp
    have hnp := lp.out
    obtain ⟨ap, rfl⟩ : ∃ x, ap0 = some x := row_some rp0.out (by omega)
    have HS1 : (fun w' => Below (recBox w k a n cap).heap.size (recBox w k a n cap) w') w1 := Below.trans HS0 (hb1.mono (Below.size HS0))
    refine ⟨_, rfl, HS1, ?_⟩
    have HS2 : (fun w' => Below (recBox w k a n cap).heap.size (recBox w k a n cap) w') (w1.alloc (.cells #[.int .u8 k] 5)) := HS1.alloc (Below.size HS1) _
    have ho2 : (w1.alloc (.cells #[.int .u8 k] 5)).ownsRow (recBox w k a n cap).heap.size 5 1 (.slice (some ⟨w1.heap.size, 0, none⟩) 1 1) 1 [.int .u8 k] := (Blok.new w1 5 #[.int .u8 k]).own (xs := [.int .u8 k]) (Below.size HS1) rfl (Nat.le_refl _) (by simp [maxLen]) rfl
    have rp := rp0.out.below ((Below.refl w1.heap.size w1).alloc (Nat.le_refl _) (.cells #[.int .u8 k] 5))
    have HPL : Hid ((R.pre (k, B)).length = 1 + np + n) := Lib.hid (by rw [HPL0, hnp])
    refine wpAnyH_one (i := 3) (by kernel_rfl) (wpOp_value (v := .slice (some ⟨w1.heap.size, 0, none⟩) 1 1) (w' := w1.alloc (.cells #[.int .u8 k] 5)) rfl (by kernel_rfl) (by kernel_rfl) ⟨HS2, ?_⟩)
    refine wpAnyH_one (i := 8) (by kernel_rfl) (wpOp_append rfl (by kernel_rfl) _ _ 22 (by rfl) (recBox w k a n cap).heap.size 5 i0 (.int .u8 0) 1 Try.underlying22 hi hz0 hz1 hz2 rfl (.slice (some ⟨w1.heap.size, 0, none⟩) 1 1) 1 [.int .u8 k] (by kernel_rfl) ho2 .u8 ap np cp (M.put n) (by kernel_rfl) rp LP.out (by unfold maxLen; omega) (by omega) (Below.size HS2) ?_)
    intro v3 w3 hown3 hgrow3
    have HS3 : (fun w' => Below (recBox w k a n cap).heap.size (recBox w k a n cap) w') w3 := below_appended0 ho2 (Below.size HS2) HS2 hgrow3
    refine ⟨HS3, ?_⟩
    refine wpAnyH_take (i := 9) (v := v3) rfl (by kernel_rfl) (by kernel_rfl) (by kernel_rfl) (fun _ _ _ h => h) (.inl ⟨by kernel_rfl, fun w9 hS => by kernel_rfl⟩) HS3 ?_
    refine wpAnyH_done (by kernel_rfl) ?_ _
    have c1 := recBox_body w k a n cap HS3
    have HO3 := Lib.hid hown3
    have HB3 : Hid (Below w.heap.size w w3) := Lib.hid ((recBox_below w k a n cap).trans (HS3.mono (recBox_below w k a n cap).size))
    have HR3 := Lib.hid (HR.out.below HB3.out)
    have HZ3 := Lib.hid (Below.size HS3)
    clear hown3 hgrow3 rp
    go_wp2_with (at_builtin; refine wpList_append_row _ rfl _ _ 22 rfl (recBox w k a n cap).heap.size 5 i0 (.int .u8 0) 1 Try.underlying22 hi hz0 hz1 hz2 rfl v3 (1 + np) ([Value.int .u8 k] ++ (M.put n).map (Value.int .u8)) rfl HO3.out .u8 a n cap B rfl HR3.out HL.out HN.out (by unfold maxLen; omega) (by omega) HZ3.out ?_; intro v4 w4 hown4 hgrow4; obtain ⟨a4, cap4, hv4, r4⟩ := own_row (k := .u8) (L := R.pre (k, B)) (by simpa [R.pre, HL.out] using hown4) HPW.out; have R4 := Lib.hid r4; have HB4 : Hid (Below w.heap.size w w4) := Lib.hid (below_appended0 (ownsRow_base HO3.out (recBox_below w k a n cap).size) HB3.out.size HB3.out hgrow4); clear hown4 hgrow4 r4; subst hv4)
    refine (seal_any a4 (1 + np + n) cap4 (R.pre (k, B)) _ (by omega) HPL.out R4.out).mono ?_
    rintro e w5 ⟨v5, rfl, hown5, hb5⟩
    obtain ⟨a5, cap5, rfl, r5, n5⟩ := own_row3 hown5 (C.wf_lit (C.seal_wf (C.lit_wf HPW.out)))
    have W5 := Lib.hid (HB4.out.trans (hb5.mono HB4.out.size))
    have R5 := Lib.hid r5
    have N5 := Lib.hid n5
    clear hown5 hb5 r5 n5
    go_wp2
    go_ret2
    exact .yes HOK.out (by rw [R.bytes, C.seal_len, HPL.out]) R5.out (fun h => absurd (N5.out h).1 (by omega)) W5.out

theorem recPut_any (k : Int) (a : Option Addr) (n cap : Nat) (B : List Int) (w : World) (hl : B.length = n) (hr : RowIn .u8 w a cap B) (hn : a = none → n = 0 ∧ cap = 0) :
    Calls Try.prog 12 #[.agg #[.int .i64 k, .slice a n cap]] w (PutRec (k, B) w) := by
  by_cases h : R.ok (k, B)
  · exact recPut_yes k a n cap B w hl hr hn h
  · exact recPut_no k a n cap B w hl h

theorem refRecPut_no (k : Int) (a : Option Addr) (n cap : Nat) (B : List Int) (w : World) (hl : B.length = n) (h : ¬ R.ok (k, B)) :
    Calls Try.prog 13 #[.agg #[.int .i64 k, .slice a n cap]] w (PutRec (k, B) w) := by
  have HOK := Lib.hid h
  have hc : k < 0 ∨ (0 ≤ k ∧ 255 < k) ∨ (0 ≤ k ∧ k ≤ 255 ∧ 1000 < n) := by
    by_cases h0 : k < 0
    · exact .inl h0
    · by_cases h1 : 255 < k
      · exact .inr (.inl ⟨by omega, h1⟩)
      · refine .inr (.inr ⟨by omega, by omega, ?_⟩)
        by_cases h2 : 1000 < n
        · exact h2
        · exact absurd ⟨by omega, by omega, by show B.length ≤ 1000; omega⟩ h
  clear h hl
  rcases hc with h0 | ⟨h0, h1⟩ | ⟨h0, h1, h2⟩
  · go_enter Try.func13, Try.ntmps13
    go_wp2
    go_ret2
    exact .no HOK.out (recBox_below w k a n cap)
  · have d0 : decide (k < 0) = false := by simp; omega
    go_enter Try.func13, Try.ntmps13
    go_wp2
    go_ret2
    exact .no HOK.out (recBox_below w k a n cap)
  · have d0 : decide (k < 0) = false := by simp; omega
    have d1 : decide (255 < k) = false := by simp; omega
    have d2 : (1000 : Int) < (n : Int) := by omega
    go_enter Try.func13, Try.ntmps13
    go_wp2
    go_ret2
    exact .no HOK.out (recBox_below w k a n cap)

set_option maxRecDepth 100000 in
set_option maxHeartbeats 400000 in
theorem refRecPut_yes (k : Int) (a : Option Addr) (n cap : Nat) (B : List Int) (w : World) (hl : B.length = n) (hr : RowIn .u8 w a cap B) (hn : a = none → n = 0 ∧ cap = 0) (h : R.ok (k, B)) :
    Calls Try.prog 13 #[.agg #[.int .i64 k, .slice a n cap]] w (PutRec (k, B) w) := by
  obtain ⟨i0, hi, hz0, hz1, hz2⟩ := info_parts info5
  have h0 : 0 ≤ k := h.1
  have h1 : k ≤ 255 := h.2.1
  have h2 : n ≤ 1000 := by have := h.2.2; simp only [hl] at this; exact this
  have d0 : decide (k < 0) = false := by simp; omega
  have d1 : decide (255 < k) = false := by simp; omega
  have d2 : decide ((1000 : Int) < (n : Int)) = false := by simp; omega
  have hw8 : IntKind.u8.wrap k = k := by simp [IntKind.wrap, IntKind.bits, IntKind.signed]; omega
  have HOK := Lib.hid h
  have HL := Lib.hid hl
  have HR := Lib.hid hr
  have HN := Lib.hid hn
  have hpl := R.put_len h
  simp only [hl] at hpl
  have hp1 : 1 ≤ (M.put (n : Int)).length ∧ (M.put (n : Int)).length ≤ 2 := by rw [hpl]; split <;> omega
  have HPW := Lib.hid (C.wf_lit (R.pre_wf h (C.lit_wf hr.2.1)))
  have HPL0 := R.pre_len (k, B)
  simp only [hl] at HPL0
  clear h hl hr hn hpl
  go_enter Try.func13, Try.ntmps13
  go_wp2_with fail
  refine wp_region_held (S := (fun w' => Below (recBox w k a n cap).heap.size (recBox w k a n cap) w')) (by kernel_rfl) ?_
  change wpAnyH _ _ _ _ _ _ _ _ (World.drew (recBox w k a n cap))
  have HS0 : (fun w' => Below (recBox w k a n cap).heap.size (recBox w k a n cap) w') (World.drew (recBox w k a n cap)) := below_drew _
  refine wpAnyH_take (i := 0) (v := (.pointer (some ⟨w.heap.size, 0, none⟩))) rfl (by kernel_rfl) (by kernel_rfl) (by kernel_rfl) (fun _ _ _ h => h) (.inl ⟨by kernel_rfl, fun w9 hS => by kernel_rfl⟩) HS0 ?_
  refine wpAnyH_take (i := 1) (v := (.int .i64 k)) rfl (by kernel_rfl) (by kernel_rfl) (by kernel_rfl) (fun _ _ _ h => h) (.inl ⟨by kernel_rfl, fun w9 hS => by have c := recBox_kind w k a n cap hS; go_simp⟩) HS0 ?_
  refine wpAnyH_take (i := 2) (v := (.int .u8 k)) rfl (by kernel_rfl) (by kernel_rfl) (by kernel_rfl) (fun _ _ _ h => h) (.inl ⟨by kernel_rfl, fun w9 hS => (show _ = Result.ok (.value (.int .u8 (IntKind.u8.wrap k))) w9 by kernel_rfl).trans (by rw [hw8])⟩) HS0 ?_
  refine wpAnyH_take (i := 4) (v := (.pointer (some ⟨w.heap.size, 1, none⟩))) rfl (by kernel_rfl) (by kernel_rfl) (by kernel_rfl) (fun _ _ _ h => h) (.inl ⟨by kernel_rfl, fun w9 hS => by kernel_rfl⟩) HS0 ?_
  refine wpAnyH_take (i := 5) (v := (.slice a n cap)) rfl (by kernel_rfl) (by kernel_rfl) (by kernel_rfl) (fun _ _ _ h => h) (.inl ⟨by kernel_rfl, fun w9 hS => by have c := recBox_body w k a n cap hS; go_simp⟩) HS0 ?_
  refine wpAnyH_take (i := 6) (v := (.int .i64 n)) rfl (by kernel_rfl) (by kernel_rfl) (by kernel_rfl) (fun _ _ _ h => h) (.inl ⟨by kernel_rfl, fun w9 hS => by kernel_rfl⟩) HS0 ?_
  refine wpAnyH_two (i := 3) (j := 7) (by kernel_rfl) ?_ ?_
  · refine wpOp_value (v := .slice (some ⟨(recBox w k a n cap).heap.size, 0, none⟩) 1 1) (w' := (World.drew (recBox w k a n cap)).alloc (.cells #[.int .u8 k] 5)) rfl (by kernel_rfl) (by kernel_rfl) ?_
    have HS1 : (fun w' => Below (recBox w k a n cap).heap.size (recBox w k a n cap) w') ((World.drew (recBox w k a n cap)).alloc (.cells #[.int .u8 k] 5)) := HS0.alloc (Nat.le_refl _) _
    refine ⟨HS1, ?_⟩
    refine wpAnyH_one (i := 7) (by kernel_rfl) (wpOp_call (f := 24) (args := #[.int .i64 n]) rfl (by kernel_rfl) (by kernel_rfl) (refPutRow_any n _) ?_)
    rintro e w2 ⟨ap0, cp, np, rfl, lp, rp, hb2⟩
    have LP := lp
    have hnp := lp.out
    obtain ⟨ap, rfl⟩ : ∃ x, ap0 = some x := row_some rp.out (by omega)
    have HS2 : (fun w' => Below (recBox w k a n cap).heap.size (recBox w k a n cap) w') w2 := Below.trans HS1 (hb2.mono (Below.size HS1))
    have ho2 : w2.ownsRow (recBox w k a n cap).heap.size 5 1 (.slice (some ⟨(recBox w k a n cap).heap.size, 0, none⟩) 1 1) 1 [.int .u8 k] := ownsRow_below ((Blok.new (World.drew (recBox w k a n cap)) 5 #[.int .u8 k]).own (xs := [.int .u8 k]) (Nat.le_refl _) rfl (Nat.le_refl _) (by simp [maxLen]) rfl) hb2
    have HPL : Hid ((R.pre (k, B)).length = 1 + np + n) := Lib.hid (by rw [HPL0, hnp])
    refine ⟨_, rfl, HS2, ?_⟩
    refine wpAnyH_one (i := 8) (by kernel_rfl) (wpOp_append rfl (by kernel_rfl) _ _ 22 (by rfl) (recBox w k a n cap).heap.size 5 i0 (.int .u8 0) 1 Try.underlying22 hi hz0 hz1 hz2 rfl (.slice (some ⟨(recBox w k a n cap).heap.size, 0, none⟩) 1 1) 1 [.int .u8 k] (by kernel_rfl) ho2 .u8 ap np cp (M.put n) (by kernel_rfl) rp.out LP.out (by unfold maxLen; omega) (by omega) (Below.size HS2) ?_)
    intro v3 w3 hown3 hgrow3
    have HS3 : (fun w' => Below (recBox w k a n cap).heap.size (recBox w k a n cap) w') w3 := below_appended0 ho2 (Below.size HS2) HS2 hgrow3
    refine ⟨HS3, ?_⟩
    refine wpAnyH_take (i := 9) (v := v3) rfl (by kernel_rfl) (by kernel_rfl) (by kernel_rfl) (fun _ _ _ h => h) (.inl ⟨by kernel_rfl, fun w9 hS => by kernel_rfl⟩) HS3 ?_
    refine wpAnyH_done (by kernel_rfl) ?_ _
    have c1 := recBox_body w k a n cap HS3
    have HO3 := Lib.hid hown3
    have HB3 : Hid (Below w.heap.size w w3) := Lib.hid ((recBox_below w k a n cap).trans (HS3.mono (recBox_below w k a n cap).size))
    have HR3 := Lib.hid (HR.out.below HB3.out)
    have HZ3 := Lib.hid (Below.size HS3)
    clear hown3 hgrow3 rp
    go_wp2_with (at_builtin; refine wpList_append_row _ rfl _ _ 22 rfl (recBox w k a n cap).heap.size 5 i0 (.int .u8 0) 1 Try.underlying22 hi hz0 hz1 hz2 rfl v3 (1 + np) ([Value.int .u8 k] ++ (M.put n).map (Value.int .u8)) rfl HO3.out .u8 a n cap B rfl HR3.out HL.out HN.out (by unfold maxLen; omega) (by omega) HZ3.out ?_; intro v4 w4 hown4 hgrow4; obtain ⟨a4, cap4, hv4, r4⟩ := own_row (k := .u8) (L := R.pre (k, B)) (by simpa [R.pre, HL.out] using hown4) HPW.out; have R4 := Lib.hid r4; have HB4 : Hid (Below w.heap.size w w4) := Lib.hid (below_appended0 (ownsRow_base HO3.out (recBox_below w k a n cap).size) HB3.out.size HB3.out hgrow4); clear hown4 hgrow4 r4; subst hv4)
    refine (refSeal_any a4 (1 + np + n) cap4 (R.pre (k, B)) _ (by omega) HPL.out R4.out (row_nil_of R4.out HPL.out (by omega))).mono ?_
    rintro e w5 ⟨v5, rfl, hown5, hb5⟩
    obtain ⟨a5, cap5, rfl, r5, n5⟩ := own_row3 hown5 (C.wf_lit (C.seal_wf (C.lit_wf HPW.out)))
    have W5 := Lib.hid (HB4.out.trans (hb5.mono HB4.out.size))
    have R5 := Lib.hid r5
    have N5 := Lib.hid n5
    clear hown5 hb5 r5 n5
    go_wp2
    go_ret2
    exact .yes HOK.out (by rw [R.bytes, C.seal_len, HPL.out]) R5.out (fun h => absurd (N5.out h).1 (by omega)) W5.out
  · refine wpOp_call (f := 24) (args := #[.int .i64 n]) rfl (by kernel_rfl) (by kernel_rfl) (refPutRow_any n _) ?_
    rintro e w1 ⟨ap0, cp, np, rfl, lp, rp0, hb1⟩
    have LP := lp
    have hnp := lp.out
    obtain ⟨ap, rfl⟩ : ∃ x, ap0 = some x := row_some rp0.out (by omega)
    have HS1 : (fun w' => Below (recBox w k a n cap).heap.size (recBox w k a n cap) w') w1 := Below.trans HS0 (hb1.mono (Below.size HS0))
    refine ⟨_, rfl, HS1, ?_⟩
    have HS2 : (fun w' => Below (recBox w k a n cap).heap.size (recBox w k a n cap) w') (w1.alloc (.cells #[.int .u8 k] 5)) := HS1.alloc (Below.size HS1) _
    have ho2 : (w1.alloc (.cells #[.int .u8 k] 5)).ownsRow (recBox w k a n cap).heap.size 5 1 (.slice (some ⟨w1.heap.size, 0, none⟩) 1 1) 1 [.int .u8 k] := (Blok.new w1 5 #[.int .u8 k]).own (xs := [.int .u8 k]) (Below.size HS1) rfl (Nat.le_refl _) (by simp [maxLen]) rfl
    have rp := rp0.out.below ((Below.refl w1.heap.size w1).alloc (Nat.le_refl _) (.cells #[.int .u8 k] 5))
    have HPL : Hid ((R.pre (k, B)).length = 1 + np + n) := Lib.hid (by rw [HPL0, hnp])
    refine wpAnyH_one (i := 3) (by kernel_rfl) (wpOp_value (v := .slice (some ⟨w1.heap.size, 0, none⟩) 1 1) (w' := w1.alloc (.cells #[.int .u8 k] 5)) rfl (by kernel_rfl) (by kernel_rfl) ⟨HS2, ?_⟩)
    refine wpAnyH_one (i := 8) (by kernel_rfl) (wpOp_append rfl (by kernel_rfl) _ _ 22 (by rfl) (recBox w k a n cap).heap.size 5 i0 (.int .u8 0) 1 Try.underlying22 hi hz0 hz1 hz2 rfl (.slice (some ⟨w1.heap.size, 0, none⟩) 1 1) 1 [.int .u8 k] (by kernel_rfl) ho2 .u8 ap np cp (M.put n) (by kernel_rfl) rp LP.out (by unfold maxLen; omega) (by omega) (Below.size HS2) ?_)
    intro v3 w3 hown3 hgrow3
    have HS3 : (fun w' => Below (recBox w k a n cap).heap.size (recBox w k a n cap) w') w3 := below_appended0 ho2 (Below.size HS2) HS2 hgrow3
    refine ⟨HS3, ?_⟩
    refine wpAnyH_take (i := 9) (v := v3) rfl (by kernel_rfl) (by kernel_rfl) (by kernel_rfl) (fun _ _ _ h => h) (.inl ⟨by kernel_rfl, fun w9 hS => by kernel_rfl⟩) HS3 ?_
    refine wpAnyH_done (by kernel_rfl) ?_ _
    have c1 := recBox_body w k a n cap HS3
    have HO3 := Lib.hid hown3
    have HB3 : Hid (Below w.heap.size w w3) := Lib.hid ((recBox_below w k a n cap).trans (HS3.mono (recBox_below w k a n cap).size))
    have HR3 := Lib.hid (HR.out.below HB3.out)
    have HZ3 := Lib.hid (Below.size HS3)
    clear hown3 hgrow3 rp
    go_wp2_with (at_builtin; refine wpList_append_row _ rfl _ _ 22 rfl (recBox w k a n cap).heap.size 5 i0 (.int .u8 0) 1 Try.underlying22 hi hz0 hz1 hz2 rfl v3 (1 + np) ([Value.int .u8 k] ++ (M.put n).map (Value.int .u8)) rfl HO3.out .u8 a n cap B rfl HR3.out HL.out HN.out (by unfold maxLen; omega) (by omega) HZ3.out ?_; intro v4 w4 hown4 hgrow4; obtain ⟨a4, cap4, hv4, r4⟩ := own_row (k := .u8) (L := R.pre (k, B)) (by simpa [R.pre, HL.out] using hown4) HPW.out; have R4 := Lib.hid r4; have HB4 : Hid (Below w.heap.size w w4) := Lib.hid (below_appended0 (ownsRow_base HO3.out (recBox_below w k a n cap).size) HB3.out.size HB3.out hgrow4); clear hown4 hgrow4 r4; subst hv4)
    refine (refSeal_any a4 (1 + np + n) cap4 (R.pre (k, B)) _ (by omega) HPL.out R4.out (row_nil_of R4.out HPL.out (by omega))).mono ?_
    rintro e w5 ⟨v5, rfl, hown5, hb5⟩
    obtain ⟨a5, cap5, rfl, r5, n5⟩ := own_row3 hown5 (C.wf_lit (C.seal_wf (C.lit_wf HPW.out)))
    have W5 := Lib.hid (HB4.out.trans (hb5.mono HB4.out.size))
    have R5 := Lib.hid r5
    have N5 := Lib.hid n5
    clear hown5 hb5 r5 n5
    go_wp2
    go_ret2
    exact .yes HOK.out (by rw [R.bytes, C.seal_len, HPL.out]) R5.out (fun h => absurd (N5.out h).1 (by omega)) W5.out

theorem refRecPut_any (k : Int) (a : Option Addr) (n cap : Nat) (B : List Int) (w : World) (hl : B.length = n) (hr : RowIn .u8 w a cap B) (hn : a = none → n = 0 ∧ cap = 0) :
    Calls Try.prog 13 #[.agg #[.int .i64 k, .slice a n cap]] w (PutRec (k, B) w) := by
  by_cases h : R.ok (k, B)
  · exact refRecPut_yes k a n cap B w hl hr hn h
  · exact refRecPut_no k a n cap B w hl h
end Go.Proofs.Ytnpgjndhkmpciaa
