/-
  Walks of moorings/crc.Seal and Open, at every slice of bytes of at most 90000.
-/
import Derived.Test.YtnpgjndhkmpciaaCTake
import Derived.Test.YtnpgjndhkmpciaaBytes
namespace Go.Proofs.Ytnpgjndhkmpciaa
open Go.RowKit

theorem C.four_n (s : BitVec 32) : C.four s = [C.n s / 16777216, C.n s / 65536 % 256, C.n s / 256 % 256, C.n s % 256] := by
  have := s.isLt
  unfold C.four C.n
  simp only [List.cons.injEq, and_true]
  refine ⟨?_, ?_, ?_, ?_⟩ <;> omega
theorem C.wf_lit {L : List Int} (h : C.wf L) : ∀ n ∈ L, (Lit.int .u8 n).wf = true := by
  intro n hn
  have := h n hn
  simp [Lit.wf, IntKind.bits, IntKind.signed, IntKind.min, IntKind.max]
  omega
theorem C.lit_wf {L : List Int} (h : ∀ n ∈ L, (Lit.int .u8 n).wf = true) : C.wf L := fun c hc => byte_of h c hc

/-- What Seal returns. -/
def SealIs (L : List Int) (w : World) (e : Ending) (w' : World) : Prop := ∃ v, e = .returned v ∧ w'.ownsRow w.heap.size 5 1 v (L.length + 4) ((C.seal L).map (Value.int .u8)) ∧ Below w.heap.size w w'

set_option maxRecDepth 100000 in
set_option maxHeartbeats 1000000 in
theorem seal_any (a : Option Addr) (len cap : Nat) (L : List Int) (w : World) (h9 : len ≤ 90000) (hl : L.length = len) (h : RowIn .u8 w a cap L) :
    Calls Try.prog 23 #[.slice a len cap] w (SealIs L w) := by
  obtain ⟨i0, hi, hz0, hz1, hz2⟩ := info_parts info5
  have HL := Lib.hid hl
  have HR := Lib.hid h
  clear hl h
  go_enter Try.func23, Try.ntmps23
  go_wp2_with fail
  refine (sum_any a len cap L _ HL.out HR.out).mono ?_
  rintro e w1 ⟨rfl, hb1⟩
  have W1 := Lib.hid hb1
  clear hb1
  have HF := Lib.hid (C.four_n (C.sum L))
  have hs := C.n_bd (C.sum L)
  obtain ⟨s, hss⟩ : ∃ s, C.n (C.sum L) = s := ⟨_, rfl⟩
  rw [hss] at HF hs ⊢
  clear hss
  go_wp2_with fail
  refine (clone_any a len cap L _ (by omega) HL.out (HR.out.below W1.out)).mono ?_
  rintro e w2 ⟨v, rfl, hown, hb2⟩
  have hown := ownsRow_base hown W1.out.size
  have W2 := Lib.hid (W1.out.trans (hb2.mono W1.out.size))
  clear hb2
  go_wp2
  go_loopg [4, 10] 4 (fun g v s10 wr => ∃ i : Nat, s10 = .int .i64 i ∧ i + g = 4 ∧ wr.ownsRow w.heap.size 5 1 v (len + i) ((L ++ (C.four (C.sum L)).take i).map (Value.int .u8)) ∧ Hid (Below w.heap.size w wr))
  case atStart => exact ⟨0, rfl, by omega, by simpa using hown, W2⟩
  case round =>
    obtain ⟨i, rfl, hig, hown, HB⟩ := hrel
    have hBs := HB.out.size
    have hi5 : i = 0 ∨ i = 1 ∨ i = 2 ∨ i = 3 ∨ i = 4 := by omega
    rcases hi5 with rfl | rfl | rfl | rfl | rfl
    · go_wp2_with (at_builtin; refine wpList_append_own _ rfl _ _ 22 rfl w.heap.size 5 i0 (.int .u8 0) 1 1 Try.underlying22 hi hz0 hz1 hz2 rfl (by decide) _ _ _ rfl (hown.alloc _) ⟨wr.heap.size, 0, none⟩ 1 1 [.int .u8 (s / 16777216)] rfl rfl (cell_one_new _ _ _) (by simp [Value.oneCell']) (by unfold maxLen; omega) (by omega) (by simp; omega) ?_; intro v' w3 hown' hgrow _)
      have HG := Lib.hid (below_appended hown hBs HB.out hgrow)
      have HO : Hid (w3.ownsRow w.heap.size 5 1 v' (len + 1) ((L ++ (C.four (C.sum L)).take 1).map (Value.int .u8))) := Lib.hid (by rw [HF.out] at hown' ⊢; simpa using hown')
      clear hown' hgrow hown
      go_roundg 3
      case rel => exact ⟨1, by go_num, by omega, HO.out, HG⟩
      case measure => omega
    · go_wp2_with (at_builtin; refine wpList_append_own _ rfl _ _ 22 rfl w.heap.size 5 i0 (.int .u8 0) 1 1 Try.underlying22 hi hz0 hz1 hz2 rfl (by decide) _ _ _ rfl (hown.alloc _) ⟨wr.heap.size, 0, none⟩ 1 1 [.int .u8 (s / 65536 % 256)] rfl rfl (cell_one_new _ _ _) (by simp [Value.oneCell']) (by unfold maxLen; omega) (by omega) (by simp; omega) ?_; intro v' w3 hown' hgrow _)
      have HG := Lib.hid (below_appended hown hBs HB.out hgrow)
      have HO : Hid (w3.ownsRow w.heap.size 5 1 v' (len + 2) ((L ++ (C.four (C.sum L)).take 2).map (Value.int .u8))) := Lib.hid (by rw [HF.out] at hown' ⊢; simpa using hown')
      clear hown' hgrow hown
      go_roundg 2
      case rel => exact ⟨2, by go_num, by omega, HO.out, HG⟩
      case measure => omega
    · go_wp2_with (at_builtin; refine wpList_append_own _ rfl _ _ 22 rfl w.heap.size 5 i0 (.int .u8 0) 1 1 Try.underlying22 hi hz0 hz1 hz2 rfl (by decide) _ _ _ rfl (hown.alloc _) ⟨wr.heap.size, 0, none⟩ 1 1 [.int .u8 (s / 256 % 256)] rfl rfl (cell_one_new _ _ _) (by simp [Value.oneCell']) (by unfold maxLen; omega) (by omega) (by simp; omega) ?_; intro v' w3 hown' hgrow _)
      have HG := Lib.hid (below_appended hown hBs HB.out hgrow)
      have HO : Hid (w3.ownsRow w.heap.size 5 1 v' (len + 3) ((L ++ (C.four (C.sum L)).take 3).map (Value.int .u8))) := Lib.hid (by rw [HF.out] at hown' ⊢; simpa using hown')
      clear hown' hgrow hown
      go_roundg 1
      case rel => exact ⟨3, by go_num, by omega, HO.out, HG⟩
      case measure => omega
    · go_wp2_with (at_builtin; refine wpList_append_own _ rfl _ _ 22 rfl w.heap.size 5 i0 (.int .u8 0) 1 1 Try.underlying22 hi hz0 hz1 hz2 rfl (by decide) _ _ _ rfl (hown.alloc _) ⟨wr.heap.size, 0, none⟩ 1 1 [.int .u8 (s % 256)] rfl rfl (cell_one_new _ _ _) (by simp [Value.oneCell']) (by unfold maxLen; omega) (by omega) (by simp; omega) ?_; intro v' w3 hown' hgrow _)
      have HG := Lib.hid (below_appended hown hBs HB.out hgrow)
      have HO : Hid (w3.ownsRow w.heap.size 5 1 v' (len + 4) ((L ++ (C.four (C.sum L)).take 4).map (Value.int .u8))) := Lib.hid (by rw [HF.out] at hown' ⊢; simpa using hown')
      clear hown' hgrow hown
      go_roundg 0
      case rel => exact ⟨4, by go_num, by omega, HO.out, HG⟩
      case measure => omega
    · go_wp2
      go_ret
      exact ⟨_, rfl, by rw [HL.out]; simpa [C.seal, C.four] using hown, HB.out⟩

/-- What Seal tells, as a slice. -/
theorem sealRow_any (a : Option Addr) (len cap : Nat) (L : List Int) (w : World) (h9 : len ≤ 90000) (hl : L.length = len) (h : RowIn .u8 w a cap L) :
    Calls Try.prog 23 #[.slice a len cap] w fun e w' => ∃ a' cap', e = .returned (.slice a' (len + 4) cap') ∧ Hid (RowIn .u8 w' a' cap' (C.seal L)) ∧ Below w.heap.size w w' :=
  (seal_any a len cap L w h9 hl h).mono fun e w' ⟨v, he, ho, hb⟩ => by
    obtain ⟨a', cap', rfl, hr⟩ := own_row ho (C.wf_lit (C.seal_wf (C.lit_wf h.2.1)))
    exact ⟨a', cap', by rw [he, hl], hr, hb⟩

theorem row_nil (k : IntKind) (w : World) : RowIn k w none 0 [] := ⟨by simp [maxLen], by simp, .inl rfl⟩

/-- What Open returns. -/
def OpenIs (L : List Int) (w : World) (e : Ending) (w' : World) : Prop :=
  ∃ a' cap' n', e = .returned (.tuple #[.slice a' n' cap', .bool (C.open L).isSome]) ∧ Hid (((C.open L).getD []).length = n') ∧ Hid (RowIn .u8 w' a' cap' ((C.open L).getD [])) ∧ Below w.heap.size w w'
theorem OpenIs.no {L : List Int} {w w' : World} (h : C.open L = none) (hb : Below w.heap.size w w') : OpenIs L w (.returned (.tuple #[.slice none 0 0, .bool false])) w' :=
  ⟨none, 0, 0, by rw [h]; rfl, by rw [h]; rfl, by rw [h]; exact row_nil _ _, hb⟩
theorem OpenIs.yes {L M : List Int} {w w' : World} {a : Option Addr} {n cap : Nat} (h : C.open L = some M) (hn : M.length = n) (hr : RowIn .u8 w' a cap M) (hb : Below w.heap.size w w') : OpenIs L w (.returned (.tuple #[.slice a n cap, .bool true])) w' :=
  ⟨a, cap, n, by rw [h]; rfl, by rw [h]; exact hn, by rw [h]; exact hr, hb⟩

theorem open_short (a : Option Addr) (len cap : Nat) (L : List Int) (w : World) (h4 : len < 4) (hl : L.length = len) :
    Calls Try.prog 27 #[.slice a len cap] w (OpenIs L w) := by
  have HN := Lib.hid (C.open_short (D := L) (by omega))
  have he : decide ((len : Int) < 4) = true := by simp; omega
  have he2 : (len : Int) - 4 < 0 := by omega
  clear hl
  go_enter Try.func27, Try.ntmps27
  go_wp2
  go_ret2
  exact .no HN.out (Below.refl _ _)

set_option maxRecDepth 100000 in
set_option maxHeartbeats 1000000 in
theorem open_in (x : Addr) (len m cap : Nat) (L : List Int) (w : World) (h9 : len ≤ 90000) (hl : L.length = len) (hm : m + 4 = len) (h : RowIn .u8 w (some x) cap L) :
    Calls Try.prog 27 #[.slice (some x) len cap] w (OpenIs L w) := by
  have hcap : len ≤ cap ∧ cap ≤ maxLen := by have := h.1; omega
  have he : (len : Int) - 4 = (m : Int) := by omega
  have hml : m ≤ len := by omega
  have HL := Lib.hid hl
  have HR := Lib.hid h
  have HM := Lib.hid hm
  have HLT : Hid ((L.take m).length = m) := Lib.hid (by simp; omega)
  clear hl h hm
  obtain ⟨same, hsame⟩ : ∃ b, decide (C.seal (L.take m) = L) = b := ⟨_, rfl⟩
  have HS := Lib.hid hsame
  clear hsame
  go_enter Try.func27, Try.ntmps27
  go_wp2_with fail
  refine (sealRow_any _ m cap (L.take m) _ (by omega) HLT.out (HR.out.take m)).mono ?_
  rintro e w1 ⟨a1, c1, rfl, r1, hb1⟩
  rw [HM.out]
  have W1 := Lib.hid hb1
  clear hb1
  go_wp2_with fail
  refine (equal_any _ _ len len _ _ (C.seal (L.take m)) L _ (by rw [C.seal_len, HLT.out, HM.out]) HL.out r1.out (HR.out.below W1.out)).mono ?_
  rintro e w2 ⟨rfl, hb2⟩
  rw [HS.out]
  have W2 := Lib.hid (W1.out.trans (hb2.mono W1.out.size))
  clear hb2
  cases same with
  | false =>
    have HN : Hid (C.open L = none) := Lib.hid (by
      unfold C.open
      rw [if_neg]
      rintro ⟨_, h2⟩
      have := HL.out
      rw [show L.length - 4 = m by have := HM.out; omega] at h2
      exact of_decide_eq_false HS.out h2)
    go_wp2
    go_ret2
    exact .no HN.out W2.out
  | true =>
    have HN : Hid (C.open L = some (L.take m)) := Lib.hid (C.open_some.2 (of_decide_eq_true HS.out))
    go_wp2_with fail
    refine (cloneRow_any _ m cap (L.take m) _ (by omega) HLT.out ((HR.out.below W2.out).take m)).mono ?_
    rintro e w3 ⟨a3, c3, rfl, r3, hb3⟩
    have W3 := Lib.hid (W2.out.trans (hb3.mono W2.out.size))
    clear hb3
    go_wp2
    go_ret2
    exact .yes HN.out HLT.out r3.out W3.out

/-- **Open**, at whatever slice of bytes. -/
theorem open_any (a : Option Addr) (len cap : Nat) (L : List Int) (w : World) (h9 : len ≤ 90000) (hl : L.length = len) (h : RowIn .u8 w a cap L) :
    Calls Try.prog 27 #[.slice a len cap] w (OpenIs L w) := by
  by_cases h4 : len < 4
  · exact open_short a len cap L w h4 hl
  · obtain ⟨b, off, rfl, _⟩ := row_at h (i := 0) (by omega)
    exact open_in _ len (len - 4) cap L w h9 hl (by omega) h
end Go.Proofs.Ytnpgjndhkmpciaa
