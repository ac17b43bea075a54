/-
  Parts of slices; crc.Open once more, with where its answer lies.
-/
import Derived.Test.YtnpgjndhkmpciaaRPut
namespace Go.Proofs.Ytnpgjndhkmpciaa
open Go.RowKit

/-- Where a part of a slice, from its l-th element on, with room up to m, lies. -/
def sl (a : Option Addr) (l m : Nat) : Option Addr := if m = l then a else a.map (·.add l)
theorem sl_none {a : Option Addr} {l m : Nat} (h : sl a l m = none) : a = none := by
  unfold sl at h
  split at h
  · exact h
  · simpa using h
theorem row_sliced {k : IntKind} {w : World} {a : Option Addr} {cap l h m : Nat} {L : List Int} (hr : RowIn k w a cap L) (h1 : l ≤ h) (h2 : h ≤ L.length) (h3 : h ≤ m) (h4 : m ≤ maxLen) : RowIn k w (sl a l m) (m - l) ((L.take h).drop l) := by
  refine ⟨⟨by simp; omega, by omega⟩, fun n hn => hr.2.1 n (List.mem_of_mem_take (List.mem_of_mem_drop hn)), ?_⟩
  by_cases hlh : l = h
  · exact .inl (List.drop_eq_nil_of_le (by simp; omega))
  · obtain ⟨b, off, rfl, hb, _⟩ := row_at hr (i := 0) (by omega)
    refine .inr ⟨b, off + l, ?_, hb, fun i hi => ?_⟩
    · unfold sl
      rw [if_neg (by omega)]
      simp [WideShapes.add_plain]
    · simp at hi
      obtain ⟨b', off', he, _, hc⟩ := row_at hr (i := l + i) (by omega)
      cases he
      rw [show off + l + i = off + (l + i) by omega, hc]
      simp [show l + i < h by omega, show l + i < L.length by omega]
theorem slice3_run (a : Option Addr) {len cap l h m : Nat} (h1 : l ≤ h) (h2 : h ≤ m) (h3 : m ≤ cap) (w : World) :
    (Instr.sliceAt 22 (.slice a len cap) (some (.int .i64 (l : Int))) (some (.int .i64 (h : Int))) (some (.int .i64 (m : Int)))).run Try.prog w = .ok (.slice (sl a l m) (h - l) (m - l)) w := by
  rw [run_sliceAt_slice (w := w) (h := Try.underlying22), run_slice_lhm (w := w) (ht := Try.underlying22) (h0 := by omega) (h1 := by omega) (h2 := by omega) (h3 := by omega)]
  have hs : (sizeOf (Try.prog.elem 22)).run Try.prog w = .ok 1 w := rfl
  rw [hs]
  simp [Result.andThen, sliced, sl]

/-- A slice's block is one of bytes. -/
def InB (w : World) (a : Option Addr) : Prop := ∀ x, a = some x → ∃ cs f, w.heap[x.block]? = some (.cells cs 5 f)
theorem InB.below {w w' : World} {a : Option Addr} (h : InB w a) (hb : Below w.heap.size w w') : InB w' a := fun x hx => by
  obtain ⟨cs, f, hc⟩ := h x hx
  exact ⟨cs, f, (hb.block _ (Array.getElem?_eq_some_iff.1 hc).1).trans hc⟩
theorem InB.none (w : World) : InB w none := fun _ h => by cases h
theorem InB.sl {w : World} {a : Option Addr} (h : InB w a) (l m : Nat) : InB w (sl a l m) := by
  intro x hx
  unfold Proofs.Ytnpgjndhkmpciaa.sl at hx
  split at hx
  · exact h x hx
  · cases a with
    | none => cases hx
    | some y =>
      simp at hx
      subst hx
      obtain ⟨cs, f, hc⟩ := h y rfl
      refine ⟨cs, f, ?_⟩
      rw [show (y.add l).block = y.block by unfold Addr.add; split <;> rfl]
      exact hc
theorem own_inB {w : World} {B n cap : Nat} {a : Option Addr} {xs : List Value} (h : w.ownsRow B 5 1 (.slice a n cap) n xs) : InB w a := by
  rcases h.2 with ⟨h0, _⟩ | ⟨g, cap', cur, he, _, hg, _⟩
  · cases h0; exact InB.none w
  · cases he
    intro x hx
    cases hx
    exact ⟨cur, _, hg⟩

/-- What Open returns. -/
def OpenB (L : List Int) (w : World) (e : Ending) (w' : World) : Prop :=
  ∃ a' cap' n', e = .returned (.tuple #[.slice a' n' cap', .bool (C.open L).isSome]) ∧ Hid (((C.open L).getD []).length = n') ∧ Hid (RowIn .u8 w' a' cap' ((C.open L).getD [])) ∧ Hid ((C.open L).isSome = true → InB w' a') ∧ Below w.heap.size w w'

set_option maxRecDepth 100000 in
set_option maxHeartbeats 1000000 in
theorem openB_yes (x : Addr) (len m cap : Nat) (L : List Int) (w : World) (h9 : len ≤ 90000) (hl : L.length = len) (hm : m + 4 = len) (h : RowIn .u8 w (some x) cap L) (hs : C.seal (L.take m) = L) :
    Calls Try.prog 27 #[.slice (some x) len cap] w (OpenB L w) := by
  have hcap : len ≤ cap ∧ cap ≤ maxLen := by have := h.1; omega
  have he : (len : Int) - 4 = (m : Int) := by omega
  have hml : m ≤ len := by omega
  have HL := Lib.hid hl
  have HR := Lib.hid h
  have HM := Lib.hid hm
  have HLT : Hid ((L.take m).length = m) := Lib.hid (by simp; omega)
  have HS := Lib.hid (decide_eq_true hs)
  have HN : Hid (C.open L = some (L.take m)) := Lib.hid (C.open_some.2 hs)
  clear hl h hm hs
  go_enter Try.func27, Try.ntmps27
  go_wp2_with fail
  refine (sealRow_any _ m cap (L.take m) _ (by omega) HLT.out (HR.out.take m)).mono ?_
  rintro e w1 ⟨a1, c1, rfl, r1, hb1⟩
  rw [HM.out]
  have W1 := Lib.hid hb1
  clear hb1
  go_wp2_with fail
  refine (equal_any _ _ len len _ _ (C.seal (L.take m)) L _ (by rw [C.seal_len, HLT.out, HM.out]) HL.out r1.out (HR.out.below W1.out)).mono ?_
  rintro e w2 ⟨rfl, hb2⟩
  rw [HS.out]
  have W2 := Lib.hid (W1.out.trans (hb2.mono W1.out.size))
  clear hb2
  go_wp2_with fail
  refine (clone_any _ m cap (L.take m) _ (by omega) HLT.out ((HR.out.below W2.out).take m)).mono ?_
  rintro e w3 ⟨v3, rfl, ho3, hb3⟩
  obtain ⟨a3, c3, rfl, r3⟩ := own_row ho3 (fun c hc => HR.out.2.1 c (List.mem_of_mem_take hc))
  have B3 := Lib.hid (fun _ : (C.open L).isSome = true => own_inB ho3)
  have R3 := Lib.hid r3
  have W3 := Lib.hid (W2.out.trans (hb3.mono W2.out.size))
  clear hb3 ho3 r3
  go_wp2
  go_ret2
  exact ⟨a3, c3, m, by rw [HN.out]; rfl, by rw [HN.out]; exact HLT, by rw [HN.out]; exact R3, B3, W3.out⟩
/-- **Open**, at whatever slice of bytes, with where its answer lies. -/
theorem openB_any (a : Option Addr) (len cap : Nat) (L : List Int) (w : World) (h9 : len ≤ 90000) (hl : L.length = len) (h : RowIn .u8 w a cap L) :
    Calls Try.prog 27 #[.slice a len cap] w (OpenB L w) := by
  cases ho : C.open L with
  | none => exact (open_any a len cap L w h9 hl h).mono fun e w' ⟨a', cap', n', h1, h2, h3, h4⟩ => ⟨a', cap', n', h1, h2, h3, Lib.hid (fun h => by rw [ho] at h; cases h), h4⟩
  | some O =>
    have hs := C.open_some.1 ho
    have hl4 := congrArg List.length hs
    rw [C.seal_len] at hl4
    have hO : O = L.take O.length := by rw [← hs, C.seal, List.take_left' rfl]
    obtain ⟨b, off, rfl, _⟩ := row_at h (i := 0) (by omega)
    exact openB_yes _ len (len - 4) cap L w h9 hl (by omega) h (by rw [show len - 4 = O.length by omega, ← hO]; exact hs)
end Go.Proofs.Ytnpgjndhkmpciaa
