/-
  Walks of the document's seals (moorings/mooringsref04: Four, Seal, Open).
-/
import Derived.Test.YtnpgjndhkmpciaaCRef
import Derived.Test.YtnpgjndhkmpciaaCSeal
import Derived.Deep.RegionWith
import Derived.Deep.RegionHeld3
namespace Go.Proofs.Ytnpgjndhkmpciaa
open Go.RowKit

theorem four_any (s : BitVec 32) (w : World) :
    Calls Try.prog 36 #[.int .u32 (C.n s)] w fun e w' => e = .returned (.slice (some ⟨w.heap.size, 0, none⟩) 4 4) ∧ w' = w.alloc (.cells ((C.four s).map (Value.int .u8)).toArray 5) := by
  have HF := Lib.hid (C.four_n s)
  have hs := C.n_bd s
  obtain ⟨n, hn⟩ : ∃ n, C.n s = n := ⟨_, rfl⟩
  rw [hn] at HF hs ⊢
  clear hn
  go_enter Try.func36, Try.ntmps36
  go_wp2
  go_ret
  exact ⟨rfl, by rw [HF.out]; rfl⟩

set_option maxRecDepth 100000 in
set_option maxHeartbeats 1000000 in
theorem refSeal_any (a : Option Addr) (len cap : Nat) (L : List Int) (w : World) (h9 : len ≤ 90000) (hl : L.length = len) (h : RowIn .u8 w a cap L) (hn : a = none → len = 0 ∧ cap = 0) :
    Calls Try.prog 25 #[.slice a len cap] w (SealIs L w) := by
  obtain ⟨i0, hi, hz0, hz1, hz2⟩ := info_parts info5
  have HL := Lib.hid hl
  have HR := Lib.hid h
  have HN := Lib.hid hn
  have HFL : Hid ((C.four (C.sum L)).length = 4) := Lib.hid rfl
  have HFW := Lib.hid (C.wf_lit (C.four_wf (C.sum L)))
  clear hl h hn
  go_enter Try.func25, Try.ntmps25
  go_wp2_with (at_builtin; refine wpList_append_row _ rfl _ _ 22 rfl w.heap.size 5 i0 (.int .u8 0) 1 Try.underlying22 hi hz0 hz1 hz2 rfl _ 0 [] rfl (World.ownsRow_nil _ _ _ _) .u8 a len cap L rfl HR.out HL.out HN.out (by unfold maxLen; omega) (by omega) (Nat.le_refl _) ?_; intro v' w2 hown' hgrow; have HO := Lib.hid hown'; have HB : Hid (Below w.heap.size w w2) := Lib.hid ((Below.refl _ w).grown hgrow (Nat.le_refl _) (fun k ek => by cases ek)); clear hown' hgrow)
  refine (refSum_any a len cap L _ HL.out (HR.out.below HB.out)).mono ?_
  rintro e w3 ⟨rfl, rfl⟩
  go_wp2_with fail
  refine (four_any (C.sum L) _).mono ?_
  rintro e w3 ⟨rfl, hw3⟩
  have ho := HO.out
  rw [Nat.zero_add, List.nil_append] at ho
  have HO3 : Hid (w3.ownsRow w.heap.size 5 1 v' len (L.map (Value.int .u8))) := Lib.hid (by rw [hw3]; exact ho.alloc _)
  have HB3 : Hid (Below w.heap.size w w3) := Lib.hid (by rw [hw3]; exact HB.out.alloc HB.out.size _)
  have HF3 : Hid (RowIn .u8 w3 (some ⟨w2.heap.size, 0, none⟩) 4 (C.four (C.sum L))) := Lib.hid (by rw [hw3]; exact (Blok.new w2 5 _).row HFW.out (Nat.le_of_eq HFL.out) (by simp [maxLen]))
  clear hw3 ho
  go_wp2_with (at_builtin; refine wpList_append_row _ rfl _ _ 22 rfl w.heap.size 5 i0 (.int .u8 0) 1 Try.underlying22 hi hz0 hz1 hz2 rfl _ len (L.map (Value.int .u8)) rfl HO3.out .u8 _ 4 4 (C.four (C.sum L)) rfl HF3.out HFL.out (fun h => by cases h) (by unfold maxLen; omega) (by omega) HB3.out.size ?_; intro v4 w4 hown4 hgrow4; have HO4 := Lib.hid hown4; have HB4 : Hid (Below w.heap.size w w4) := Lib.hid (below_appended0 HO3.out HB3.out.size HB3.out hgrow4); clear hown4 hgrow4)
  go_ret
  exact ⟨_, rfl, by rw [HL.out]; simpa [C.seal] using HO4.out, HB4.out⟩

theorem refSealRow_any (a : Option Addr) (len cap : Nat) (L : List Int) (w : World) (h9 : len ≤ 90000) (hl : L.length = len) (h : RowIn .u8 w a cap L) (hn : a = none → len = 0 ∧ cap = 0) :
    Calls Try.prog 25 #[.slice a len cap] w fun e w' => ∃ a' cap', e = .returned (.slice a' (len + 4) cap') ∧ Hid (RowIn .u8 w' a' cap' (C.seal L)) ∧ Below w.heap.size w w' :=
  (refSeal_any a len cap L w h9 hl h hn).mono fun e w' ⟨v, he, ho, hb⟩ => by
    obtain ⟨a', cap', rfl, hr⟩ := own_row ho (C.wf_lit (C.seal_wf (C.lit_wf h.2.1)))
    exact ⟨a', cap', by rw [he, hl], hr, hb⟩

theorem refOpen_short (a : Option Addr) (len cap : Nat) (L : List Int) (w : World) (h4 : len < 4) (hl : L.length = len) :
    Calls Try.prog 30 #[.slice a len cap] w (OpenIs L w) := by
  have HN := Lib.hid (C.open_short (D := L) (by omega))
  have he : decide ((len : Int) < 4) = true := by simp; omega
  have he2 : (len : Int) - 4 < 0 := by omega
  clear hl
  go_enter Try.func30, Try.ntmps30
  go_wp2
  go_quiet (fail)
  go_wp2
  go_ret2
  exact .no HN.out (below_drewN _ _ _)

set_option maxRecDepth 100000 in
set_option maxHeartbeats 4000000 in
theorem refOpen_no (x : Addr) (len m cap : Nat) (L : List Int) (w : World) (h9 : len ≤ 90000) (hl : L.length = len) (hm : m + 4 = len) (h : RowIn .u8 w (some x) cap L) (hs : ¬ C.seal (L.take m) = L) :
    Calls Try.prog 30 #[.slice (some x) len cap] w (OpenIs L w) := by
  obtain ⟨i0, hi, hz0, hz1, hz2⟩ := info_parts info5
  have hcap : len ≤ cap ∧ cap ≤ maxLen := by have := h.1; omega
  have he : (len : Int) - 4 = (m : Int) := by omega
  have he0 : decide ((m : Int) < 0) = false := by simp
  have hml : m ≤ len := by omega
  have HN : Hid (C.open L = none) := Lib.hid (by
    unfold C.open
    rw [if_neg]
    rintro ⟨_, h2⟩
    rw [show L.length - 4 = m by omega] at h2
    exact hs h2)
  have HW := Lib.hid (C.seal_wf (L := L.take m) (C.lit_wf (fun c hc => h.2.1 c (List.mem_of_mem_take hc))))
  have HL := Lib.hid hl
  have HR := Lib.hid h
  have HM := Lib.hid hm
  have HS := Lib.hid hs
  have HLT : Hid ((L.take m).length = m) := Lib.hid (by simp; omega)
  clear hl h hm hs
  obtain ⟨sb, hsb⟩ : ∃ s, strOf L = s := ⟨_, rfl⟩
  obtain ⟨ss, hss⟩ : ∃ s, strOf (C.seal (L.take m)) = s := ⟨_, rfl⟩
  have e1 : (ss.toList == sb.toList) = false := by
    rw [← hss, ← hsb, str_beq (C.wf_lit HW.out) HR.out.2.1]
    exact decide_eq_false HS.out
  have e2 : (ss.toList != sb.toList) = true := by rw [bne, e1]; rfl
  have HSS := Lib.hid hss
  clear hss
  have HSB := Lib.hid hsb
  clear hsb
  have cb := conv_row (HR.out.below (below_drew w)) HL.out
  rw [HSB.out] at cb
  go_enter Try.func30, Try.ntmps30
  go_wp2
  go_region_with (go_at_call 25; refine (refSealRow_any (some x) m cap (L.take m) _ (by omega) HLT.out ((HR.out.below (below_drew w)).take m) (fun h => by cases h)).mono ?_; rintro e w1 ⟨a1, c1, rfl, r1, hb1⟩; rw [HM.out]; have c1 := conv_row r1.out (show _ = len by rw [C.seal_len, HLT.out, HM.out]); have c2 := conv_row (HR.out.below ((below_drew w).trans hb1)) HL.out; rw [HSS.out] at c1; rw [HSB.out] at c2; have W1 : Hid (Below w.heap.size w w1) := Lib.hid ((below_drew w).trans hb1); clear hb1)
  all_goals
    clear c1 c2 cb
    go_wp2
    go_ret2
    exact .no HN.out W1.out

set_option maxRecDepth 100000 in
set_option maxHeartbeats 4000000 in
theorem refOpen_yes (x : Addr) (len m cap : Nat) (L : List Int) (w : World) (h9 : len ≤ 90000) (hl : L.length = len) (hm : m + 4 = len) (h : RowIn .u8 w (some x) cap L) (hs : C.seal (L.take m) = L) :
    Calls Try.prog 30 #[.slice (some x) len cap] w (OpenIs L w) := by
  obtain ⟨i0, hi, hz0, hz1, hz2⟩ := info_parts info5
  have hcap : len ≤ cap ∧ cap ≤ maxLen := by have := h.1; omega
  have he : (len : Int) - 4 = (m : Int) := by omega
  have he0 : decide ((m : Int) < 0) = false := by simp
  have hml : m ≤ len := by omega
  have HN : Hid (C.open L = some (L.take m)) := Lib.hid (C.open_some.2 hs)
  have HW := Lib.hid (C.seal_wf (L := L.take m) (C.lit_wf (fun c hc => h.2.1 c (List.mem_of_mem_take hc))))
  have HL := Lib.hid hl
  have HR := Lib.hid h
  have HM := Lib.hid hm
  have HS := Lib.hid hs
  have HLT : Hid ((L.take m).length = m) := Lib.hid (by simp; omega)
  clear hl h hm hs
  obtain ⟨sb, hsb⟩ : ∃ s, strOf L = s := ⟨_, rfl⟩
  have HSS : Hid (strOf (C.seal (L.take m)) = sb) := Lib.hid (by rw [HS.out, hsb])
  have HSB := Lib.hid hsb
  clear hsb
  have cb := conv_row (HR.out.below (below_drew w)) HL.out
  rw [HSB.out] at cb
  go_enter Try.func30, Try.ntmps30
  go_wp2
  go_region_with (go_at_call 25; refine (refSealRow_any (some x) m cap (L.take m) _ (by omega) HLT.out ((HR.out.below (below_drew w)).take m) (fun h => by cases h)).mono ?_; rintro e w1 ⟨a1, c1, rfl, r1, hb1⟩; rw [HM.out]; have c1 := conv_row r1.out (show _ = len by rw [C.seal_len, HLT.out, HM.out]); have c2 := conv_row (HR.out.below ((below_drew w).trans hb1)) HL.out; rw [HSS.out] at c1; rw [HSB.out] at c2; have W1 : Hid (Below w.heap.size w w1) := Lib.hid ((below_drew w).trans hb1); clear hb1)
  all_goals
    clear c1 c2 cb
    go_wp2_with (at_builtin; refine wpList_append_row _ rfl _ _ 22 rfl w.heap.size 5 i0 (.int .u8 0) 1 Try.underlying22 hi hz0 hz1 hz2 rfl _ 0 [] rfl (World.ownsRow_nil _ _ _ _) .u8 (some x) m cap (L.take m) rfl ((HR.out.below W1.out).take m) HLT.out (fun h => by cases h) (by unfold maxLen; omega) (by omega) W1.out.size ?_; intro v' w2 hown' hgrow; have HO := Lib.hid hown'; have HB : Hid (Below w.heap.size w w2) := Lib.hid (W1.out.grown hgrow W1.out.size (fun k ek => by cases ek)); clear hown' hgrow)
    go_ret2
    have ho := HO.out
    rw [Nat.zero_add, List.nil_append] at ho
    obtain ⟨a', cap', rfl, hr⟩ := own_row ho (fun c hc => HR.out.2.1 c (List.mem_of_mem_take hc))
    exact .yes HN.out HLT.out hr HB.out

/-- **Open** of the document, at whatever slice of bytes. -/
theorem refOpen_any (a : Option Addr) (len cap : Nat) (L : List Int) (w : World) (h9 : len ≤ 90000) (hl : L.length = len) (h : RowIn .u8 w a cap L) :
    Calls Try.prog 30 #[.slice a len cap] w (OpenIs L w) := by
  by_cases h4 : len < 4
  · exact refOpen_short a len cap L w h4 hl
  · obtain ⟨b, off, rfl, _⟩ := row_at h (i := 0) (by omega)
    by_cases hs : C.seal (L.take (len - 4)) = L
    · exact refOpen_yes _ len (len - 4) cap L w h9 hl (by omega) h hs
    · exact refOpen_no _ len (len - 4) cap L w h9 hl (by omega) h hs
end Go.Proofs.Ytnpgjndhkmpciaa
