import Derived.Deep.RegionWith
import Derived.Deep.RegionHeld3
import Derived.Test.YtnbkkjcmblfhpaaGreatP6
import Derived.Test.YtnbkkjcmblfhpaaGreatP0
import Derived.Test.YtnbkkjcmblfhpaaGreatP5
namespace Go.Proofs.YtnbkkjcmblfhpaaGreat
set_option maxHeartbeats 1000000
set_option maxRecDepth 100000
open Go.RowKit
theorem C.four_n (s : BitVec 32) : C.four s = [C.n s / 16777216, C.n s / 65536 % 256, C.n s / 256 % 256, C.n s % 256] := by
 have := s.isLt
 unfold C.four C.n
 simp only [List.cons.injEq, and_true]
 refine ⟨?_, ?_, ?_, ?_⟩ <;> omega
theorem C.wf_lit {L : List Int} (h : C.wf L) : ∀ n ∈ L, (Lit.int .u8 n).wf = true := by
 intro n hn
 have := h n hn
 simp [Lit.wf, IntKind.bits, IntKind.signed, IntKind.min, IntKind.max]
 omega
theorem C.lit_wf {L : List Int} (h : ∀ n ∈ L, (Lit.int .u8 n).wf = true) : C.wf L := fun c hc => zo9 h c hc
def zyx (L : List Int) (w : World) (e : Ending) (w' : World) : Prop := ∃ v, e = .returned v /\ w'.ownsRow w.heap.size 5 1 v (L.length + 4) ((C.seal L).map (Value.int .u8)) /\ Below w.heap.size w w'
theorem zvm (a : Option Addr) (len cap : Nat) (L : List Int) (w : World) (h9 : len <= 90000) (hl : L.length = len) (h : zfv .u8 w a cap L) :
  Calls Tryz.prog 84 #[.slice a len cap] w (zyx L w) := by
 obtain ⟨i0, hi, hz0, hz1, hz2⟩ := info_parts zrf
 have HL := Zh hl
 have HR := Zh h
 clear hl h
 go_enter Tryz.func84, Tryz.ntmps84
 go_wp2_with fail
 refine (zx4 a len cap L _ HL.out HR.out).mono ?_
 rintro e w1 ⟨rfl, hb1⟩
 have W1 := Zh hb1
 clear hb1
 have HF := Zh (C.four_n (C.sum L))
 have hs := C.n_bd (C.sum L)
 obtain ⟨s, hss⟩ : ∃ s, C.n (C.sum L) = s := ⟨_, rfl⟩
 rw [hss] at HF hs ⊢
 clear hss
 go_wp2_with fail
 refine (zuq a len cap L _ (by omega) HL.out (HR.out.below W1.out)).mono ?_
 rintro e w2 ⟨v, rfl, hown, hb2⟩
 have hown := zan hown W1.out.size
 have W2 := Zt W1 hb2
 clear hb2
 go_wp2
 go_loopg [4, 10] 4 (fun g v s10 wr => ∃ i : Nat, s10 = .int .i64 i /\ i + g = 4 /\ wr.ownsRow w.heap.size 5 1 v (len + i) ((L ++ (C.four (C.sum L)).take i).map (Value.int .u8)) /\ Hid (Below w.heap.size w wr))
 case atStart => exact ⟨0, rfl, by omega, by simpa using hown, W2⟩
 case round =>
  obtain ⟨i, rfl, hig, hown, HB⟩ := hrel
  have hBs := HB.out.size
  have hi5 : i = 0 \/ i = 1 \/ i = 2 \/ i = 3 \/ i = 4 := by omega
  rcases hi5 with rfl | rfl | rfl | rfl | rfl
  ·go_wp2_with (at_builtin; refine wpList_append_own _ rfl _ _ 51 rfl w.heap.size 5 i0 (.int .u8 0) 1 1 Tryz.underlying51 hi hz0 hz1 hz2 rfl (by decide) _ _ _ rfl (hown.alloc _) ⟨wr.heap.size, 0, none⟩ 1 1 [.int .u8 (s / 16777216)] rfl rfl (cell_one_new _ _ _) (by simp [Value.oneCell']) (by unfold maxLen; omega) (by omega) (by simp; omega) ?_; intro v' w3 hown' hgrow _)
   have HG := Zh (zng hown hBs HB.out hgrow)
   have HO : Hid (w3.ownsRow w.heap.size 5 1 v' (len + 1) ((L ++ (C.four (C.sum L)).take 1).map (Value.int .u8))) := Zh (by rw [HF.out] at hown' ⊢; simpa using hown')
   clear hown' hgrow hown
   go_roundg 3
   case rel => exact ⟨1, by go_num, by omega, HO.out, HG⟩
   case measure => omega
  ·go_wp2_with (at_builtin; refine wpList_append_own _ rfl _ _ 51 rfl w.heap.size 5 i0 (.int .u8 0) 1 1 Tryz.underlying51 hi hz0 hz1 hz2 rfl (by decide) _ _ _ rfl (hown.alloc _) ⟨wr.heap.size, 0, none⟩ 1 1 [.int .u8 (s / 65536 % 256)] rfl rfl (cell_one_new _ _ _) (by simp [Value.oneCell']) (by unfold maxLen; omega) (by omega) (by simp; omega) ?_; intro v' w3 hown' hgrow _)
   have HG := Zh (zng hown hBs HB.out hgrow)
   have HO : Hid (w3.ownsRow w.heap.size 5 1 v' (len + 2) ((L ++ (C.four (C.sum L)).take 2).map (Value.int .u8))) := Zh (by rw [HF.out] at hown' ⊢; simpa using hown')
   clear hown' hgrow hown
   go_roundg 2
   case rel => exact ⟨2, by go_num, by omega, HO.out, HG⟩
   case measure => omega
  ·go_wp2_with (at_builtin; refine wpList_append_own _ rfl _ _ 51 rfl w.heap.size 5 i0 (.int .u8 0) 1 1 Tryz.underlying51 hi hz0 hz1 hz2 rfl (by decide) _ _ _ rfl (hown.alloc _) ⟨wr.heap.size, 0, none⟩ 1 1 [.int .u8 (s / 256 % 256)] rfl rfl (cell_one_new _ _ _) (by simp [Value.oneCell']) (by unfold maxLen; omega) (by omega) (by simp; omega) ?_; intro v' w3 hown' hgrow _)
   have HG := Zh (zng hown hBs HB.out hgrow)
   have HO : Hid (w3.ownsRow w.heap.size 5 1 v' (len + 3) ((L ++ (C.four (C.sum L)).take 3).map (Value.int .u8))) := Zh (by rw [HF.out] at hown' ⊢; simpa using hown')
   clear hown' hgrow hown
   go_roundg 1
   case rel => exact ⟨3, by go_num, by omega, HO.out, HG⟩
   case measure => omega
  ·go_wp2_with (at_builtin; refine wpList_append_own _ rfl _ _ 51 rfl w.heap.size 5 i0 (.int .u8 0) 1 1 Tryz.underlying51 hi hz0 hz1 hz2 rfl (by decide) _ _ _ rfl (hown.alloc _) ⟨wr.heap.size, 0, none⟩ 1 1 [.int .u8 (s % 256)] rfl rfl (cell_one_new _ _ _) (by simp [Value.oneCell']) (by unfold maxLen; omega) (by omega) (by simp; omega) ?_; intro v' w3 hown' hgrow _)
   have HG := Zh (zng hown hBs HB.out hgrow)
   have HO : Hid (w3.ownsRow w.heap.size 5 1 v' (len + 4) ((L ++ (C.four (C.sum L)).take 4).map (Value.int .u8))) := Zh (by rw [HF.out] at hown' ⊢; simpa using hown')
   clear hown' hgrow hown
   go_roundg 0
   case rel => exact ⟨4, by go_num, by omega, HO.out, HG⟩
   case measure => omega
  ·go_wp2
   go_ret
   exact ⟨_, rfl, by rw [HL.out]; simpa [C.seal, C.four] using hown, HB.out⟩
theorem zu8 (a : Option Addr) (len cap : Nat) (L : List Int) (w : World) (h9 : len <= 90000) (hl : L.length = len) (h : zfv .u8 w a cap L) :
  Calls Tryz.prog 84 #[.slice a len cap] w fun e w' => ∃ a' cap', e = .returned (.slice a' (len + 4) cap') /\ Hid (zfv .u8 w' a' cap' (C.seal L)) /\ Below w.heap.size w w' :=
 (zvm a len cap L w h9 hl h).mono fun e w' ⟨v, he, ho, hb⟩ => by
  obtain ⟨a', cap', rfl, hr⟩ := zsq ho (C.wf_lit (C.seal_wf (C.lit_wf h.2.1)))
  exact ⟨a', cap', by rw [he, hl], hr, hb⟩
theorem zv6 (k : IntKind) (w : World) : zfv k w none 0 [] := ⟨by simp [maxLen], by simp, .inl rfl⟩
def zu9 (L : List Int) (w : World) (e : Ending) (w' : World) : Prop :=
 ∃ a' cap' n', e = .returned (.tuple #[.slice a' n' cap', .bool (C.open L).isSome]) /\ Hid (((C.open L).getD []).length = n') /\ Hid (zfv .u8 w' a' cap' ((C.open L).getD [])) /\ Below w.heap.size w w'
theorem zu9.no {L : List Int} {w w' : World} (h : C.open L = none) (hb : Below w.heap.size w w') : zu9 L w (.returned (.tuple #[.slice none 0 0, .bool false])) w' :=
 ⟨none, 0, 0, by rw [h]; rfl, by rw [h]; rfl, by rw [h]; exact zv6 _ _, hb⟩
theorem zu9.yes {L M : List Int} {w w' : World} {a : Option Addr} {n cap : Nat} (h : C.open L = some M) (hn : M.length = n) (hr : zfv .u8 w' a cap M) (hb : Below w.heap.size w w') : zu9 L w (.returned (.tuple #[.slice a n cap, .bool true])) w' :=
 ⟨a, cap, n, by rw [h]; rfl, by rw [h]; exact hn, by rw [h]; exact hr, hb⟩
theorem open_short (a : Option Addr) (len cap : Nat) (L : List Int) (w : World) (h4 : len < 4) (hl : L.length = len) :
  Calls Tryz.prog 111 #[.slice a len cap] w (zu9 L w) := by
 have HN := Zh (C.open_short (D := L) (by omega))
 have he : decide ((len : Int) < 4) = true := by simp; omega
 have he2 : (len : Int) - 4 < 0 := by omega
 clear hl
 go_enter Tryz.func111, Tryz.ntmps111
 go_wp2
 go_ret2
 exact .no HN.out (Below.refl _ _)
theorem zyo (x : Addr) (len m cap : Nat) (L : List Int) (w : World) (h9 : len <= 90000) (hl : L.length = len) (hm : m + 4 = len) (h : zfv .u8 w (some x) cap L) :
  Calls Tryz.prog 111 #[.slice (some x) len cap] w (zu9 L w) := by
 have hcap : len <= cap /\ cap <= maxLen := by have := h.1; omega
 have he : (len : Int) - 4 = (m : Int) := by omega
 have hml : m <= len := by omega
 have HL := Zh hl
 have HR := Zh h
 have HM := Zh hm
 have HLT : Hid ((L.take m).length = m) := Zh (by simp; omega)
 clear hl h hm
 obtain ⟨same, hsame⟩ : ∃ b, decide (C.seal (L.take m) = L) = b := ⟨_, rfl⟩
 have HS := Zh hsame
 clear hsame
 go_enter Tryz.func111, Tryz.ntmps111
 go_wp2_with fail
 refine (zu8 _ m cap (L.take m) _ (by omega) HLT.out (HR.out.take m)).mono ?_
 rintro e w1 ⟨a1, c1, rfl, r1, hb1⟩
 rw [HM.out]
 have W1 := Zh hb1
 clear hb1
 go_wp2_with fail
 refine (zpz _ _ len len _ _ (C.seal (L.take m)) L _ (by rw [C.seal_len, HLT.out, HM.out]) HL.out r1.out (HR.out.below W1.out)).mono ?_
 rintro e w2 ⟨rfl, hb2⟩
 rw [HS.out]
 have W2 := Zt W1 hb2
 clear hb2
 cases same with
 | false =>
  have HN : Hid (C.open L = none) := Zh (by
   unfold C.open
   rw [if_neg]
   rintro ⟨_, h2⟩
   have := HL.out
   rw [show L.length - 4 = m by have := HM.out; omega] at h2
   exact of_decide_eq_false HS.out h2)
  go_wp2
  go_ret2
  exact .no HN.out W2.out
 | true =>
  have HN : Hid (C.open L = some (L.take m)) := Zh (C.open_some.2 (of_decide_eq_true HS.out))
  go_wp2_with fail
  refine (zvs _ m cap (L.take m) _ (by omega) HLT.out ((HR.out.below W2.out).take m)).mono ?_
  rintro e w3 ⟨a3, c3, rfl, r3, hb3⟩
  have W3 := Zt W2 hb3
  clear hb3
  go_wp2
  go_ret2
  exact .yes HN.out HLT.out r3.out W3.out
theorem zx5 (a : Option Addr) (len cap : Nat) (L : List Int) (w : World) (h9 : len <= 90000) (hl : L.length = len) (h : zfv .u8 w a cap L) :
  Calls Tryz.prog 111 #[.slice a len cap] w (zu9 L w) := by
 by_cases h4 : len < 4
 ·exact open_short a len cap L w h4 hl
 ·obtain ⟨b, off, rfl, _⟩ := zl4 h (i := 0) (by omega)
  exact zyo _ len (len - 4) cap L w h9 hl (by omega) h
end Go.Proofs.YtnbkkjcmblfhpaaGreat
namespace Go.Proofs.YtnbkkjcmblfhpaaGreat
open Go.RowKit
end Go.Proofs.YtnbkkjcmblfhpaaGreat
namespace Go.Proofs.YtnbkkjcmblfhpaaGreat
open Go.RowKit
end Go.Proofs.YtnbkkjcmblfhpaaGreat
namespace Go.Proofs.YtnbkkjcmblfhpaaGreat
set_option maxHeartbeats 400000
set_option maxRecDepth 100000
open Go.RowKit
theorem row_some {k : IntKind} {w : World} {a : Option Addr} {cap : Nat} {L : List Int} (h : zfv k w a cap L) (hl : 0 < L.length) : ∃ x, a = some x := by
 obtain ⟨b, off, rfl, _⟩ := zl4 h hl
 exact ⟨_, rfl⟩
theorem zwl {k : IntKind} {w : World} {B e n : Nat} {v : Value} {L : List Int} (h : w.ownsRow B e 1 v n (L.map (Value.int k))) (hw : ∀ n ∈ L, (Lit.int k n).wf = true) : ∃ a cap, v = .slice a n cap /\ zfv k w a cap L /\ (a = none -> n = 0 /\ cap = 0) := by
 obtain ⟨a, cap, h1, _, h2⟩ := zex h hw
 refine ⟨a, cap, h1, h2, ?_⟩
 rintro rfl
 rcases h.2 with ⟨rfl, h0⟩ | ⟨g, cap', cur, rfl, _⟩
 ·cases h1; exact ⟨rfl, rfl⟩
 ·cases h1
def zva (r : R.T) (w : World) (e : Ending) (w' : World) : Prop :=
 ∃ a' cap' n', e = .returned (.tuple #[.slice a' n' cap', .bool (R.put r).isSome]) /\ Hid (((R.put r).getD []).length = n') /\ Hid (zfv .u8 w' a' cap' ((R.put r).getD [])) /\ Hid (a' = none -> n' = 0 /\ cap' = 0) /\ Below w.heap.size w w'
theorem zva.no {r : R.T} {w w' : World} (h : ¬ R.ok r) (hb : Below w.heap.size w w') : zva r w (.returned (.tuple #[.slice none 0 0, .bool false])) w' :=
 ⟨none, 0, 0, by rw [R.put_no h]; rfl, by rw [R.put_no h]; exact Zh rfl, by rw [R.put_no h]; exact Zh (zv6 _ _), Zh (fun _ => ⟨rfl, rfl⟩), hb⟩
theorem zva.yes {r : R.T} {w w' : World} {a : Option Addr} {n cap : Nat} (h : R.ok r) (hl : (R.bytes r).length = n) (hr : zfv .u8 w' a cap (R.bytes r)) (hn : a = none -> n = 0 /\ cap = 0) (hb : Below w.heap.size w w') : zva r w (.returned (.tuple #[.slice a n cap, .bool true])) w' :=
 ⟨a, cap, n, by rw [R.put_yes h]; rfl, by rw [R.put_yes h]; exact Zh hl, by rw [R.put_yes h]; exact Zh hr, Zh hn, hb⟩
theorem zxh (k : Int) (a : Option Addr) (n cap : Nat) (B : List Int) (w : World) (hl : B.length = n) (h : ¬ R.ok (k, B)) :
  Calls Tryz.prog 39 #[.agg #[.int .i64 k, .slice a n cap]] w (zva (k, B) w) := by
 have HOK := Zh h
 have hc : k < 0 \/ (0 <= k /\ 255 < k) \/ (0 <= k /\ k <= 255 /\ 1000 < n) := by
  by_cases h0 : k < 0
  ·exact .inl h0
  ·by_cases h1 : 255 < k
   ·exact .inr (.inl ⟨by omega, h1⟩)
   ·refine .inr (.inr ⟨by omega, by omega, ?_⟩)
    by_cases h2 : 1000 < n
    ·exact h2
    ·exact absurd ⟨by omega, by omega, by show B.length <= 1000; omega⟩ h
 clear h hl
 rcases hc with h0 | ⟨h0, h1⟩ | ⟨h0, h1, h2⟩
 ·go_enter Tryz.func39, Tryz.ntmps39
  go_wp2
  go_ret2
  exact .no HOK.out (ztz w k a n cap)
 ·have d0 : decide (k < 0) = false := by simp; omega
  go_enter Tryz.func39, Tryz.ntmps39
  go_wp2
  go_ret2
  exact .no HOK.out (ztz w k a n cap)
 ·have d0 : decide (k < 0) = false := by simp; omega
  have d1 : decide (255 < k) = false := by simp; omega
  have d2 : (1000 : Int) < (n : Int) := by omega
  go_enter Tryz.func39, Tryz.ntmps39
  go_wp2
  go_ret2
  exact .no HOK.out (ztz w k a n cap)
theorem zwv (k : Int) (a : Option Addr) (n cap : Nat) (B : List Int) (w : World) (hl : B.length = n) (hr : zfv .u8 w a cap B) (hn : a = none -> n = 0 /\ cap = 0) (h : R.ok (k, B)) :
  Calls Tryz.prog 39 #[.agg #[.int .i64 k, .slice a n cap]] w (zva (k, B) w) := by
 obtain ⟨i0, hi, hz0, hz1, hz2⟩ := info_parts zrf
 have h0 : 0 <= k := h.1
 have h1 : k <= 255 := h.2.1
 have h2 : n <= 1000 := by have := h.2.2; simp only [hl] at this; exact this
 have d0 : decide (k < 0) = false := by simp; omega
 have d1 : decide (255 < k) = false := by simp; omega
 have d2 : decide ((1000 : Int) < (n : Int)) = false := by simp; omega
 have hw8 : IntKind.u8.wrap k = k := by simp [IntKind.wrap, IntKind.bits, IntKind.signed]; omega
 have HOK := Zh h
 have HL := Zh hl
 have HR := Zh hr
 have HN := Zh hn
 have hpl := R.put_len h
 simp only [hl] at hpl
 have hp1 : 1 <= (M.put (n : Int)).length /\ (M.put (n : Int)).length <= 2 := by rw [hpl]; split <;> omega
 have HPW := Zh (C.wf_lit (R.pre_wf h (C.lit_wf hr.2.1)))
 have HPL0 := R.pre_len (k, B)
 simp only [hl] at HPL0
 clear h hl hr hn hpl
 go_enter Tryz.func39, Tryz.ntmps39
 go_wp2_with fail
 refine wp_region_held (S := (fun w' => Below (zf8 w k a n cap).heap.size (zf8 w k a n cap) w')) (by kernel_rfl) ?_
 change wpAnyH _ _ _ _ _ _ _ _ (World.drew (zf8 w k a n cap))
 have HS0 : (fun w' => Below (zf8 w k a n cap).heap.size (zf8 w k a n cap) w') (World.drew (zf8 w k a n cap)) := zaa _
 refine tk 0 ((.pointer (some ⟨w.heap.size, 0, none⟩))) HS0 ?_
 refine wpAnyH_take (i := 1) (v := (.int .i64 k)) rfl (by kernel_rfl) (by kernel_rfl) (by kernel_rfl) (fun _ _ _ h => h) (.inl ⟨by kernel_rfl, fun w9 hS => by have c := zv4 w k a n cap hS; go_simp⟩) HS0 ?_
 refine wpAnyH_take (i := 2) (v := (.int .u8 k)) rfl (by kernel_rfl) (by kernel_rfl) (by kernel_rfl) (fun _ _ _ h => h) (.inl ⟨by kernel_rfl, fun w9 hS => (show _ = Result.ok (.value (.int .u8 (IntKind.u8.wrap k))) w9 by kernel_rfl).trans (by rw [hw8])⟩) HS0 ?_
 refine tk 4 ((.pointer (some ⟨w.heap.size, 1, none⟩))) HS0 ?_
 refine wpAnyH_take (i := 5) (v := (.slice a n cap)) rfl (by kernel_rfl) (by kernel_rfl) (by kernel_rfl) (fun _ _ _ h => h) (.inl ⟨by kernel_rfl, fun w9 hS => by have c := zut w k a n cap hS; go_simp⟩) HS0 ?_
 refine tk 6 ((.int .i64 n)) HS0 ?_
 refine za8 (i := 3) (j := 7) (by kernel_rfl) ?_ ?_
 ·refine zam (v := .slice (some ⟨(zf8 w k a n cap).heap.size, 0, none⟩) 1 1) (w' := (World.drew (zf8 w k a n cap)).alloc (.cells #[.int .u8 k] 5)) rfl (by kernel_rfl) (by kernel_rfl) ?_
  have HS1 : (fun w' => Below (zf8 w k a n cap).heap.size (zf8 w k a n cap) w') ((World.drew (zf8 w k a n cap)).alloc (.cells #[.int .u8 k] 5)) := HS0.alloc (Nat.le_refl _) _
  refine ⟨HS1, ?_⟩
  refine zaf (i := 7) (by kernel_rfl) (zbo (f := 83) (args := #[.int .i64 n]) rfl (by kernel_rfl) (by kernel_rfl) (zvh n _) ?_)
  rintro e w2 ⟨ap0, cp, np, rfl, lp, rp, hb2⟩
  have LP := lp
  have hnp := lp.out
  obtain ⟨ap, rfl⟩ : ∃ x, ap0 = some x := row_some rp.out (by omega)
  have HS2 : (fun w' => Below (zf8 w k a n cap).heap.size (zf8 w k a n cap) w') w2 := Below.trans HS1 (hb2.mono (Below.size HS1))
  have ho2 : w2.ownsRow (zf8 w k a n cap).heap.size 5 1 (.slice (some ⟨(zf8 w k a n cap).heap.size, 0, none⟩) 1 1) 1 [.int .u8 k] := zab ((Blok.new (World.drew (zf8 w k a n cap)) 5 #[.int .u8 k]).own (xs := [.int .u8 k]) (Nat.le_refl _) rfl (Nat.le_refl _) (by simp [maxLen]) rfl) hb2
  have HPL : Hid ((R.pre (k, B)).length = 1 + np + n) := Zh (by rw [HPL0, hnp])
  refine ⟨_, rfl, HS2, ?_⟩
  refine zaf (i := 8) (by kernel_rfl) (zu6 rfl (by kernel_rfl) _ _ 51 (by rfl) (zf8 w k a n cap).heap.size 5 i0 (.int .u8 0) 1 Tryz.underlying51 hi hz0 hz1 hz2 rfl (.slice (some ⟨(zf8 w k a n cap).heap.size, 0, none⟩) 1 1) 1 [.int .u8 k] (by kernel_rfl) ho2 .u8 ap np cp (M.put n) (by kernel_rfl) rp.out LP.out (by unfold maxLen; omega) (by omega) (Below.size HS2) ?_)
  intro v3 w3 hown3 hgrow3
  have HS3 : (fun w' => Below (zf8 w k a n cap).heap.size (zf8 w k a n cap) w') w3 := znq ho2 (Below.size HS2) HS2 hgrow3
  refine ⟨HS3, ?_⟩
  refine tk 9 (v3) HS3 ?_
  refine wpAnyH_done (by kernel_rfl) ?_ _
  have c1 := zut w k a n cap HS3
  have HO3 := Zh hown3
  have HB3 : Hid (Below w.heap.size w w3) := Zh ((ztz w k a n cap).trans (HS3.mono (ztz w k a n cap).size))
  have HR3 := Zh (HR.out.below HB3.out)
  have HZ3 := Zh (Below.size HS3)
  clear hown3 hgrow3 rp
  go_wp2_with (at_builtin; refine znf _ rfl _ _ 51 rfl (zf8 w k a n cap).heap.size 5 i0 (.int .u8 0) 1 Tryz.underlying51 hi hz0 hz1 hz2 rfl v3 (1 + np) ([Value.int .u8 k] ++ (M.put n).map (Value.int .u8)) rfl HO3.out .u8 a n cap B rfl HR3.out HL.out HN.out (by unfold maxLen; omega) (by omega) HZ3.out ?_; intro v4 w4 hown4 hgrow4; obtain ⟨a4, cap4, hv4, r4⟩ := zsq (k := .u8) (L := R.pre (k, B)) (by simpa [R.pre, HL.out] using hown4) HPW.out; have R4 := Zh r4; have HB4 : Hid (Below w.heap.size w w4) := Zh (znq (zan HO3.out (ztz w k a n cap).size) HB3.out.size HB3.out hgrow4); clear hown4 hgrow4 r4; subst hv4)
  refine (zvm a4 (1 + np + n) cap4 (R.pre (k, B)) _ (by omega) HPL.out R4.out).mono ?_
  rintro e w5 ⟨v5, rfl, hown5, hb5⟩
  obtain ⟨a5, cap5, rfl, r5, n5⟩ := zwl hown5 (C.wf_lit (C.seal_wf (C.lit_wf HPW.out)))
  have W5 := Zt HB4 hb5
  have R5 := Zh r5
  have N5 := Zh n5
  clear hown5 hb5 r5 n5
  go_wp2
  go_ret2
  exact .yes HOK.out (by rw [R.bytes, C.seal_len, HPL.out]) R5.out (fun h => absurd (N5.out h).1 (by omega)) W5.out
 ·refine zbo (f := 83) (args := #[.int .i64 n]) rfl (by kernel_rfl) (by kernel_rfl) (zvh n _) ?_
  rintro e w1 ⟨ap0, cp, np, rfl, lp, rp0, hb1⟩
  have LP := lp
  have hnp := lp.out
  obtain ⟨ap, rfl⟩ : ∃ x, ap0 = some x := row_some rp0.out (by omega)
  refine Zu (Zr HS0 hb1) fun HS1 => ?_
  have HS2 : (fun w' => Below (zf8 w k a n cap).heap.size (zf8 w k a n cap) w') (w1.alloc (.cells #[.int .u8 k] 5)) := HS1.alloc (Below.size HS1) _
  have ho2 : (w1.alloc (.cells #[.int .u8 k] 5)).ownsRow (zf8 w k a n cap).heap.size 5 1 (.slice (some ⟨w1.heap.size, 0, none⟩) 1 1) 1 [.int .u8 k] := (Blok.new w1 5 #[.int .u8 k]).own (xs := [.int .u8 k]) (Below.size HS1) rfl (Nat.le_refl _) (by simp [maxLen]) rfl
  have rp := rp0.out.below ((Below.refl w1.heap.size w1).alloc (Nat.le_refl _) (.cells #[.int .u8 k] 5))
  have HPL : Hid ((R.pre (k, B)).length = 1 + np + n) := Zh (by rw [HPL0, hnp])
  refine zaf (i := 3) (by kernel_rfl) (zam (v := .slice (some ⟨w1.heap.size, 0, none⟩) 1 1) (w' := w1.alloc (.cells #[.int .u8 k] 5)) rfl (by kernel_rfl) (by kernel_rfl) ⟨HS2, ?_⟩)
  refine zaf (i := 8) (by kernel_rfl) (zu6 rfl (by kernel_rfl) _ _ 51 (by rfl) (zf8 w k a n cap).heap.size 5 i0 (.int .u8 0) 1 Tryz.underlying51 hi hz0 hz1 hz2 rfl (.slice (some ⟨w1.heap.size, 0, none⟩) 1 1) 1 [.int .u8 k] (by kernel_rfl) ho2 .u8 ap np cp (M.put n) (by kernel_rfl) rp LP.out (by unfold maxLen; omega) (by omega) (Below.size HS2) ?_)
  intro v3 w3 hown3 hgrow3
  have HS3 : (fun w' => Below (zf8 w k a n cap).heap.size (zf8 w k a n cap) w') w3 := znq ho2 (Below.size HS2) HS2 hgrow3
  refine ⟨HS3, ?_⟩
  refine tk 9 (v3) HS3 ?_
  refine wpAnyH_done (by kernel_rfl) ?_ _
  have c1 := zut w k a n cap HS3
  have HO3 := Zh hown3
  have HB3 : Hid (Below w.heap.size w w3) := Zh ((ztz w k a n cap).trans (HS3.mono (ztz w k a n cap).size))
  have HR3 := Zh (HR.out.below HB3.out)
  have HZ3 := Zh (Below.size HS3)
  clear hown3 hgrow3 rp
  go_wp2_with (at_builtin; refine znf _ rfl _ _ 51 rfl (zf8 w k a n cap).heap.size 5 i0 (.int .u8 0) 1 Tryz.underlying51 hi hz0 hz1 hz2 rfl v3 (1 + np) ([Value.int .u8 k] ++ (M.put n).map (Value.int .u8)) rfl HO3.out .u8 a n cap B rfl HR3.out HL.out HN.out (by unfold maxLen; omega) (by omega) HZ3.out ?_; intro v4 w4 hown4 hgrow4; obtain ⟨a4, cap4, hv4, r4⟩ := zsq (k := .u8) (L := R.pre (k, B)) (by simpa [R.pre, HL.out] using hown4) HPW.out; have R4 := Zh r4; have HB4 : Hid (Below w.heap.size w w4) := Zh (znq (zan HO3.out (ztz w k a n cap).size) HB3.out.size HB3.out hgrow4); clear hown4 hgrow4 r4; subst hv4)
  refine (zvm a4 (1 + np + n) cap4 (R.pre (k, B)) _ (by omega) HPL.out R4.out).mono ?_
  rintro e w5 ⟨v5, rfl, hown5, hb5⟩
  obtain ⟨a5, cap5, rfl, r5, n5⟩ := zwl hown5 (C.wf_lit (C.seal_wf (C.lit_wf HPW.out)))
  have W5 := Zt HB4 hb5
  have R5 := Zh r5
  have N5 := Zh n5
  clear hown5 hb5 r5 n5
  go_wp2
  go_ret2
  exact .yes HOK.out (by rw [R.bytes, C.seal_len, HPL.out]) R5.out (fun h => absurd (N5.out h).1 (by omega)) W5.out
theorem zvi (k : Int) (a : Option Addr) (n cap : Nat) (B : List Int) (w : World) (hl : B.length = n) (hr : zfv .u8 w a cap B) (hn : a = none -> n = 0 /\ cap = 0) :
  Calls Tryz.prog 39 #[.agg #[.int .i64 k, .slice a n cap]] w (zva (k, B) w) := by
 by_cases h : R.ok (k, B)
 ·exact zwv k a n cap B w hl hr hn h
 ·exact zxh k a n cap B w hl h
end Go.Proofs.YtnbkkjcmblfhpaaGreat
namespace Go.Proofs.YtnbkkjcmblfhpaaGreat
open Go.RowKit
def sl (a : Option Addr) (l m : Nat) : Option Addr := if m = l then a else a.map (·.add l)
theorem zs6 {a : Option Addr} {l m : Nat} (h : sl a l m = none) : a = none := by
 unfold sl at h
 split at h
 ·exact h
 ·simpa using h
theorem zo6 {k : IntKind} {w : World} {a : Option Addr} {cap l h m : Nat} {L : List Int} (hr : zfv k w a cap L) (h1 : l <= h) (h2 : h <= L.length) (h3 : h <= m) (h4 : m <= maxLen) : zfv k w (sl a l m) (m - l) ((L.take h).drop l) := by
 refine ⟨⟨by simp; omega, by omega⟩, fun n hn => hr.2.1 n (List.mem_of_mem_take (List.mem_of_mem_drop hn)), ?_⟩
 by_cases hlh : l = h
 ·exact .inl (List.drop_eq_nil_of_le (by simp; omega))
 ·obtain ⟨b, off, rfl, hb, _⟩ := zl4 hr (i := 0) (by omega)
  refine .inr ⟨b, off + l, ?_, hb, fun i hi => ?_⟩
  ·unfold sl
   rw [if_neg (by omega)]
   simp [WideShapes.add_plain]
  ·simp at hi
   obtain ⟨b', off', he, _, hc⟩ := zl4 hr (i := l + i) (by omega)
   cases he
   rw [show off + l + i = off + (l + i) by omega, hc]
   simp [show l + i < h by omega, show l + i < L.length by omega]
def slk (k : Nat) (a : Option Addr) (l m : Nat) : Option Addr := if m = l then a else a.map (·.add (l * k))
section
variable (a : Option Addr) {len cap k : Nat} {t : TypeId} (ht : Tryz.prog.underlying t = some (.slice (Tryz.prog.elem t))) (hk : ∀ w, (sizeOf (Tryz.prog.elem t)).run Tryz.prog w = .ok k w) (w : World)
include ht hk
theorem zs7 {h : Nat} (h2 : h <= cap) : (Instr.sliceAt t (.slice a len cap) none (some (.int .i64 (h : Int))) none).run Tryz.prog w = .ok (.slice (slk k a 0 cap) h cap) w := by
 rw [run_sliceAt_slice (w := w) (h := ht), run_slice_h (w := w) (ht := ht) (h0 := by omega) (h2 := by omega), hk]
 simp [Result.andThen, sliced, slk]
theorem zs8 {q : Nat} (h2 : q <= len) : (Instr.sliceAt t (.slice a len cap) (some (.int .i64 (q : Int))) none none).run Tryz.prog w = .ok (.slice (slk k a q cap) (len - q) (cap - q)) w := by
 rw [run_sliceAt_slice (w := w) (h := ht), run_slice_l (w := w) (ht := ht) (h0 := by omega) (h1 := by omega), hk]
 simp [Result.andThen, sliced, slk]
end
end Go.Proofs.YtnbkkjcmblfhpaaGreat
namespace Go.Proofs.YtnbkkjcmblfhpaaGreat
set_option maxHeartbeats 1000000
set_option maxRecDepth 100000
open Go.RowKit
theorem zww (a : Option Addr) {len cap l h m : Nat} (h1 : l <= h) (h2 : h <= m) (h3 : m <= cap) (w : World) :
  (Instr.sliceAt 51 (.slice a len cap) (some (.int .i64 (l : Int))) (some (.int .i64 (h : Int))) (some (.int .i64 (m : Int)))).run Tryz.prog w = .ok (.slice (sl a l m) (h - l) (m - l)) w := by
 rw [run_sliceAt_slice (w := w) (h := Tryz.underlying51), run_slice_lhm (w := w) (ht := Tryz.underlying51) (h0 := by omega) (h1 := by omega) (h2 := by omega) (h3 := by omega)]
 have hs : (sizeOf (Tryz.prog.elem 51)).run Tryz.prog w = .ok 1 w := by kernel_rfl
 rw [hs]
 simp [Result.andThen, sliced, sl]
def InB (w : World) (a : Option Addr) : Prop := ∀ x, a = some x -> ∃ cs f, w.heap[x.block]? = some (.cells cs 5 f)
theorem InB.none (w : World) : InB w none := fun _ h => by cases h
theorem InB.sl {w : World} {a : Option Addr} (h : InB w a) (l m : Nat) : InB w (sl a l m) := by
 intro x hx
 unfold Proofs.YtnbkkjcmblfhpaaGreat.sl at hx
 split at hx
 ·exact h x hx
 ·cases a with
  | none => cases hx
  | some y =>
   simp at hx
   subst hx
   obtain ⟨cs, f, hc⟩ := h y rfl
   refine ⟨cs, f, ?_⟩
   rw [show (y.add l).block = y.block by unfold Addr.add; split <;> rfl]
   exact hc
theorem zyp {w : World} {B n cap : Nat} {a : Option Addr} {xs : List Value} (h : w.ownsRow B 5 1 (.slice a n cap) n xs) : InB w a := by
 rcases h.2 with ⟨h0, _⟩ | ⟨g, cap', cur, he, _, hg, _⟩
 ·cases h0; exact InB.none w
 ·cases he
  intro x hx
  cases hx
  exact ⟨cur, _, hg⟩
def zyy (L : List Int) (w : World) (e : Ending) (w' : World) : Prop :=
 ∃ a' cap' n', e = .returned (.tuple #[.slice a' n' cap', .bool (C.open L).isSome]) /\ Hid (((C.open L).getD []).length = n') /\ Hid (zfv .u8 w' a' cap' ((C.open L).getD [])) /\ Hid ((C.open L).isSome = true -> InB w' a') /\ Below w.heap.size w w'
theorem zxi (x : Addr) (len m cap : Nat) (L : List Int) (w : World) (h9 : len <= 90000) (hl : L.length = len) (hm : m + 4 = len) (h : zfv .u8 w (some x) cap L) (hs : C.seal (L.take m) = L) :
  Calls Tryz.prog 111 #[.slice (some x) len cap] w (zyy L w) := by
 have hcap : len <= cap /\ cap <= maxLen := by have := h.1; omega
 have he : (len : Int) - 4 = (m : Int) := by omega
 have hml : m <= len := by omega
 have HL := Zh hl
 have HR := Zh h
 have HM := Zh hm
 have HLT : Hid ((L.take m).length = m) := Zh (by simp; omega)
 have HS := Zh (decide_eq_true hs)
 have HN : Hid (C.open L = some (L.take m)) := Zh (C.open_some.2 hs)
 clear hl h hm hs
 go_enter Tryz.func111, Tryz.ntmps111
 go_wp2_with fail
 refine (zu8 _ m cap (L.take m) _ (by omega) HLT.out (HR.out.take m)).mono ?_
 rintro e w1 ⟨a1, c1, rfl, r1, hb1⟩
 rw [HM.out]
 have W1 := Zh hb1
 clear hb1
 go_wp2_with fail
 refine (zpz _ _ len len _ _ (C.seal (L.take m)) L _ (by rw [C.seal_len, HLT.out, HM.out]) HL.out r1.out (HR.out.below W1.out)).mono ?_
 rintro e w2 ⟨rfl, hb2⟩
 rw [HS.out]
 have W2 := Zt W1 hb2
 clear hb2
 go_wp2_with fail
 refine (zuq _ m cap (L.take m) _ (by omega) HLT.out ((HR.out.below W2.out).take m)).mono ?_
 rintro e w3 ⟨v3, rfl, ho3, hb3⟩
 obtain ⟨a3, c3, rfl, r3⟩ := zsq ho3 (fun c hc => HR.out.2.1 c (List.mem_of_mem_take hc))
 have B3 := Zh (fun _ : (C.open L).isSome = true => zyp ho3)
 have R3 := Zh r3
 have W3 := Zt W2 hb3
 clear hb3 ho3 r3
 go_wp2
 go_ret2
 exact ⟨a3, c3, m, by rw [HN.out]; rfl, by rw [HN.out]; exact HLT, by rw [HN.out]; exact R3, B3, W3.out⟩
theorem zxj (a : Option Addr) (len cap : Nat) (L : List Int) (w : World) (h9 : len <= 90000) (hl : L.length = len) (h : zfv .u8 w a cap L) :
  Calls Tryz.prog 111 #[.slice a len cap] w (zyy L w) := by
 cases ho : C.open L with
 | none => exact (zx5 a len cap L w h9 hl h).mono fun e w' ⟨a', cap', n', h1, h2, h3, h4⟩ => ⟨a', cap', n', h1, h2, h3, Zh (fun h => by rw [ho] at h; cases h), h4⟩
 | some O =>
  have hs := C.open_some.1 ho
  have hl4 := congrArg List.length hs
  rw [C.seal_len] at hl4
  have hO : O = L.take O.length := by rw [<- hs, C.seal, List.take_left' rfl]
  obtain ⟨b, off, rfl, _⟩ := zl4 h (i := 0) (by omega)
  exact zxi _ len (len - 4) cap L w h9 hl (by omega) h (by rw [show len - 4 = O.length by omega, <- hO]; exact hs)
end Go.Proofs.YtnbkkjcmblfhpaaGreat
namespace Go.Proofs.YtnbkkjcmblfhpaaGreat
set_option maxHeartbeats 1000000
set_option maxRecDepth 100000
open Go.RowKit
theorem zsb (a : Option Addr) (len cap : Nat) (p : Int) (L : List Int) (w : World) (h : p < 0) :
  Calls Tryz.prog 184 #[.slice a len cap, .int .i64 p] w (zpb L p w) := by
 have hg := Zh (zsv (L := L) h)
 go_enter Tryz.func184, Tryz.ntmps184
 go_wp2
 go_step3
 go_wp2
 all_goals (try rw [Exit.noGoto_ret])
 go_ret2
 exact .mk hg.out
theorem zs3 (a : Option Addr) (len cap : Nat) (q : Nat) (L : List Int) (w : World) (hl : L.length <= len) (h : len <= q) :
  Calls Tryz.prog 184 #[.slice a len cap, .int .i64 q] w (zpb L q w) := by
 have hg := Zh (zum (L := L) (q := q) (by rw [List.drop_eq_nil_of_le (by omega)]; rfl))
 have hd : decide ((q : Int) < len) = false := by simp; omega
 go_enter Tryz.func184, Tryz.ntmps184
 go_wp2
 go_step3
 go_wp2
 go_step3
 go_wp2
 refine wp_loop_rounds 1 ?_
 rw [rounds_succ]
 go_wp2
 (try rw [Exit.noGoto_ret])
 go_ret2
 exact .mk hg.out
theorem ztl (b off len cap q : Nat) (zs : List Int) (w : World) (hz : len <= zs.length) (hm : len <= 9223372036854775807) (hq : q < len)
  (hcells : ∀ i, i < zs.length -> w.cell? ⟨b, off + i, none⟩ = some (.int .u8 (zs.getD i 0))) (hby : ∀ n ∈ zs, (Lit.int .u8 n).wf = true) :
  Calls Tryz.prog 184 #[.slice (some ⟨b, off, none⟩) len cap, .int .i64 q] w (zpb (zs.take len) q w) := by
 have hq0 : ¬ ((q : Int) < 0) := by omega
 go_enter Tryz.func184, Tryz.ntmps184
 go_wp2
 go_step3
 go_wp2
 go_step3
 go_wp2
 go_loop [6, 7, 8] (fun x y i => ∃ (j k : Nat) (acc u : Int), i = .int .i64 k /\ x = .int .i64 acc /\ y = .int .i64 u /\ k <= len /\ j <= 6 /\ 0 <= acc /\ acc < u /\ Hid (At (zs.take len) q j k acc u)) (fun _ _ i => len - (intOf i).toNat)
 case atStart => exact ⟨0, q, 0, 1, rfl, rfl, rfl, by omega, by omega, by omega, by omega, Zh (At.start _ _)⟩
 case round =>
  obtain ⟨j, k, acc, u, rfl, rfl, rfl, hk, hj, ha0, hau, HA⟩ := hrel
  obtain ⟨hu1, hu5, hu6, hu7⟩ := HA.out.unit hj
  by_cases hlt : k < len
  ·have hdr := Zh (znz hlt hz)
   obtain ⟨c, hcc⟩ : ∃ c, zs.getD k 0 = c := ⟨_, rfl⟩
   have hcell := hcells k (by omega)
   have hcm : c ∈ zs := by rw [<- hcc]; simp [show k < zs.length by omega]
   rw [hcc] at hcell
   have hdr := Zh (by have := znz hlt hz; rw [hcc] at this; exact this)
   obtain ⟨hc0, hc1⟩ := bounds_u8 (hby c hcm)
   clear hcc hcm
   obtain ⟨hp0, hp1⟩ := zsw (c := c) hu1
   by_cases hj6 : j < 6
   ·have hu2 := hu5 hj6
    clear hu5 hu6 hu7
    by_cases hc : 128 <= c
    ·have hd1 : decide (128 <= c) = true := by simpa using hc
     go_wp2
     go_round
     case rel => exact ⟨j + 1, k + 1, acc + c % 128 * u, u * 128, by go_num, rfl, rfl, by omega, by omega, by omega, by omega, Zh (HA.out.step hj6 hdr.out hc)⟩
     case measure => simp [intOf]; omega
    ·have hc' : c < 128 := by omega
     have hd1 : decide (128 <= c) = false := by simpa using hc
     by_cases hb : (c = 0 /\ q < k) \/ 1099511627776 < acc + c % 128 * u
     ·have HB := Zh (HA.out.bad hdr.out hc' hb)
      by_cases h0 : c = 0 /\ q < k
      ·have e1 : (c == 0) = true := by simpa using h0.1
       have e2 : q < k := h0.2
       clear h0 hb
       go_wp2
       (try rw [Exit.noGoto_ret])
       go_ret2
       exact .mk HB.out
      ·have e3 : 1099511627776 < acc + c % 128 * u := by omega
       clear hb
       by_cases e1 : c = 0
       ·have e2 : decide (q < k) = false := by simp; omega
        have e1' : (c == 0) = true := by simpa using e1
        clear h0 e1
        go_wp2
        (try rw [Exit.noGoto_ret])
        go_ret2
        exact .mk HB.out
       ·have e1' : (c == 0) = false := by simpa using e1
        clear h0 e1
        go_wp2
        (try rw [Exit.noGoto_ret])
        go_ret2
        exact .mk HB.out
     ·have HB := Zh (HA.out.good hj6 hdr.out hc' hb)
      have e3 : decide (1099511627776 < acc + c % 128 * u) = false := by simp; omega
      by_cases e1 : c = 0
      ·have e2 : decide (q < k) = false := by simp; omega
       have e1' : (c == 0) = true := by simpa using e1
       clear e1 hb
       go_wp2
       (try rw [Exit.noGoto_ret])
       go_ret2
       exact .mk HB.out
      ·have e1' : (c == 0) = false := by simpa using e1
       clear e1 hb
       go_wp2
       (try rw [Exit.noGoto_ret])
       go_ret2
       exact .mk HB.out
   ·have hj' : j = 6 := by omega
    have HB := Zh (HA.out.over (by omega))
    have hu8 := hu6 hj'
    have hd : decide (u <= 1099511627776) = false := by simp; omega
    clear hj' hu6 hu5 hj6 hu8
    go_wp2
    (try rw [Exit.noGoto_ret])
    go_ret2
    exact .mk HB.out
  ·have HB := Zh (HA.out.eob (by simp; omega))
   have hd : decide (k < len) = false := by simp; omega
   clear hu5 hu6
   go_wp2
   (try rw [Exit.noGoto_ret])
   go_ret2
   exact .mk HB.out
theorem zol (a : Option Addr) (len cap : Nat) (p : Int) (L : List Int) (w : World) (hl : L.length = len) (h : zfv .u8 w a cap L) :
  Calls Tryz.prog 184 #[.slice a len cap, .int .i64 p] w (zpb L p w) := by
 by_cases hp : p < 0
 ·exact zsb a len cap p _ w hp
 ·obtain ⟨q, rfl⟩ : ∃ q : Nat, p = q := ⟨p.toNat, by omega⟩
  by_cases hq : len <= q
  ·exact zs3 a len cap q _ w (by omega) hq
  ·rcases h.2.2 with rfl | ⟨b, off, rfl, _, hc⟩
   ·simp at hl; omega
   ·have := ztl b off len cap q L w (by omega) (by have := h.1; unfold maxLen at this; omega) (by omega) hc h.2.1
    rwa [List.take_of_length_le (by omega)] at this
end Go.Proofs.YtnbkkjcmblfhpaaGreat
namespace Go.Proofs.YtnbkkjcmblfhpaaGreat
open Go.RowKit
theorem zvn {k : IntKind} (w : World) (a : Option Addr) {cap : Nat} (h : cap <= maxLen) : zfv k w a cap [] := ⟨⟨by simp, h⟩, by simp, .inl rfl⟩
theorem zwm {k : IntKind} {w : World} {b off cap q : Nat} {L : List Int} (h : zfv k w (some ⟨b, off, none⟩) cap L) (hq : q <= L.length) : zfv k w (some ⟨b, off + q, none⟩) (cap - q) (L.drop q) := by
 refine ⟨⟨by have := h.1.1; simp; omega, by have := h.1.2; omega⟩, fun n hn => h.2.1 n (List.mem_of_mem_drop hn), ?_⟩
 rcases h.2.2 with rfl | ⟨b', off', hx, hb, hc⟩
 ·exact .inl (by simp)
 ·cases hx
  refine .inr ⟨_, _, rfl, hb, fun i hi => ?_⟩
  simp at hi
  have := hc (q + i) (by omega)
  rw [show off + q + i = off + (q + i) by omega, this]
  simp [show q + i < L.length by omega]
theorem zwx (c : Int) (b : Bool) (w : World) (h : decide (c < 128) = b) : Calls Tryz.prog 247 #[.int .u8 c] w fun e w' => e = .returned (.bool b) /\ w = w' := by
 go_enter Tryz.func247, Tryz.ntmps247
 go_wp2
 go_ret
 exact ⟨rfl, rfl⟩
def R.on (L : List Int) : Prop := ∀ c ∈ L, 128 <= c
instance (L : List Int) : Decidable (R.on L) := inferInstanceAs (Decidable (∀ c ∈ L, 128 <= c))
theorem R.on_step {L : List Int} {k : Nat} {x : Int} (h : R.on (L.take k)) (hk : k < L.length) (hx : L.getD k 0 = x) (hd : decide (x < 128) = false) : R.on (L.take (k + 1)) := by
 rw [zup hk, hx]
 intro d hd'
 rcases List.mem_append.1 hd' with h1 | h1
 ·exact h d h1
 ·simp only [List.mem_singleton] at h1; subst h1
  have := of_decide_eq_false hd
  omega
theorem R.on_bad {L : List Int} {k : Nat} {x : Int} (hk : k < L.length) (hx : L.getD k 0 = x) (hd : decide (x < 128) = true) : ¬ R.on L := by
 intro h
 have hm : x ∈ L := by rw [<- hx]; simp [hk]
 have := h x hm
 have := of_decide_eq_true hd
 omega
theorem zwy (a : Option Addr) (len cap : Nat) (L : List Int) (w : World) (hl : L.length = len) (h : zfv .u8 w a cap L) :
  Calls Tryz.prog 290 #[.slice a len cap, .func (.func 247) #[] #[]] w fun e w' => ∃ r : Int, e = .returned (.int .i64 r) /\ decide (0 <= r) = !decide (R.on L) /\ w = w' := by
 have HL := Zh hl
 have HR := Zh h
 have hlm : len <= 9223372036854775807 := by have := h.1; unfold maxLen at this; omega
 clear hl h
 go_enter Tryz.func290, Tryz.ntmps290
 go_wp2
 go_loop [8] (fun i => ∃ k : Nat, i = .int .i64 k /\ k <= len /\ Hid (R.on (L.take k))) (fun i => len - (intOf i).toNat)
 case atStart => exact ⟨0, rfl, by omega, Zh (by simp [R.on])⟩
 case round =>
  obtain ⟨k, rfl, hkn, HT⟩ := hrel
  by_cases hlt : k < len
  ·obtain ⟨b, off, rfl, hb, hc⟩ := zl4 HR.out (by rw [HL.out]; exact hlt)
   obtain ⟨x, hx⟩ : ∃ x, L.getD k 0 = x := ⟨_, rfl⟩
   rw [hx] at hc
   have HX := Zh hx
   obtain ⟨d, hd⟩ : ∃ d, decide (x < 128) = d := ⟨_, rfl⟩
   have HD := Zh hd
   clear hx hd
   go_wp2_with (go_at_call 247; refine (zwx x d _ HD.out).mono ?_; rintro e w' ⟨rfl, rfl⟩)
   ·obtain rfl : d = true := by assumption
    go_ret
    have hb := R.on_bad (by rw [HL.out]; exact hlt) HX.out HD.out
    exact ⟨k, rfl, by rw [decide_eq_false hb]; simp, rfl⟩
   ·obtain rfl : d = false := by assumption
    go_round
    case rel => exact ⟨k + 1, by go_num, by omega, Zh (R.on_step HT.out (by rw [HL.out]; exact hlt) HX.out HD.out)⟩
    case measure => simp [intOf]; omega
  ·have hd : decide (k < len) = false := by simp; omega
   go_wp2
   go_ret
   have ht := HT.out
   rw [List.take_of_length_le (by rw [HL.out]; omega)] at ht
   exact ⟨-1, rfl, by rw [decide_eq_true ht]; rfl, rfl⟩
theorem zuv (a : Option Addr) (len cap : Nat) (L : List Int) (b : Bool) (w : World) (hl : L.length = len) (h : zfv .u8 w a cap L) (hd : decide (R.on L) = b) :
  Calls Tryz.prog 246 #[.slice a len cap, .func (.func 247) #[] #[]] w fun e w' => e = .returned (.bool (!b)) /\ w = w' := by
 have HL := Zh hl
 have HR := Zh h
 have HD := Zh hd
 clear hl h hd
 go_enter Tryz.func246, Tryz.ntmps246
 go_wp2_with (go_at_call 290; refine (zwy a len cap L _ HL.out HR.out).mono ?_; rintro e w' ⟨r, rfl, hr, rfl⟩; rw [HD.out] at hr; have HQ := Zh hr; clear hr)
 go_ret
 exact ⟨by rw [<- HQ.out]; rfl, rfl⟩
theorem zt9 (a : Option Addr) (len cap : Nat) (L : List Int) (b : Bool) (w : World) (hl : L.length = len) (h : zfv .u8 w a cap L) (hd : decide (R.cut L) = b) :
  Calls Tryz.prog 183 #[.slice a len cap] w fun e w' => e = .returned (.bool b) /\ w = w' := by
 by_cases h0 : len = 0
 ·have HB : Hid (b = true) := Zh (by rw [<- hd]; exact decide_eq_true (.inl (List.eq_nil_of_length_eq_zero (by omega))))
  have e0 : ((len : Int) == 0) = true := by simp; omega
  clear hl hd
  go_enter Tryz.func183, Tryz.ntmps183
  go_wp2
  go_ret
  exact ⟨by rw [HB.out]; rfl, rfl⟩
 ·obtain ⟨m, hm⟩ : ∃ m, len = m + 1 := ⟨len - 1, by omega⟩
  obtain ⟨c, hc⟩ : ∃ c, decide (R.on L.tail) = c := ⟨_, rfl⟩
  obtain ⟨bb, off, rfl, hbb, _⟩ := zl4 h (i := 0) (by omega)
  have hcap : len <= cap /\ cap <= maxLen := by have := h.1; omega
  have hml : maxLen <= 9223372036854775807 := by decide
  have e0 : ((len : Int) == 0) = false := by simp; omega
  have e1 : (len : Int) - 1 = (m : Int) := by omega
  have e2 : len - 1 = m := by omega
  have e3 : ¬ ((len : Int) < 1) := by omega
  have e4 : 1 <= len := by omega
  have LT : Hid (L.tail.length = m) := Zh (by simp; omega)
  have RT : Hid (zfv .u8 w (some ⟨bb, off + 1, none⟩) (cap - 1) L.tail) := Zh (by have := zwm h (q := 1) (by omega); rwa [List.drop_one] at this)
  have RZ : Hid (∀ a' cap', cap' <= maxLen -> m = 0 -> zfv .u8 w a' cap' L.tail) := Zh (fun a' cap' h1 h2 => by rw [List.eq_nil_of_length_eq_zero (l := L.tail) (by simp; omega)]; exact zvn w a' h1)
  have HC := Zh hc
  have HN : L ≠ [] := by intro hn; rw [hn] at hl; simp at hl; omega
  have HB : Hid (b = (decide (m < 6) && c)) := Zh (by
   rw [<- hd, <- hc]
   have : R.cut L ↔ (m < 6 /\ R.on L.tail) := by
    unfold R.cut R.on
    rw [show L.tail.length = m by simp; omega]
    simp [HN]
   rw [Bool.eq_iff_iff]; simp [this])
  clear hl h hd hc HN
  by_cases h6 : m < 6
  ·have d6 : decide ((m : Int) < 6) = true := by simp; omega
   have HB2 : Hid (b = c) := Zh (by rw [HB.out]; simp [h6])
   by_cases hcl : cap = 1
   ·have hm0 : m = 0 := by omega
    subst hcl
    subst hm0
    go_enter Tryz.func183, Tryz.ntmps183
    go_wp2_with fail
    refine (zuv _ 0 0 L.tail c _ LT.out (RZ.out _ 0 (by simp [maxLen]) trivial) HC.out).mono ?_
    rintro e w' ⟨rfl, rfl⟩
    go_wp2
    go_ret
    exact ⟨by rw [HB2.out]; simp <;> rfl, rfl⟩
   ·go_enter Tryz.func183, Tryz.ntmps183
    go_wp2_with fail
    refine (zuv _ m _ L.tail c _ LT.out RT.out HC.out).mono ?_
    rintro e w' ⟨rfl, rfl⟩
    go_wp2
    go_ret
    exact ⟨by rw [HB2.out]; simp <;> rfl, rfl⟩
  ·have d6 : decide ((m : Int) < 6) = false := by simp; omega
   have d7 : decide (m < 6) = false := by simp; omega
   have HB2 : Hid (b = false) := Zh (by rw [HB.out]; simp [h6])
   have hcl : ¬ cap = 1 := by omega
   go_enter Tryz.func183, Tryz.ntmps183
   go_wp2
   go_ret
   exact ⟨by rw [HB2.out]; rfl, rfl⟩
end Go.Proofs.YtnbkkjcmblfhpaaGreat
