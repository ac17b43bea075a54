/-
  Walk of moorings/mooringslaw04.turned: what it tells differs from what it was handed within 32 bits from a place on.
-/
import Derived.Test.YtgholfobmclabaaCLaw1
namespace Go.Proofs.Ytgholfobmclabaa
open Go.RowKit

theorem C.xor_lit {o r : Nat} (ho : o < 256) : bits .xor .u8 (o : Int) (128 / 2 ^ r) = ((o ^^^ (128 >>> r) : Nat) : Int) := by
  have h1 : (128 : Int) / 2 ^ r = ((128 / 2 ^ r : Nat) : Int) := by simp
  have h2 := Nat.div_le_self 128 (2 ^ r)
  rw [h1, u8_xor_nat o _ ho (by omega), Nat.shiftRight_eq_div_pow]

/-- What 'turned' returns. -/
def TurnIs (at_ l : Nat) (L : List Int) (w : World) (e : Ending) (w' : World) : Prop :=
  ∃ a' cap' X, e = .returned (.slice a' l cap') ∧ Hid (C.near at_ X L) ∧ Hid (RowIn .u8 w' a' cap' X) ∧ Below w.heap.size w w'

set_option maxRecDepth 100000 in
set_option maxHeartbeats 4000000 in
theorem turned_any (a0 : Option Addr) (l c0 at_ : Nat) (L : List Int) (m0 : Int) (w : World) (h0 : L.length = l) (r0 : RowIn .u8 w a0 c0 L) (n0 : a0 = none → l = 0 ∧ c0 = 0) (hl0 : l ≤ 90000) (hat : at_ ≤ 2400) (hm : 0 ≤ m0 ∧ m0 ≤ 4294967295) :
    Calls Try.prog 18 #[.slice a0 l c0, .int .i64 at_, .int .u32 m0] w (TurnIs at_ l L w) := by
  obtain ⟨i0, hi, hz0, hz1, hz2⟩ := info_parts info5
  have L0 := Lib.hid h0
  have R0 := Lib.hid r0
  have N0 := Lib.hid n0
  clear h0 r0 n0
  go_enter Try.func18, Try.ntmps18
  go_wp2_with (at_builtin; refine wpList_append_row _ rfl _ _ 22 rfl w.heap.size 5 i0 (.int .u8 0) 1 Try.underlying22 hi hz0 hz1 hz2 rfl _ 0 [] rfl (World.ownsRow_nil _ _ _ _) .u8 a0 l c0 L rfl R0.out L0.out N0.out (by unfold maxLen; omega) (by omega) (Nat.le_refl _) ?_; intro v' w2 hown' hgrow; have HO : Hid (w2.ownsRow w.heap.size 5 1 v' l (L.map (Value.int .u8))) := Lib.hid (by simpa using hown'); have HB : Hid (Below w.heap.size w w2) := Lib.hid ((Below.refl _ w).grown hgrow (Nat.le_refl _) (fun k ek => by cases ek)); clear hown' hgrow; obtain ⟨x, cp, rfl⟩ := ownsRow_form HO.out)
  go_loopg [2, 8] 32 (fun g s2 s8 wr => ∃ (i : Nat) (m : Int) (X : List Int), s8 = .int .i64 i ∧ i + g = 32 ∧ s2 = .int .u32 m ∧ 0 ≤ m ∧ m ≤ 4294967295 ∧ Hid (C.near at_ X L) ∧ Hid (wr.ownsRow w.heap.size 5 1 (.slice x l cp) l (X.map (Value.int .u8))) ∧ Hid (Below w.heap.size w wr))
  case atStart => exact ⟨0, m0, L, rfl, by omega, rfl, hm.1, hm.2, Lib.hid (C.near_refl (C.lit_wf R0.out.2.1) _), HO, HB⟩
  case round =>
    obtain ⟨i, m, X, rfl, hig, rfl, hm0, hm1, HX, HOX, HBX⟩ := hrel
    obtain ⟨w3, rfl⟩ : ∃ w3, w3 = wr := ⟨_, rfl⟩
    by_cases hi32 : i < 32
    · obtain ⟨k, hk⟩ : ∃ k, at_ + i = k := ⟨_, rfl⟩
      have hki : (at_ : Int) + (i : Int) = (k : Int) := by omega
      by_cases hkl : k < 8 * l
      · have d1 : decide ((k : Int) < 8 * (l : Int)) = true := by simp; omega
        by_cases hm2 : m % 2 = 1
        · have d2 : (m % 2 == 1) = true := by simpa using hm2
          obtain ⟨q, hq⟩ : ∃ q, k / 8 = q := ⟨_, rfl⟩
          obtain ⟨r, hr⟩ : ∃ r, k % 8 = r := ⟨_, rfl⟩
          have hqi : (k : Int) / 8 = (q : Int) := by omega
          have hri : (k : Int) % 8 = (r : Int) := by omega
          have hql : q < l := by omega
          obtain ⟨g, cp', he⟩ := ownsRow_some HOX.out (by omega)
          cases he
          have hXl : X.length = l := by rw [HX.out.1, L0.out]
          have hXq := HX.out.2.1 (X.getD q 0) (by simp [show q < X.length by omega])
          obtain ⟨o, ho⟩ : ∃ o : Nat, X.getD q 0 = o := ⟨(X.getD q 0).toNat, by omega⟩
          have ho8 : o < 256 := by omega
          have c1 : w3.cell? ⟨g, q, none⟩ = some (.int .u8 (o : Int)) := by
            rw [HOX.out.cellAt q (by omega), ← ho]
            simp [show q < X.length by omega]
          have f1 := HOX.out.frozenAt q
          have HQ := Lib.hid hq
          have HR := Lib.hid hr
          have HOo := Lib.hid ho
          have HK := Lib.hid hk
          clear hq hr ho hXq hXl hk
          have HNX : Hid (C.near at_ (C.flip X k) L) := Lib.hid (C.flip_near HX.out (by omega) (by omega) (by rw [HX.out.1, L0.out]; omega))
          have HNO : Hid ((w3.setCell ⟨g, q, none⟩ (.int .u8 (bits .xor .u8 (o : Int) (128 / 2 ^ r)))).drew.ownsRow w.heap.size 5 1 (.slice (some ⟨g, 0, none⟩) l cp) l ((C.flip X k).map (Value.int .u8))) := Lib.hid (by
            have h1 := (HOX.out.stored q (.int .u8 (bits .xor .u8 (o : Int) (128 / 2 ^ r)))).1
            have h2 : (C.flip X k).map (Value.int .u8) = (X.map (Value.int .u8)).set q (.int .u8 (bits .xor .u8 (o : Int) (128 / 2 ^ r))) := by
              unfold C.flip
              rw [HQ.out, HR.out, HOo.out, List.map_set, C.xor_lit ho8, Int.toNat_natCast]
            rw [h2]
            exact h1)
          have hgw := HOX.out.lt g rfl
          have HNB : Hid (Below w.heap.size w (w3.setCell ⟨g, q, none⟩ (.int .u8 (bits .xor .u8 (o : Int) (128 / 2 ^ r)))).drew) := Lib.hid ((HBX.out.setCell (p := ⟨g, q, none⟩) hgw.1 _).drew)
          clear hgw
          go_wp2
          go_region
          go_wp2
          go_roundg (32 - (i + 1))
          case rel => exact ⟨i + 1, m / 2, _, by go_num, by omega, rfl, by omega, by omega, HNX, HNO, HNB⟩
          case measure => omega
        · have d2 : (m % 2 == 1) = false := by simpa using hm2
          clear hm2
          go_wp2
          go_roundg (32 - (i + 1))
          case rel => exact ⟨i + 1, m / 2, X, by go_num, by omega, rfl, by omega, by omega, HX, HOX, HBX⟩
          case measure => omega
      · have d1 : decide ((k : Int) < 8 * (l : Int)) = false := by simp; omega
        clear hkl
        go_wp2
        go_roundg (32 - (i + 1))
        case rel => exact ⟨i + 1, m / 2, X, by go_num, by omega, rfl, by omega, by omega, HX, HOX, HBX⟩
        case measure => omega
    · go_wp2
      go_ret
      exact ⟨x, cp, X, rfl, HX, Lib.hid (row3_like HOX.out (C.wf_lit HX.out.2.1)), HBX.out⟩
end Go.Proofs.Ytgholfobmclabaa
