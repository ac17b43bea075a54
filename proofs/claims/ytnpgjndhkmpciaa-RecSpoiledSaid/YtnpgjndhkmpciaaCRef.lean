/-
  Walks of the document's sums (moorings/mooringsref04: roll, Sum, More).
-/
import Derived.Test.YtnpgjndhkmpciaaCTake
namespace Go.Proofs.Ytnpgjndhkmpciaa
open Go.RowKit

/-- A byte moved up by i bits. -/
def C.up (c : Int) (i : Nat) : Int := c * 2 ^ i % 256
theorem C.up_bd (c : Int) (i : Nat) : 0 ≤ C.up c i ∧ C.up c i ≤ 255 := by unfold C.up; omega
theorem C.up_zero {c : Int} (h : 0 ≤ c ∧ c ≤ 255) : C.up c 0 = c := by unfold C.up; simp; omega
theorem C.up_succ (c : Int) (i : Nat) : 2 * C.up c i % 256 = C.up c (i + 1) := by
  unfold C.up
  rw [Int.pow_succ]
  have e : c * (2 ^ i * 2) = 2 * (c * 2 ^ i) := by rw [← Int.mul_assoc, Int.mul_comm]
  rw [e]
  generalize c * 2 ^ i = y
  omega
theorem C.up_bit {L : List Int} {k i : Nat} (hc : 0 ≤ L.getD k 0 ∧ L.getD k 0 ≤ 255) (hi : i < 8) : C.up (L.getD k 0) i / 128 = C.b (C.bit L (8 * k + i)) := by
  obtain ⟨c, hc'⟩ : ∃ c : Nat, L.getD k 0 = c := ⟨(L.getD k 0).toNat, by omega⟩
  unfold C.bit
  rw [show (8 * k + i) / 8 = k by omega, show 7 - (8 * k + i) % 8 = 7 - i by omega, hc', Int.toNat_natCast]
  have hb : c < 256 := by omega
  clear hc hc'
  have h : ∀ i, i < 8 → ∀ c : Nat, c < 256 → C.up (c : Int) i / 128 = C.b (c.testBit (7 - i)) := by decide +kernel
  exact h i hi c hb

theorem C.roll_of (x : BitVec 32) (b : Bool) : (C.n x / 2147483648 != C.b b) = (x.msb ^^ b) := by
  rw [C.msb_of]
  cases x.msb <;> cases b <;> rfl
theorem C.dbl_of (x : BitVec 32) : 2 * C.n x % 4294967296 = C.n (x <<< 1) := by rw [Int.mul_comm]; exact C.shl_of x

set_option maxRecDepth 100000 in
theorem roll_any (a : Option Addr) (len cap : Nat) (L : List Int) (s : BitVec 32) (w : World) (hl : L.length = len) (h : RowIn .u8 w a cap L) :
    Calls Try.prog 42 #[.int .u32 (C.n s), .slice a len cap] w fun e w' => e = .returned (.int .u32 (C.n (C.run s L))) ∧ w = w' := by
  have HL := Lib.hid hl
  have HR := Lib.hid h
  have hlm : len ≤ 9223372036854775807 := by have := h.1; unfold maxLen at this; omega
  clear hl h
  go_enter Try.func42, Try.ntmps42
  go_wp2
  go_loopg [0, 5] len (fun g s0 s5 wr => ∃ k : Nat, s5 = .int .i64 k ∧ k + g = len ∧ s0 = .int .u32 (C.n (C.rn s (C.bit L) (8 * k))) ∧ wr = w)
  case atStart => exact ⟨0, rfl, by omega, rfl, rfl⟩
  case round =>
    obtain ⟨k, rfl, hk, rfl, rfl⟩ := hrel
    by_cases hlt : k < len
    · obtain ⟨b, off, rfl, hb, hc⟩ := row_at HR.out (by rw [HL.out]; exact hlt)
      have hc1 := byte_of HR.out.2.1 (L.getD k 0) (by have := HL.out; simp [show k < L.length by omega])
      have HBIT : Hid (∀ i, i < 8 → C.up (L.getD k 0) i / 128 = C.b (C.bit L (8 * k + i))) := Lib.hid (fun i hi => C.up_bit hc1 hi)
      have HZ := Lib.hid (C.up_zero hc1)
      obtain ⟨c, hcc⟩ : ∃ c, L.getD k 0 = c := ⟨_, rfl⟩
      rw [hcc] at hc hc1 HBIT HZ
      clear hcc hb
      obtain ⟨x0, hx0⟩ : ∃ x, C.n (C.rn s (C.bit L) (8 * k)) = x := ⟨_, rfl⟩
      rw [hx0]
      have HX0 := Lib.hid hx0
      clear hx0
      go_wp2
      go_loopg [0, 6, 7] 8 (fun g s0 s6 s7 wx => ∃ (i : Nat) (x m : Int), s7 = .int .i64 i ∧ i + g = 8 ∧ s0 = .int .u32 x ∧ s6 = .int .u8 m ∧ Hid (C.n (C.rn s (C.bit L) (8 * k + i)) = x) ∧ Hid (C.up c i = m) ∧ wx = wr)
      case atStart => exact ⟨0, x0, c, rfl, by omega, rfl, rfl, HX0, HZ, rfl⟩
      case round =>
        obtain ⟨i, x, m, rfl, hi, rfl, rfl, HX, HM, rfl⟩ := hrel
        have hx := C.n_bd (C.rn s (C.bit L) (8 * k + i))
        have hm := C.up_bd c i
        rw [HX.out] at hx
        rw [HM.out] at hm
        by_cases hi8 : i < 8
        · obtain ⟨y, hy⟩ : ∃ y, C.rn s (C.bit L) (8 * k + i) = y := ⟨_, rfl⟩
          obtain ⟨bt, hbt⟩ : ∃ y, C.bit L (8 * k + i) = y := ⟨_, rfl⟩
          have HN : Hid (C.rn s (C.bit L) (8 * k + (i + 1)) = C.take y bt) := Lib.hid (by rw [← hy, ← hbt]; rfl)
          have HK : Hid ((x / 2147483648 != m / 128) = (y.msb ^^ bt)) := Lib.hid (by rw [← C.roll_of, ← HX.out, hy, ← HM.out, HBIT.out i hi8, hbt])
          have HD : Hid (2 * x % 4294967296 = C.n (y <<< 1)) := Lib.hid (by rw [← HX.out, hy, C.dbl_of])
          have HD2 : Hid (bits .xor .u32 (C.n (y <<< 1)) 79764919 = C.n ((y <<< 1) ^^^ 0x04c11db7#32)) := Lib.hid (C.xor_of _)
          have HM2 : Hid (2 * m % 256 = C.up c (i + 1)) := Lib.hid (by rw [← HM.out]; exact C.up_succ c i)
          clear hy hbt
          cases hkk : (y.msb ^^ bt) with
          | false =>
            have hne : (x / 2147483648 != m / 128) = false := by rw [HK.out, hkk]
            have HT : Hid (C.take y bt = y <<< 1) := Lib.hid (by unfold C.take; rw [hkk]; rfl)
            clear hkk
            go_wp2
            go_roundg (8 - (i + 1))
            case rel =>
              refine ⟨i + 1, _, _, by go_num, by omega, rfl, rfl, Lib.hid ?_, Lib.hid HM2.out.symm, rfl⟩
              rw [HN.out, HT.out]
              exact HD.out.symm
            case measure => omega
          | true =>
            have hne : (x / 2147483648 != m / 128) = true := by rw [HK.out, hkk]
            have HT : Hid (C.take y bt = (y <<< 1) ^^^ 0x04c11db7#32) := Lib.hid (by unfold C.take; rw [hkk]; rfl)
            clear hkk
            go_wp2
            go_roundg (8 - (i + 1))
            case rel =>
              refine ⟨i + 1, _, _, by go_num, by omega, rfl, rfl, Lib.hid ?_, Lib.hid HM2.out.symm, rfl⟩
              rw [HN.out, HT.out, ← HD2.out]
              exact congrArg (bits .xor .u32 · 79764919) HD.out.symm
            case measure => omega
        · obtain rfl : i = 8 := by omega
          go_wp2
          go_roundg (len - (k + 1))
          case rel => exact ⟨k + 1, by go_num, by omega, by rw [← HX.out]; rfl, rfl⟩
          case measure => omega
    · obtain rfl : k = len := by omega
      have e : C.rn s (C.bit L) (8 * k) = C.run s L := by unfold C.run; rw [HL.out]
      rw [e]
      go_wp2
      go_ret
      exact ⟨rfl, rfl⟩

theorem C.comp_of (x : BitVec 32) : 4294967295 - C.n x = C.n (~~~x) := by
  unfold C.n
  have := x.isLt
  rw [BitVec.toNat_not]
  omega
theorem C.wrap_n (x : BitVec 32) : C.n x % 4294967296 = C.n x := by have := C.n_bd x; omega

theorem rollOnes_any (a : Option Addr) (len cap : Nat) (L : List Int) (w : World) (hl : L.length = len) (h : RowIn .u8 w a cap L) :
    Calls Try.prog 42 #[.int .u32 4294967295, .slice a len cap] w fun e w' => ∃ r, e = .returned (.int .u32 r) ∧ Hid (4294967295 - r = C.n (C.sum L)) ∧ 0 ≤ r ∧ r ≤ 4294967295 ∧ w = w' :=
  (roll_any a len cap L (BitVec.allOnes 32) w hl h).mono fun _ _ ⟨h1, h2⟩ => ⟨_, h1, Lib.hid (C.comp_of _), (C.n_bd _).1, (C.n_bd _).2, h2⟩

theorem refSum_any (a : Option Addr) (len cap : Nat) (L : List Int) (w : World) (hl : L.length = len) (h : RowIn .u8 w a cap L) :
    Calls Try.prog 37 #[.slice a len cap] w fun e w' => e = .returned (.int .u32 (C.n (C.sum L))) ∧ w = w' := by
  have HL := Lib.hid hl
  have HR := Lib.hid h
  clear hl h
  go_enter Try.func37, Try.ntmps37
  go_wp2_with fail
  refine (rollOnes_any a len cap L _ HL.out HR.out).mono ?_
  rintro e w1 ⟨r, rfl, HE, h1, h2, rfl⟩
  go_wp2
  go_ret
  exact ⟨ret_int HE.out, rfl⟩
end Go.Proofs.Ytnpgjndhkmpciaa
