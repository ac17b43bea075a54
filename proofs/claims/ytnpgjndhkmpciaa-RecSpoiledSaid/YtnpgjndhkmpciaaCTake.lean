/-
  Walks of the register's method 'take', and of moorings/crc.More and Sum.
-/
import Derived.Test.YtnpgjndhkmpciaaBlok
import Derived.Test.YtnpgjndhkmpciaaCMath
namespace Go.Proofs.Ytnpgjndhkmpciaa
open Go.RowKit

/-- A register's number, as the program has it. -/
def C.n (x : BitVec 32) : Int := x.toNat
def C.b (b : Bool) : Int := if b then 1 else 0
theorem C.n_bd (x : BitVec 32) : 0 ≤ C.n x ∧ C.n x ≤ 4294967295 := by have := x.isLt; unfold C.n; omega
theorem C.n_inj {x y : BitVec 32} : C.n x = C.n y ↔ x = y := by
  unfold C.n
  rw [Int.natCast_inj, BitVec.toNat_inj]
theorem C.msb_of (x : BitVec 32) : C.n x / 2147483648 = C.b x.msb := by
  unfold C.n C.b
  have := x.isLt
  rw [BitVec.msb_eq_decide]
  by_cases h : 2147483648 ≤ x.toNat
  · simp [h]; omega
  · simp [h]; omega
theorem C.kept_of (x : BitVec 32) (b : Bool) : bits .xor .u8 (C.n x / 2147483648) (C.b b) = C.b (x.msb ^^ b) := by
  rw [C.msb_of]
  cases x.msb <;> cases b <;> decide
theorem C.shl_of (x : BitVec 32) : C.n x * 2 % 4294967296 = C.n (x <<< 1) := by
  unfold C.n
  rw [BitVec.toNat_shiftLeft, Nat.shiftLeft_eq]
  simp
theorem C.xor_of (x : BitVec 32) : bits .xor .u32 (C.n x) 79764919 = C.n (x ^^^ 0x04c11db7#32) := by
  have := u32_xor_nat x.toNat 79764919 x.isLt (by decide)
  unfold C.n
  rw [BitVec.toNat_xor]
  exact this

theorem grownBy_set2 {w : World} {B : Nat} {u v : Value} : w.grownBy ((w.setCell ⟨B, 0, none⟩ u).setCell ⟨B, 0, none⟩ v) (some B) :=
  (grownBy_setCell' w B _).trans (grownBy_setCell' _ B _)

theorem take_any (B : Nat) (x : BitVec 32) (b : Bool) (w : World) (hb : Blok w B 64 #[.int .u32 (C.n x)]) :
    Calls Try.prog 45 #[.pointer (some ⟨B, 0, none⟩), .int .u8 (C.b b)] w fun e w' => e = .returned (.tuple #[]) ∧ Hid (Blok w' B 64 #[.int .u32 (C.n (C.take x b))]) ∧ w.grownBy w' (some B) := by
  have c0 : w.cell? ⟨B, 0, none⟩ = some (.int .u32 (C.n x)) := hb.cell 0
  have f0 : w.frozen? ⟨B, 0, none⟩ = false := hb.frozen 0
  have hx := C.n_bd x
  have HB := Lib.hid hb
  have HK := Lib.hid (C.kept_of x b)
  have HS := Lib.hid (C.shl_of x)
  have HX := Lib.hid (C.xor_of (x <<< 1))
  have HM := Lib.hid (C.n_bd (x <<< 1))
  have HT : Hid (C.take x b = if (x.msb ^^ b) then (x <<< 1) ^^^ 0x04c11db7#32 else x <<< 1) := Lib.hid rfl
  obtain ⟨kept, hkept⟩ : ∃ q, (x.msb ^^ b) = q := ⟨_, rfl⟩
  rw [hkept] at HK HT
  obtain ⟨n, hn⟩ : ∃ n, C.n x = n := ⟨_, rfl⟩
  rw [hn] at c0 hx HK HS HB
  clear hkept hn hb
  cases kept with
  | false =>
    have hk : (bits BinOp.xor IntKind.u8 (n / 2147483648) (C.b b) == 1) = false := by rw [HK.out]; rfl
    go_enter Try.func45, Try.ntmps45
    go_wp2
    go_end0
    refine ⟨rfl, Lib.hid ?_, grownBy_setCell' w B _⟩
    have h1 := HB.out.set 0 (.int .u32 (n * 2 % 4294967296))
    rw [HT.out, if_neg (by decide), ← HS.out]
    exact h1
  | true =>
    have hk : (bits BinOp.xor IntKind.u8 (n / 2147483648) (C.b b) == 1) = true := by rw [HK.out]; rfl
    go_enter Try.func45, Try.ntmps45
    go_wp2
    go_end0
    refine ⟨rfl, Lib.hid ?_, (grownBy_setCell' w B _).trans (grownBy_setCell' _ B _)⟩
    have h1 := (HB.out.set 0 (.int .u32 (n * 2 % 4294967296))).set 0 (.int .u32 (bits .xor .u32 (n * 2 % 4294967296) 79764919))
    have e1 : bits .xor .u32 (n * 2 % 4294967296) 79764919 = C.n (C.take x b) := by
      rw [HT.out, if_pos trivial, ← HX.out]
      exact congrArg (bits .xor .u32 · 79764919) HS.out
    rw [e1] at h1 ⊢
    exact h1

theorem C.not_of (x : BitVec 32) : bits .xor .u32 4294967295 (C.n x) = C.n (~~~x) := by
  have := u32_xor_nat 4294967295 x.toNat (by decide) x.isLt
  have h2 : (BitVec.allOnes 32 ^^^ x).toNat = 4294967295 ^^^ x.toNat := by rw [BitVec.toNat_xor]; rfl
  have h3 : BitVec.allOnes 32 ^^^ x = ~~~x := by
    apply BitVec.eq_of_getLsbD_eq
    intro i hi
    rw [BitVec.getLsbD_xor, BitVec.getLsbD_not, BitVec.getLsbD_allOnes]
    simp [hi]
  rw [h3] at h2
  unfold C.n
  rw [h2]
  exact this

theorem C.bit_at {L : List Int} {k i : Nat} (hc : 0 ≤ L.getD k 0 ∧ L.getD k 0 ≤ 255) (hi : i < 8) : bits .and .u8 (L.getD k 0 / 2 ^ (7 - i)) 1 = C.b (C.bit L (8 * k + i)) := by
  obtain ⟨c, hc'⟩ : ∃ c : Nat, L.getD k 0 = c := ⟨(L.getD k 0).toNat, by omega⟩
  unfold C.bit
  rw [show (8 * k + i) / 8 = k by omega, show 7 - (8 * k + i) % 8 = 7 - i by omega, hc', Int.toNat_natCast]
  have e : ((c : Int) / 2 ^ (7 - i)) = ((c / 2 ^ (7 - i) : Nat) : Int) := by simp
  have h := Nat.div_le_self c (2 ^ (7 - i))
  have h2 := u8_and_nat (c / 2 ^ (7 - i)) 1 (by omega) (by omega)
  rw [Nat.and_one_is_mod] at h2
  rw [e]
  refine h2.trans ?_
  rw [Nat.testBit_eq_decide_div_mod_eq]
  unfold C.b
  have := Nat.mod_two_eq_zero_or_one (c / 2 ^ (7 - i))
  rcases this with h3 | h3 <;> simp [h3]

/-- 'take' at whatever is a bit. -/
theorem take_of (B : Nat) (x : BitVec 32) (b : Bool) (v : Int) (w : World) (hv : v = C.b b) (hb : Blok w B 64 #[.int .u32 (C.n x)]) :
    Calls Try.prog 45 #[.pointer (some ⟨B, 0, none⟩), .int .u8 v] w fun e w' => e = .returned (.tuple #[]) ∧ Hid (Blok w' B 64 #[.int .u32 (C.n (C.take x b))]) ∧ w.grownBy w' (some B) := by
  subst hv; exact take_any B x b w hb

set_option maxRecDepth 100000 in
theorem more_any (a : Option Addr) (len cap : Nat) (L : List Int) (s : BitVec 32) (w : World) (hl : L.length = len) (h : RowIn .u8 w a cap L) :
    Calls Try.prog 41 #[.int .u32 (C.n s), .slice a len cap] w fun e w' => e = .returned (.int .u32 (C.n (C.more s L))) ∧ Below w.heap.size w w' := by
  have HL := Lib.hid hl
  have HR := Lib.hid h
  have HS := Lib.hid (C.not_of s)
  have hs := C.n_bd s
  have hlm : len ≤ 9223372036854775807 := by have := h.1; unfold maxLen at this; omega
  obtain ⟨n, hn⟩ : ∃ n, C.n s = n := ⟨_, rfl⟩
  rw [hn] at HS hs ⊢
  clear hl h hn
  go_enter Try.func41, Try.ntmps41
  go_wp2
  go_loopg [15] len (fun g s15 wr => ∃ k : Nat, s15 = .int .i64 k ∧ k + g = len ∧ Hid (Blok wr w.heap.size 64 #[.int .u32 (C.n (C.rn (~~~s) (C.bit L) (8 * k)))]) ∧ Hid (Below w.heap.size w wr))
  case atStart =>
    refine ⟨0, rfl, by omega, Lib.hid ?_, Lib.hid ((Below.refl _ w).alloc (Nat.le_refl _) _)⟩
    have e : C.n (C.rn (~~~s) (C.bit L) (8 * 0)) = bits .xor .u32 IntKind.u32.max n := HS.out.symm
    rw [e]
    exact Blok.new w _ _
  case round =>
    obtain ⟨k, rfl, hk, HB, HW⟩ := hrel
    obtain ⟨w0, rfl⟩ : ∃ w0, w0 = wr := ⟨_, rfl⟩
    by_cases hlt : k < len
    · obtain ⟨b, off, rfl, hb, hc⟩ := row_at HR.out (by rw [HL.out]; exact hlt)
      have hc1 := byte_of HR.out.2.1 (L.getD k 0) (by have := HL.out; simp [show k < L.length by omega])
      have HBIT : Hid (∀ i, i < 8 → bits .and .u8 (L.getD k 0 / 2 ^ (7 - i)) 1 = C.b (C.bit L (8 * k + i))) := Lib.hid (fun i hi => C.bit_at hc1 hi)
      obtain ⟨c, hcc⟩ : ∃ c, L.getD k 0 = c := ⟨_, rfl⟩
      rw [hcc] at hc hc1 HBIT
      have hcell : w0.cell? ⟨b, off + k, none⟩ = some (.int .u8 c) := (HW.out.cell (p := ⟨b, off + k, none⟩) hb).trans hc
      clear hcc hc hb
      go_wp2
      go_loopg [19] 8 (fun g s19 wx => ∃ i : Nat, s19 = .int .i64 i ∧ i + g = 8 ∧ Hid (Blok wx w.heap.size 64 #[.int .u32 (C.n (C.rn (~~~s) (C.bit L) (8 * k + i)))]) ∧ Hid (Below w.heap.size w wx))
      case atStart => exact ⟨0, rfl, by omega, HB, HW⟩
      case round =>
        obtain ⟨i, rfl, hi, HBI, HWI⟩ := hrel
        obtain ⟨w1, rfl⟩ : ∃ w1, w1 = wr := ⟨_, rfl⟩
        by_cases hi8 : i < 8
        · go_wp2_with fail
          refine (take_of _ _ (C.bit L (8 * k + i)) _ _ (HBIT.out i hi8) HBI.out).mono ?_
          rintro e w2 ⟨rfl, HB2, hg2⟩
          have HG2 := Lib.hid hg2
          clear hg2
          go_wp2
          go_roundg (8 - (i + 1))
          case rel => exact ⟨i + 1, by go_num, by omega, HB2, Lib.hid (HWI.out.grown HG2.out (Nat.le_of_lt HBI.out.lt) (fun j e => by cases e; exact Nat.le_refl _))⟩
          case measure => omega
        · obtain rfl : i = 8 := by omega
          go_wp2
          go_roundg (len - (k + 1))
          case rel => exact ⟨k + 1, by go_num, by omega, HBI, HWI⟩
          case measure => omega
    · obtain rfl : k = len := by omega
      have e : C.rn (~~~s) (C.bit L) (8 * k) = C.run (~~~s) L := by unfold C.run; rw [HL.out]
      have c0 := HB.out.cell 0
      have HN := Lib.hid (C.not_of (C.run (~~~s) L))
      rw [e] at c0
      clear e
      go_wp2
      go_ret
      exact ⟨ret_int HN.out, HW.out⟩

theorem sum_any (a : Option Addr) (len cap : Nat) (L : List Int) (w : World) (hl : L.length = len) (h : RowIn .u8 w a cap L) :
    Calls Try.prog 34 #[.slice a len cap] w fun e w' => e = .returned (.int .u32 (C.n (C.sum L))) ∧ Below w.heap.size w w' := by
  have HL := Lib.hid hl
  have HR := Lib.hid h
  clear hl h
  go_enter Try.func34, Try.ntmps34
  go_wp2_with fail
  refine (more_any a len cap L 0 _ HL.out HR.out).mono ?_
  rintro e w1 ⟨rfl, hb1⟩
  have W1 := Lib.hid hb1
  clear hb1
  go_wp2
  go_ret
  exact ⟨rfl, W1.out⟩
end Go.Proofs.Ytnpgjndhkmpciaa
