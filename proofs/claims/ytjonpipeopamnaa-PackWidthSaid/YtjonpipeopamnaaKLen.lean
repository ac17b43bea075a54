/-
  Walks of math/bits.Len64 and math/bits.Len at numbers below 2^32.
-/
import Derived.Test.YtjonpipeopamnaaProg
import Derived.Lib.Strings
import Derived.Lib.Slices
import Derived.Lib.Small
import Derived.Lib.Walk
import Derived.Lib.BitFns
namespace Go.Proofs.Ytjonpipeopamnaa

/-- A number of at most k + 8 bits, by its upper 8. -/
theorem len_by (k d : Nat) (hd : 2 ^ k = d) (x : Int) (h0 : (d : Int) ≤ x) (h1 : x / d ≤ 255) (h2 : x ≤ 4294967295) : (k : Int) + Lib.len8 (x / d % 256) = (Lib.bitLen x.toNat : Int) ∧ Lib.bitLen x.toNat ≤ 64 := by
  obtain ⟨n, rfl⟩ : ∃ n : Nat, x = n := ⟨x.toNat, by omega⟩
  have e : ((n : Int) / d) = ((n / d : Nat) : Int) := by simp
  have hs := Lib.bitLen_shift k n (by rw [hd]; omega) (by omega)
  have hl := Lib.bitLen_le n 64 (by omega) (by omega)
  rw [hd] at hs
  rw [e] at h1 ⊢
  clear e
  generalize n / d = q at h1 hs ⊢
  rw [show (q : Int) % 256 = q by omega, Lib.len8_of _ (by omega) (by omega), Int.toNat_natCast, Int.toNat_natCast]
  omega
theorem len_low (x : Int) (h0 : 0 ≤ x) (h1 : x ≤ 255) : Lib.len8 (x % 256) = (Lib.bitLen x.toNat : Int) := by
  rw [show x % 256 = x by omega, Lib.len8_of x h0 h1]

set_option maxHeartbeats 4000000 in
set_option maxRecDepth 100000 in
theorem len64_any (x : Int) (w : World) (h0 : 0 ≤ x) (h1 : x ≤ 4294967295) : Calls Try.prog 30 #[.int .u64 x] w fun e w' => e = .returned (.int .i64 (Lib.bitLen x.toNat)) ∧ w = w' := by
  go_enter Try.func30, Try.ntmps30
  go_wp2
  all_goals (go_ret; refine ⟨congrArg Ending.returned (congrArg (Value.int IntKind.i64) ?_), rfl⟩)
  · rw [show x / 65536 / 256 = x / (16777216 : Nat) by omega]
    have := len_by 24 16777216 rfl x (by omega) (by omega) h1
    omega
  · have := len_by 16 65536 rfl x (by omega) (by omega) h1
    rw [show x / 65536 = x / (65536 : Nat) from rfl]
    omega
  · have := len_by 8 256 rfl x (by omega) (by omega) h1
    rw [show x / 256 = x / (256 : Nat) from rfl]
    omega
  · have := len_low x h0 (by omega)
    have := Lib.bitLen_le8' x h0 (by omega)
    omega

theorem len_any (x : Int) (w : World) (h0 : 0 ≤ x) (h1 : x ≤ 4294967295) : Calls Try.prog 26 #[.int .u64 x] w fun e w' => e = .returned (.int .i64 (Lib.bitLen x.toNat)) ∧ w = w' := by
  go_enter Try.func26, Try.ntmps26
  go_wp2_with (go_at_call 30; refine (len64_any x _ h0 h1).mono ?_; rintro e w' ⟨rfl, rfl⟩)
  go_ret
  exact ⟨rfl, rfl⟩
end Go.Proofs.Ytjonpipeopamnaa
