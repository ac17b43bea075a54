/-
  The library's structure of sort.Slice, laid at this seat: xorshift's Next, nextPowerOfTwo, bits.Len.
-/
import Derived.Test.YtmegkfonodcoiaaSKit
import Derived.Shelf.Lay
namespace Go.Proofs
open Go.Shelf Go.RowKit Go.Lib Go.Sort
shelf_lay LaysGg.n6 Ggs 6 at Try as Try.srt6
end Go.Proofs
namespace Go.Proofs.Ytmegkfonodcoiaa
open Go.Shelf Go.RowKit Go.Lib Go.Sort
theorem grown_drewN (w : World) (row : Option Nat) : ∀ n, w.grownBy (w.drewN n) row
  | 0 => World.grownBy.refl _ _
  | n + 1 => by
    have := grown_drewN w row n
    exact ⟨this.os, this.tape, this.output, this.size, this.block⟩
theorem next_any (b X : Nat) (w : World) (hX : X < 18446744073709551616) (hc : w.cell? ⟨b, 0, none⟩ = some (.int .u64 X)) (hf : w.frozen? ⟨b, 0, none⟩ = false) :
    Calls Try.prog 65 #[.pointer (some ⟨b, 0, none⟩)] w fun e w' => e = .returned (.int .u64 (xorNextN X : Nat)) ∧ w' = (w.setCell ⟨b, 0, none⟩ (.int .u64 (xorNextN X : Nat))).drewN 3 :=
  Any.xorshift_Next { Try.srt6 with } b 0 X hX w hc hf
theorem pow_any (n : Nat) (w : World) (hn : n < 4611686018427387904) :
    Calls Try.prog 64 #[.int .i64 n] w fun e w' => e = .returned (.int .u64 ((1 <<< bitsLen n : Nat) : Int)) ∧ w' = w :=
  Any.nextPowerOfTwo { Try.srt6 with } n hn w
end Go.Proofs.Ytmegkfonodcoiaa
