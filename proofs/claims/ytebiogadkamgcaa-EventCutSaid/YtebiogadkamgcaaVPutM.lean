/-
  A number's bytes are bytes; what Put's slice is.
-/
import Derived.Test.YtebiogadkamgcaaVMath
import Derived.Test.YtebiogadkamgcaaKit
namespace Go.Proofs.Ytebiogadkamgcaa
open Go.RowKit

/-- What Put's slice is: it owns the number's bytes, in a block that the call made (nil, if there are none). -/
def PutIs (B : Nat) (n : Int) (w : World) (e : Ending) (w' : World) : Prop :=
  ∃ v, e = .returned v ∧ w'.ownsRow B 5 1 v (M.put n).length ((M.put n).map (Value.int .u8)) ∧ Below w.heap.size w w'

theorem put_byte {n c : Int} (h : c ∈ M.put n) : (Lit.int .u8 c).wf = true := by
  unfold M.put at h
  split at h
  · have := M.puts_byte _ _ (Nat.le_refl _) c h
    simp [Lit.wf, IntKind.min, IntKind.max, IntKind.signed, IntKind.bits]; omega
  · cases h
theorem put_wf (n : Int) : ∀ c ∈ M.put n, (Lit.int .u8 c).wf = true := fun _ h => put_byte h
end Go.Proofs.Ytebiogadkamgcaa
