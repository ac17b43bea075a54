/-
  Policies and events: plain.
-/
import Derived.Test.YtebiogadkamgcaaProg
namespace Go.Proofs.Ytebiogadkamgcaa
namespace Y
structure Po where
  q : Int
  i : Int
  h : Int
  pair : Bool
deriving DecidableEq
structure Ev where
  k : Int
  t : Int
  a : Int
  b : Int
  c : Int
  p : Po
deriving DecidableEq
def zp : Po := ⟨0, 0, 0, false⟩
def MayP (p : Po) : Prop := 1 ≤ p.q ∧ p.q ≤ 8 ∧ 1 ≤ p.i ∧ p.i ≤ 1048576 ∧ 0 ≤ p.h ∧ p.h ≤ 1048576
instance (p : Po) : Decidable (MayP p) := by unfold MayP; exact inferInstance
end Y
end Go.Proofs.Ytebiogadkamgcaa
