/-
  Two records that are boxed.
-/
import Derived.Test.YtnpgjndhkmpciaaRReg
namespace Go.Proofs.Ytnpgjndhkmpciaa
open Go.RowKit

/-- The world behind two records' being boxed. -/
def recBox2 (w : World) (k : Int) (a : Option Addr) (n cap : Nat) (k' : Int) (a' : Option Addr) (n' cap' : Nat) : World := recBox (recBox w k a n cap) k' a' n' cap'
theorem recBox2_below (w : World) (k : Int) (a : Option Addr) (n cap : Nat) (k' : Int) (a' : Option Addr) (n' cap' : Nat) : Below w.heap.size w (recBox2 w k a n cap k' a' n' cap') :=
  (recBox_below w k a n cap).trans ((recBox_below (recBox w k a n cap) k' a' n' cap').mono (recBox_below w k a n cap).size)
theorem recBox2_first (w : World) (k : Int) (a : Option Addr) (n cap : Nat) (k' : Int) (a' : Option Addr) (n' cap' : Nat) {w' : World} (h : Below (recBox2 w k a n cap k' a' n' cap').heap.size (recBox2 w k a n cap k' a' n' cap') w') : Below (recBox w k a n cap).heap.size (recBox w k a n cap) w' :=
  (recBox_below (recBox w k a n cap) k' a' n' cap').trans (h.mono (recBox_below (recBox w k a n cap) k' a' n' cap').size)
theorem recBox2_kind (w : World) (k : Int) (a : Option Addr) (n cap : Nat) (k' : Int) (a' : Option Addr) (n' cap' : Nat) {w' : World} (h : Below (recBox2 w k a n cap k' a' n' cap').heap.size (recBox2 w k a n cap k' a' n' cap') w') : w'.cell? ⟨w.heap.size + 1, 0, none⟩ = some (.int .i64 k') := by
  have := recBox_kind (recBox w k a n cap) k' a' n' cap' h
  rwa [recBox_size] at this
theorem recBox2_body (w : World) (k : Int) (a : Option Addr) (n cap : Nat) (k' : Int) (a' : Option Addr) (n' cap' : Nat) {w' : World} (h : Below (recBox2 w k a n cap k' a' n' cap').heap.size (recBox2 w k a n cap k' a' n' cap') w') : w'.cell? ⟨w.heap.size + 1, 1, none⟩ = some (.slice a' n' cap') := by
  have := recBox_body (recBox w k a n cap) k' a' n' cap' h
  rwa [recBox_size] at this
end Go.Proofs.Ytnpgjndhkmpciaa
