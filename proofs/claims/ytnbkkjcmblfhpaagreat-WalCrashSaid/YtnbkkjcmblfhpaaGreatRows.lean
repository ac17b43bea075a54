/-
  No cell of these rows narrows 'for every input' (looked for: loops, veiled, ifaces, maps, wideKeys, modest, calm, conditions, laid).
  DERIVED. THE GIVEN ROWS OF THIS SEAT. 7 by the template 'for every input the law returns true; each argument reads behind the call as it read before'; 0 by the template 'total and deterministic' (their statements: YtnbkkjcmblfhpaaGreatTotals.lean).
  GIVEN WITH THE SEED: the statements are not yours to turn. If you find one false, say at which input.
  Laid BY PROGRAM, IN A SANDBOX (cutbox-rows.mjs): the forced cells as the released guide's own fill.sh prints them over the translation 012a1e84aaa0f2c4… (all of the seat's roots in one cut). By AI agents, Wed Nov 11 2026. No macro, syntax, notation, axiom, sorry.
-/
import Derived.Test.YtnbkkjcmblfhpaaGreatChecked
import GoSem.Claim
import GoSem.ClaimJoined
import GoSem.ClaimMapViews
import Derived.JoinedTies
import Derived.KernelRfl
namespace Go.Proofs.YtnbkkjcmblfhpaaGreat
/- THE CELL 'sum', in the pinned program and in every row, IS THE sha256 OF THE DUMP (.gsa) THAT YtnbkkjcmblfhpaaGreatProg.lean LOADS. Nothing in Lean hashes anything: it is a label: what it is worth is what the hold of that sum in a sandbox is worth. -/
noncomputable def Tryz.pinned : Pinned := { name := "ytnbkkjcmblfhpaagreat", sum := "012a1e84aaa0f2c463f6c2a02b8e167f784c7aba15dda961c8bfe8e2c6ffd973", checked := Tryz.checked }
namespace Rows
def none {H : Type} : Left H := { results := [], args := [] }

/-- 'mooringslaw16.WalTells': WHATEVER THE INPUT: true; the input reads as it did. -/
def walTellsSpec : ChangeSpec := { name := "walTells", fn := fun _ => fun
  | [d1, d2, d3, d4, d5] => { results := [.lit (.bool true)], args := [d1, d2, d3, d4, d5] }
  | _ => none }
def walTellsRow : OpenClaim := { program := "ytnbkkjcmblfhpaagreat", sum := "012a1e84aaa0f2c463f6c2a02b8e167f784c7aba15dda961c8bfe8e2c6ffd973", func := "moorings/mooringslaw16.WalTells", spec := "walTells", unfollowed := true, recurses := true, apart := false }
def WalTellsSaid : Prop := walTellsRow.holds Tryz.pinned (OpenSpec.ofChange walTellsSpec)

/-- ITS FALSE NEIGHBOUR: 'it returns false'. Refute it at one input. -/
def walTellsWrong : ChangeSpec := { name := "walTells", fn := fun _ => fun
  | [d1, d2, d3, d4, d5] => { results := [.lit (.bool false)], args := [d1, d2, d3, d4, d5] }
  | _ => none }
def WalTellsWrongFalsely : Prop := walTellsRow.holds Tryz.pinned (OpenSpec.ofChange walTellsWrong)

/-- 'mooringslaw16.WalStays': WHATEVER THE INPUT: true; the input reads as it did. -/
def walStaysSpec : ChangeSpec := { name := "walStays", fn := fun _ => fun
  | [d1, d2, d3, d4] => { results := [.lit (.bool true)], args := [d1, d2, d3, d4] }
  | _ => none }
def walStaysRow : OpenClaim := { program := "ytnbkkjcmblfhpaagreat", sum := "012a1e84aaa0f2c463f6c2a02b8e167f784c7aba15dda961c8bfe8e2c6ffd973", func := "moorings/mooringslaw16.WalStays", spec := "walStays", unfollowed := true, recurses := true, apart := false }
def WalStaysSaid : Prop := walStaysRow.holds Tryz.pinned (OpenSpec.ofChange walStaysSpec)

/-- ITS FALSE NEIGHBOUR: 'it returns false'. Refute it at one input. -/
def walStaysWrong : ChangeSpec := { name := "walStays", fn := fun _ => fun
  | [d1, d2, d3, d4] => { results := [.lit (.bool false)], args := [d1, d2, d3, d4] }
  | _ => none }
def WalStaysWrongFalsely : Prop := walStaysRow.holds Tryz.pinned (OpenSpec.ofChange walStaysWrong)

/-- 'mooringslaw16.WalReads': WHATEVER THE INPUT: true; the input reads as it did. -/
def walReadsSpec : ChangeSpec := { name := "walReads", fn := fun _ => fun
  | [d1, d2] => { results := [.lit (.bool true)], args := [d1, d2] }
  | _ => none }
def walReadsRow : OpenClaim := { program := "ytnbkkjcmblfhpaagreat", sum := "012a1e84aaa0f2c463f6c2a02b8e167f784c7aba15dda961c8bfe8e2c6ffd973", func := "moorings/mooringslaw16.WalReads", spec := "walReads", inPlace := ["slices.overlaps[moorings/api.Lease]", "slices.overlaps[moorings/api.Held]", "internal/reflectlite.ValueOf", "(internal/reflectlite.Value).Len", "internal/reflectlite.Swapper"], unfollowed := true, recurses := true, apart := false }
def WalReadsSaid : Prop := walReadsRow.holds Tryz.pinned (OpenSpec.ofChange walReadsSpec)

/-- ITS FALSE NEIGHBOUR: 'it returns false'. Refute it at one input. -/
def walReadsWrong : ChangeSpec := { name := "walReads", fn := fun _ => fun
  | [d1, d2] => { results := [.lit (.bool false)], args := [d1, d2] }
  | _ => none }
def WalReadsWrongFalsely : Prop := walReadsRow.holds Tryz.pinned (OpenSpec.ofChange walReadsWrong)

/-- 'mooringslaw16.WalTrims': WHATEVER THE INPUT: true; the input reads as it did. -/
def walTrimsSpec : ChangeSpec := { name := "walTrims", fn := fun _ => fun
  | [d1, d2, d3] => { results := [.lit (.bool true)], args := [d1, d2, d3] }
  | _ => none }
def walTrimsRow : OpenClaim := { program := "ytnbkkjcmblfhpaagreat", sum := "012a1e84aaa0f2c463f6c2a02b8e167f784c7aba15dda961c8bfe8e2c6ffd973", func := "moorings/mooringslaw16.WalTrims", spec := "walTrims", unfollowed := true, recurses := true, apart := false }
def WalTrimsSaid : Prop := walTrimsRow.holds Tryz.pinned (OpenSpec.ofChange walTrimsSpec)

/-- ITS FALSE NEIGHBOUR: 'it returns false'. Refute it at one input. -/
def walTrimsWrong : ChangeSpec := { name := "walTrims", fn := fun _ => fun
  | [d1, d2, d3] => { results := [.lit (.bool false)], args := [d1, d2, d3] }
  | _ => none }
def WalTrimsWrongFalsely : Prop := walTrimsRow.holds Tryz.pinned (OpenSpec.ofChange walTrimsWrong)

/-- 'mooringslaw16.WalNew': WHATEVER THE INPUT: true; the input reads as it did. -/
def walNewSpec : ChangeSpec := { name := "walNew", fn := fun _ => fun
  | [d1, d2] => { results := [.lit (.bool true)], args := [d1, d2] }
  | _ => none }
def walNewRow : OpenClaim := { program := "ytnbkkjcmblfhpaagreat", sum := "012a1e84aaa0f2c463f6c2a02b8e167f784c7aba15dda961c8bfe8e2c6ffd973", func := "moorings/mooringslaw16.WalNew", spec := "walNew", unfollowed := true, recurses := true, apart := false }
def WalNewSaid : Prop := walNewRow.holds Tryz.pinned (OpenSpec.ofChange walNewSpec)

/-- ITS FALSE NEIGHBOUR: 'it returns false'. Refute it at one input. -/
def walNewWrong : ChangeSpec := { name := "walNew", fn := fun _ => fun
  | [d1, d2] => { results := [.lit (.bool false)], args := [d1, d2] }
  | _ => none }
def WalNewWrongFalsely : Prop := walNewRow.holds Tryz.pinned (OpenSpec.ofChange walNewWrong)

/-- 'mooringslaw16.WalTurns': WHATEVER THE INPUT: true; the input reads as it did. -/
def walTurnsSpec : ChangeSpec := { name := "walTurns", fn := fun _ => fun
  | [d1, d2] => { results := [.lit (.bool true)], args := [d1, d2] }
  | _ => none }
def walTurnsRow : OpenClaim := { program := "ytnbkkjcmblfhpaagreat", sum := "012a1e84aaa0f2c463f6c2a02b8e167f784c7aba15dda961c8bfe8e2c6ffd973", func := "moorings/mooringslaw16.WalTurns", spec := "walTurns", unfollowed := true, recurses := true, apart := false }
def WalTurnsSaid : Prop := walTurnsRow.holds Tryz.pinned (OpenSpec.ofChange walTurnsSpec)

/-- ITS FALSE NEIGHBOUR: 'it returns false'. Refute it at one input. -/
def walTurnsWrong : ChangeSpec := { name := "walTurns", fn := fun _ => fun
  | [d1, d2] => { results := [.lit (.bool false)], args := [d1, d2] }
  | _ => none }
def WalTurnsWrongFalsely : Prop := walTurnsRow.holds Tryz.pinned (OpenSpec.ofChange walTurnsWrong)

/-- 'mooringslaw16.WalCrash': WHATEVER THE INPUT: true; the input reads as it did. -/
def walCrashSpec : ChangeSpec := { name := "walCrash", fn := fun _ => fun
  | [d1, d2, d3] => { results := [.lit (.bool true)], args := [d1, d2, d3] }
  | _ => none }
def walCrashRow : OpenClaim := { program := "ytnbkkjcmblfhpaagreat", sum := "012a1e84aaa0f2c463f6c2a02b8e167f784c7aba15dda961c8bfe8e2c6ffd973", func := "moorings/mooringslaw16.WalCrash", spec := "walCrash", unfollowed := true, recurses := true, apart := false }
def WalCrashSaid : Prop := walCrashRow.holds Tryz.pinned (OpenSpec.ofChange walCrashSpec)

/-- ITS FALSE NEIGHBOUR: 'it returns false'. Refute it at one input. -/
def walCrashWrong : ChangeSpec := { name := "walCrash", fn := fun _ => fun
  | [d1, d2, d3] => { results := [.lit (.bool false)], args := [d1, d2, d3] }
  | _ => none }
def WalCrashWrongFalsely : Prop := walCrashRow.holds Tryz.pinned (OpenSpec.ofChange walCrashWrong)

/- THE SECOND FORM. 'bulk': how many values and letters a reading holds, each counted each time it is reached (what is shared counts as often as it is met; a slice's spare places count too). A statement '..UptoSaid' is the law's where the arguments, and the package variables that the reading takes, are together of bulk at most 1048576: NARROWER than '..Said'. Prove '..Said' where nothing that the law and all that it calls make is longer than what came in: it says more and counts as full. Else prove '..UptoSaid'. A law counts once. -/
mutual
def uptoBulk {H : Type} : DataW H → Nat
  | .lit (.string bytes) => bytes.length + 1
  | .lit _ => 1
  | .nil => 1
  | .ptr d => uptoBulk d + 1
  | .slice elems spare => uptoBulkAll elems + uptoBulkAll spare + 1
  | .agg parts => uptoBulkAll parts + 1
  | .iface _ d => uptoBulk d + 1
  | .map entries => uptoBulkEntries entries + 1
  | .held _ => 1
def uptoBulkAll {H : Type} : List (DataW H) → Nat
  | [] => 0
  | d :: r => uptoBulk d + uptoBulkAll r
def uptoBulkEntries {H : Type} : List (Lit × DataW H) → Nat
  | [] => 0
  | x :: r => uptoBulkEntry x + uptoBulkEntries r
def uptoBulkEntry {H : Type} : Lit × DataW H → Nat
  | (.string bytes, d) => bytes.length + uptoBulk d + 1
  | (_, d) => uptoBulk d + 1
 end
def uptoSmall : (H : Type) → List (DataW H) → Bool := fun _ ds => decide (uptoBulkAll ds ≤ 1048576)
def OpenSpec.upto (s : _root_.Go.ChangeSpec) : _root_.Go.OpenSpec := { _root_.Go.OpenSpec.ofChange s with cond := some uptoSmall }

/-- 'mooringslaw16.WalTells', WHERE WHAT IT READS IS OF BULK AT MOST 1048576: true; the input reads as it did. -/
def walTellsUptoRow : OpenClaim := { program := "ytnbkkjcmblfhpaagreat", sum := "012a1e84aaa0f2c463f6c2a02b8e167f784c7aba15dda961c8bfe8e2c6ffd973", func := "moorings/mooringslaw16.WalTells", spec := "walTells", unfollowed := true, recurses := true, apart := false, narrowed := true }
def WalTellsUptoSaid : Prop := walTellsUptoRow.holds Tryz.pinned (OpenSpec.upto walTellsSpec)

/-- 'mooringslaw16.WalStays', WHERE WHAT IT READS IS OF BULK AT MOST 1048576: true; the input reads as it did. -/
def walStaysUptoRow : OpenClaim := { program := "ytnbkkjcmblfhpaagreat", sum := "012a1e84aaa0f2c463f6c2a02b8e167f784c7aba15dda961c8bfe8e2c6ffd973", func := "moorings/mooringslaw16.WalStays", spec := "walStays", unfollowed := true, recurses := true, apart := false, narrowed := true }
def WalStaysUptoSaid : Prop := walStaysUptoRow.holds Tryz.pinned (OpenSpec.upto walStaysSpec)

/-- 'mooringslaw16.WalReads', WHERE WHAT IT READS IS OF BULK AT MOST 1048576: true; the input reads as it did. -/
def walReadsUptoRow : OpenClaim := { program := "ytnbkkjcmblfhpaagreat", sum := "012a1e84aaa0f2c463f6c2a02b8e167f784c7aba15dda961c8bfe8e2c6ffd973", func := "moorings/mooringslaw16.WalReads", spec := "walReads", inPlace := ["slices.overlaps[moorings/api.Lease]", "slices.overlaps[moorings/api.Held]", "internal/reflectlite.ValueOf", "(internal/reflectlite.Value).Len", "internal/reflectlite.Swapper"], unfollowed := true, recurses := true, apart := false, narrowed := true }
def WalReadsUptoSaid : Prop := walReadsUptoRow.holds Tryz.pinned (OpenSpec.upto walReadsSpec)

/-- 'mooringslaw16.WalTrims', WHERE WHAT IT READS IS OF BULK AT MOST 1048576: true; the input reads as it did. -/
def walTrimsUptoRow : OpenClaim := { program := "ytnbkkjcmblfhpaagreat", sum := "012a1e84aaa0f2c463f6c2a02b8e167f784c7aba15dda961c8bfe8e2c6ffd973", func := "moorings/mooringslaw16.WalTrims", spec := "walTrims", unfollowed := true, recurses := true, apart := false, narrowed := true }
def WalTrimsUptoSaid : Prop := walTrimsUptoRow.holds Tryz.pinned (OpenSpec.upto walTrimsSpec)

/-- 'mooringslaw16.WalNew', WHERE WHAT IT READS IS OF BULK AT MOST 1048576: true; the input reads as it did. -/
def walNewUptoRow : OpenClaim := { program := "ytnbkkjcmblfhpaagreat", sum := "012a1e84aaa0f2c463f6c2a02b8e167f784c7aba15dda961c8bfe8e2c6ffd973", func := "moorings/mooringslaw16.WalNew", spec := "walNew", unfollowed := true, recurses := true, apart := false, narrowed := true }
def WalNewUptoSaid : Prop := walNewUptoRow.holds Tryz.pinned (OpenSpec.upto walNewSpec)

/-- 'mooringslaw16.WalTurns', WHERE WHAT IT READS IS OF BULK AT MOST 1048576: true; the input reads as it did. -/
def walTurnsUptoRow : OpenClaim := { program := "ytnbkkjcmblfhpaagreat", sum := "012a1e84aaa0f2c463f6c2a02b8e167f784c7aba15dda961c8bfe8e2c6ffd973", func := "moorings/mooringslaw16.WalTurns", spec := "walTurns", unfollowed := true, recurses := true, apart := false, narrowed := true }
def WalTurnsUptoSaid : Prop := walTurnsUptoRow.holds Tryz.pinned (OpenSpec.upto walTurnsSpec)

/-- 'mooringslaw16.WalCrash', WHERE WHAT IT READS IS OF BULK AT MOST 1048576: true; the input reads as it did. -/
def walCrashUptoRow : OpenClaim := { program := "ytnbkkjcmblfhpaagreat", sum := "012a1e84aaa0f2c463f6c2a02b8e167f784c7aba15dda961c8bfe8e2c6ffd973", func := "moorings/mooringslaw16.WalCrash", spec := "walCrash", unfollowed := true, recurses := true, apart := false, narrowed := true }
def WalCrashUptoSaid : Prop := walCrashUptoRow.holds Tryz.pinned (OpenSpec.upto walCrashSpec)

end Rows
end Go.Proofs.YtnbkkjcmblfhpaaGreat
