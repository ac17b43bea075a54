/-
  No cell of these rows narrows 'for every input' (looked for: loops, veiled, ifaces, maps, wideKeys, modest, calm, conditions, laid).
  DERIVED. THE GIVEN ROWS OF THIS SEAT. 6 by the template 'for every input the law returns true; each argument reads behind the call as it read before'; 0 by the template 'total and deterministic' (their statements: YtagkpkgflnccpaaTotals.lean).
  GIVEN WITH THE SEED: the statements are not yours to turn. If you find one false, say at which input.
  Laid BY PROGRAM, IN A SANDBOX (cutbox-rows.mjs): the forced cells as the released guide's own fill.sh prints them over the translation 70c87b8d8549ba0d… (all of the seat's roots in one cut). By AI agents, Wed Nov 11 2026. No macro, syntax, notation, axiom, sorry.
-/
import Derived.Test.YtagkpkgflnccpaaChecked
import GoSem.Claim
import GoSem.ClaimJoined
import GoSem.ClaimMapViews
import Derived.JoinedTies
import Derived.KernelRfl
namespace Go.Proofs.Ytagkpkgflnccpaa
/- THE CELL 'sum', in the pinned program and in every row, IS THE sha256 OF THE DUMP (.gsa) THAT YtagkpkgflnccpaaProg.lean LOADS. Nothing in Lean hashes anything: it is a label: what it is worth is what the hold of that sum in a sandbox is worth. -/
noncomputable def Try.pinned : Pinned := { name := "ytagkpkgflnccpaa", sum := "70c87b8d8549ba0d5eb92dbcb45552db907778c5983c085f656b2404cd92017c", checked := Try.checked }
namespace Rows
def none {H : Type} : Left H := { results := [], args := [] }

/-- 'mooringslaw09.MapTells': WHATEVER THE INPUT: true; the input reads as it did. -/
def mapTellsSpec : ChangeSpec := { name := "mapTells", fn := fun _ => fun
  | [d1, d2, d3] => { results := [.lit (.bool true)], args := [d1, d2, d3] }
  | _ => none }
def mapTellsRow : OpenClaim := { program := "ytagkpkgflnccpaa", sum := "70c87b8d8549ba0d5eb92dbcb45552db907778c5983c085f656b2404cd92017c", func := "moorings/mooringslaw09.MapTells", spec := "mapTells", unfollowed := true, recurses := true, apart := false }
def MapTellsSaid : Prop := mapTellsRow.holds Try.pinned (OpenSpec.ofChange mapTellsSpec)

/-- ITS FALSE NEIGHBOUR: 'it returns false'. Refute it at one input. -/
def mapTellsWrong : ChangeSpec := { name := "mapTells", fn := fun _ => fun
  | [d1, d2, d3] => { results := [.lit (.bool false)], args := [d1, d2, d3] }
  | _ => none }
def MapTellsWrongFalsely : Prop := mapTellsRow.holds Try.pinned (OpenSpec.ofChange mapTellsWrong)

/-- 'mooringslaw09.MapBack': WHATEVER THE INPUT: true; the input reads as it did. -/
def mapBackSpec : ChangeSpec := { name := "mapBack", fn := fun _ => fun
  | [d1, d2, d3] => { results := [.lit (.bool true)], args := [d1, d2, d3] }
  | _ => none }
def mapBackRow : OpenClaim := { program := "ytagkpkgflnccpaa", sum := "70c87b8d8549ba0d5eb92dbcb45552db907778c5983c085f656b2404cd92017c", func := "moorings/mooringslaw09.MapBack", spec := "mapBack", unfollowed := true, recurses := true, apart := false }
def MapBackSaid : Prop := mapBackRow.holds Try.pinned (OpenSpec.ofChange mapBackSpec)

/-- ITS FALSE NEIGHBOUR: 'it returns false'. Refute it at one input. -/
def mapBackWrong : ChangeSpec := { name := "mapBack", fn := fun _ => fun
  | [d1, d2, d3] => { results := [.lit (.bool false)], args := [d1, d2, d3] }
  | _ => none }
def MapBackWrongFalsely : Prop := mapBackRow.holds Try.pinned (OpenSpec.ofChange mapBackWrong)

/-- 'mooringslaw09.MapFree': WHATEVER THE INPUT: true; the input reads as it did. -/
def mapFreeSpec : ChangeSpec := { name := "mapFree", fn := fun _ => fun
  | [d1, d2] => { results := [.lit (.bool true)], args := [d1, d2] }
  | _ => none }
def mapFreeRow : OpenClaim := { program := "ytagkpkgflnccpaa", sum := "70c87b8d8549ba0d5eb92dbcb45552db907778c5983c085f656b2404cd92017c", func := "moorings/mooringslaw09.MapFree", spec := "mapFree", unfollowed := true, recurses := true, apart := false }
def MapFreeSaid : Prop := mapFreeRow.holds Try.pinned (OpenSpec.ofChange mapFreeSpec)

/-- ITS FALSE NEIGHBOUR: 'it returns false'. Refute it at one input. -/
def mapFreeWrong : ChangeSpec := { name := "mapFree", fn := fun _ => fun
  | [d1, d2] => { results := [.lit (.bool false)], args := [d1, d2] }
  | _ => none }
def MapFreeWrongFalsely : Prop := mapFreeRow.holds Try.pinned (OpenSpec.ofChange mapFreeWrong)

/-- 'mooringslaw09.MapFills': WHATEVER THE INPUT: true; the input reads as it did. -/
def mapFillsSpec : ChangeSpec := { name := "mapFills", fn := fun _ => fun
  | [d] => { results := [.lit (.bool true)], args := [d] }
  | _ => none }
def mapFillsRow : OpenClaim := { program := "ytagkpkgflnccpaa", sum := "70c87b8d8549ba0d5eb92dbcb45552db907778c5983c085f656b2404cd92017c", func := "moorings/mooringslaw09.MapFills", spec := "mapFills", unfollowed := true, recurses := true, apart := false }
def MapFillsSaid : Prop := mapFillsRow.holds Try.pinned (OpenSpec.ofChange mapFillsSpec)

/-- ITS FALSE NEIGHBOUR: 'it returns false'. Refute it at one input. -/
def mapFillsWrong : ChangeSpec := { name := "mapFills", fn := fun _ => fun
  | [d] => { results := [.lit (.bool false)], args := [d] }
  | _ => none }
def MapFillsWrongFalsely : Prop := mapFillsRow.holds Try.pinned (OpenSpec.ofChange mapFillsWrong)

/-- 'mooringslaw09.MapOrder': WHATEVER THE INPUT: true; the input reads as it did. -/
def mapOrderSpec : ChangeSpec := { name := "mapOrder", fn := fun _ => fun
  | [d1, d2, d3] => { results := [.lit (.bool true)], args := [d1, d2, d3] }
  | _ => none }
def mapOrderRow : OpenClaim := { program := "ytagkpkgflnccpaa", sum := "70c87b8d8549ba0d5eb92dbcb45552db907778c5983c085f656b2404cd92017c", func := "moorings/mooringslaw09.MapOrder", spec := "mapOrder", unfollowed := true, recurses := true, apart := false }
def MapOrderSaid : Prop := mapOrderRow.holds Try.pinned (OpenSpec.ofChange mapOrderSpec)

/-- ITS FALSE NEIGHBOUR: 'it returns false'. Refute it at one input. -/
def mapOrderWrong : ChangeSpec := { name := "mapOrder", fn := fun _ => fun
  | [d1, d2, d3] => { results := [.lit (.bool false)], args := [d1, d2, d3] }
  | _ => none }
def MapOrderWrongFalsely : Prop := mapOrderRow.holds Try.pinned (OpenSpec.ofChange mapOrderWrong)

/-- 'mooringslaw09.MapGives': WHATEVER THE INPUT: true; the input reads as it did. -/
def mapGivesSpec : ChangeSpec := { name := "mapGives", fn := fun _ => fun
  | [d1, d2] => { results := [.lit (.bool true)], args := [d1, d2] }
  | _ => none }
def mapGivesRow : OpenClaim := { program := "ytagkpkgflnccpaa", sum := "70c87b8d8549ba0d5eb92dbcb45552db907778c5983c085f656b2404cd92017c", func := "moorings/mooringslaw09.MapGives", spec := "mapGives", unfollowed := true, recurses := true, apart := false }
def MapGivesSaid : Prop := mapGivesRow.holds Try.pinned (OpenSpec.ofChange mapGivesSpec)

/-- ITS FALSE NEIGHBOUR: 'it returns false'. Refute it at one input. -/
def mapGivesWrong : ChangeSpec := { name := "mapGives", fn := fun _ => fun
  | [d1, d2] => { results := [.lit (.bool false)], args := [d1, d2] }
  | _ => none }
def MapGivesWrongFalsely : Prop := mapGivesRow.holds Try.pinned (OpenSpec.ofChange mapGivesWrong)

/- THE SECOND FORM. 'bulk': how many values and letters a reading holds, each counted each time it is reached (what is shared counts as often as it is met; a slice's spare places count too). A statement '..UptoSaid' is the law's where the arguments, and the package variables that the reading takes, are together of bulk at most 1048576: NARROWER than '..Said'. Prove '..Said' where nothing that the law and all that it calls make is longer than what came in: it says more and counts as full. Else prove '..UptoSaid'. A law counts once. -/
mutual
def uptoBulk {H : Type} : DataW H → Nat
  | .lit (.string bytes) => bytes.length + 1
  | .lit _ => 1
  | .nil => 1
  | .ptr d => uptoBulk d + 1
  | .slice elems spare => uptoBulkAll elems + uptoBulkAll spare + 1
  | .agg parts => uptoBulkAll parts + 1
  | .iface _ d => uptoBulk d + 1
  | .map entries => uptoBulkEntries entries + 1
  | .held _ => 1
def uptoBulkAll {H : Type} : List (DataW H) → Nat
  | [] => 0
  | d :: r => uptoBulk d + uptoBulkAll r
def uptoBulkEntries {H : Type} : List (Lit × DataW H) → Nat
  | [] => 0
  | x :: r => uptoBulkEntry x + uptoBulkEntries r
def uptoBulkEntry {H : Type} : Lit × DataW H → Nat
  | (.string bytes, d) => bytes.length + uptoBulk d + 1
  | (_, d) => uptoBulk d + 1
 end
def uptoSmall : (H : Type) → List (DataW H) → Bool := fun _ ds => decide (uptoBulkAll ds ≤ 1048576)
def OpenSpec.upto (s : _root_.Go.ChangeSpec) : _root_.Go.OpenSpec := { _root_.Go.OpenSpec.ofChange s with cond := some uptoSmall }

/-- 'mooringslaw09.MapTells', WHERE WHAT IT READS IS OF BULK AT MOST 1048576: true; the input reads as it did. -/
def mapTellsUptoRow : OpenClaim := { program := "ytagkpkgflnccpaa", sum := "70c87b8d8549ba0d5eb92dbcb45552db907778c5983c085f656b2404cd92017c", func := "moorings/mooringslaw09.MapTells", spec := "mapTells", unfollowed := true, recurses := true, apart := false, narrowed := true }
def MapTellsUptoSaid : Prop := mapTellsUptoRow.holds Try.pinned (OpenSpec.upto mapTellsSpec)

/-- 'mooringslaw09.MapBack', WHERE WHAT IT READS IS OF BULK AT MOST 1048576: true; the input reads as it did. -/
def mapBackUptoRow : OpenClaim := { program := "ytagkpkgflnccpaa", sum := "70c87b8d8549ba0d5eb92dbcb45552db907778c5983c085f656b2404cd92017c", func := "moorings/mooringslaw09.MapBack", spec := "mapBack", unfollowed := true, recurses := true, apart := false, narrowed := true }
def MapBackUptoSaid : Prop := mapBackUptoRow.holds Try.pinned (OpenSpec.upto mapBackSpec)

/-- 'mooringslaw09.MapFree', WHERE WHAT IT READS IS OF BULK AT MOST 1048576: true; the input reads as it did. -/
def mapFreeUptoRow : OpenClaim := { program := "ytagkpkgflnccpaa", sum := "70c87b8d8549ba0d5eb92dbcb45552db907778c5983c085f656b2404cd92017c", func := "moorings/mooringslaw09.MapFree", spec := "mapFree", unfollowed := true, recurses := true, apart := false, narrowed := true }
def MapFreeUptoSaid : Prop := mapFreeUptoRow.holds Try.pinned (OpenSpec.upto mapFreeSpec)

/-- 'mooringslaw09.MapFills', WHERE WHAT IT READS IS OF BULK AT MOST 1048576: true; the input reads as it did. -/
def mapFillsUptoRow : OpenClaim := { program := "ytagkpkgflnccpaa", sum := "70c87b8d8549ba0d5eb92dbcb45552db907778c5983c085f656b2404cd92017c", func := "moorings/mooringslaw09.MapFills", spec := "mapFills", unfollowed := true, recurses := true, apart := false, narrowed := true }
def MapFillsUptoSaid : Prop := mapFillsUptoRow.holds Try.pinned (OpenSpec.upto mapFillsSpec)

/-- 'mooringslaw09.MapOrder', WHERE WHAT IT READS IS OF BULK AT MOST 1048576: true; the input reads as it did. -/
def mapOrderUptoRow : OpenClaim := { program := "ytagkpkgflnccpaa", sum := "70c87b8d8549ba0d5eb92dbcb45552db907778c5983c085f656b2404cd92017c", func := "moorings/mooringslaw09.MapOrder", spec := "mapOrder", unfollowed := true, recurses := true, apart := false, narrowed := true }
def MapOrderUptoSaid : Prop := mapOrderUptoRow.holds Try.pinned (OpenSpec.upto mapOrderSpec)

/-- 'mooringslaw09.MapGives', WHERE WHAT IT READS IS OF BULK AT MOST 1048576: true; the input reads as it did. -/
def mapGivesUptoRow : OpenClaim := { program := "ytagkpkgflnccpaa", sum := "70c87b8d8549ba0d5eb92dbcb45552db907778c5983c085f656b2404cd92017c", func := "moorings/mooringslaw09.MapGives", spec := "mapGives", unfollowed := true, recurses := true, apart := false, narrowed := true }
def MapGivesUptoSaid : Prop := mapGivesUptoRow.holds Try.pinned (OpenSpec.upto mapGivesSpec)

end Rows
end Go.Proofs.Ytagkpkgflnccpaa
