/-
  What the laws of maps stand on.
-/
import Derived.Test.YtagkpkgflnccpaaUAwake
import Derived.Test.YtagkpkgflnccpaaUFacts
import Derived.Lib.QuietBelow
namespace Go.Proofs.Ytagkpkgflnccpaa
end Go.Proofs.Ytagkpkgflnccpaa
