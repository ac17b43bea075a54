/-
  What the laws of pools stand on.
-/
import Derived.Test.YtejckbnapcdhpaaOAwake
import Derived.Test.YtejckbnapcdhpaaOFacts
namespace Go.Proofs.Ytejckbnapcdhpaa
end Go.Proofs.Ytejckbnapcdhpaa
