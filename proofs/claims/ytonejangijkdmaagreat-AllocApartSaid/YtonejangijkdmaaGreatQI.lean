import Derived.Test.YtonejangijkdmaaGreatBK
namespace Go.Proofs.YtonejangijkdmaaGreat
/-- Numbers and truths as values. -/
instance : Coe Int Value := ⟨.int .i64⟩
instance : Coe Nat Value := ⟨fun n => .int .i64 n⟩
instance : Coe Bool Value := ⟨.bool⟩
instance : Coe Unit Value := ⟨fun _ => .int .i64 0⟩
end Go.Proofs.YtonejangijkdmaaGreat
