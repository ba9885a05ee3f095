/-
  Equality of stamps.
-/
import Derived.Test.YtdiabcdpnbhibaaSmBox
set_option linter.unusedVariables false
namespace Go.Proofs.Ytdiabcdpnbhibaa
open Go.RowKit

/-- Are two stamps the same? -/
def sameB (a1 a2 a3 b1 b2 b3 : Int) : Bool := decide (a1 = b1 ∧ a2 = b2 ∧ a3 = b3)
theorem eq_stamp (a1 a2 a3 b1 b2 b3 : Int) (w : World) : (Op.equalIn 10000 28 (Go.Value.agg #[Go.Value.int Go.IntKind.i64 a1, Go.Value.int Go.IntKind.i64 a2, Go.Value.int Go.IntKind.i64 a3]) (Go.Value.agg #[Go.Value.int Go.IntKind.i64 b1, Go.Value.int Go.IntKind.i64 b2, Go.Value.int Go.IntKind.i64 b3])).run Try.prog w = .ok (sameB a1 a2 a3 b1 b2 b3) w := by
  unfold sameB
  by_cases h1 : a1 = b1 <;> by_cases h2 : a2 = b2 <;> by_cases h3 : a3 = b3 <;> go_simp

end Go.Proofs.Ytdiabcdpnbhibaa
