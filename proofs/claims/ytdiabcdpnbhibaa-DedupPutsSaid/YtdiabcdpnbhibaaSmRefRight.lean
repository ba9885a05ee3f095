/-
  The contract of the document's Right.
-/
import Derived.Test.YtdiabcdpnbhibaaSmPlain
set_option linter.unusedVariables false
namespace Go.Proofs.Ytdiabcdpnbhibaa
open Go.RowKit

set_option maxRecDepth 100000 in
set_option maxHeartbeats 400000 in
theorem refRight_any (a b c : Int) (w : World) : Calls Try.prog 31 #[(Go.Value.agg #[Go.Value.int Go.IntKind.i64 a, Go.Value.int Go.IntKind.i64 b, Go.Value.int Go.IntKind.i64 c])] w fun e w' => e = .returned (.bool (rightB a b c)) ∧ Below w.heap.size w w' := by
  cases h : rightB a b c
  · have hd : (decide (0 ≤ a) = false) ∨ (decide (0 ≤ a) = true ∧ decide (a ≤ 1099511627776) = false) ∨ (decide (0 ≤ a) = true ∧ decide (a ≤ 1099511627776) = true ∧ decide (0 ≤ b) = false) ∨ (decide (0 ≤ a) = true ∧ decide (a ≤ 1099511627776) = true ∧ decide (0 ≤ b) = true ∧ decide (b ≤ 1048576) = false) ∨ (decide (0 ≤ a) = true ∧ decide (a ≤ 1099511627776) = true ∧ decide (0 ≤ b) = true ∧ decide (b ≤ 1048576) = true ∧ decide (0 ≤ c) = false) ∨ (decide (0 ≤ a) = true ∧ decide (a ≤ 1099511627776) = true ∧ decide (0 ≤ b) = true ∧ decide (b ≤ 1048576) = true ∧ decide (0 ≤ c) = true ∧ decide (c ≤ 255) = false) := by
      simp only [decide_eq_true_eq, decide_eq_false_iff_not]
      simp only [rightB, inB, Bool.and_eq_false_iff, decide_eq_false_iff_not] at h
      omega
    clear h
    rcases hd with h | ⟨h1, h⟩ | ⟨h1, h2, h⟩ | ⟨h1, h2, h3, h⟩ | ⟨h1, h2, h3, h4, h⟩ | ⟨h1, h2, h3, h4, h5, h⟩
    all_goals
      go_enter Try.func31, Try.ntmps31
      go_wp2_with fail
      go_ret
      exact ⟨rfl, (Below.refl _ _).alloc (Nat.le_refl _) _⟩
  · obtain ⟨⟨h1, h2⟩, ⟨h3, h4⟩, h5, h6⟩ := rightB_true h
    clear h
    go_enter Try.func31, Try.ntmps31
    go_wp2_with fail
    go_ret
    exact ⟨rfl, (Below.refl _ _).alloc (Nat.le_refl _) _⟩


end Go.Proofs.Ytdiabcdpnbhibaa
