/-
  The contract of the document's Before.
-/
import Derived.Test.YtbboamfjkdcjeaaSmPlain
set_option linter.unusedVariables false
namespace Go.Proofs.Ytbboamfjkdcjeaa
open Go.RowKit

set_option maxRecDepth 100000 in
set_option maxHeartbeats 400000 in
theorem Before_any (a1 a2 a3 b1 b2 b3 : Int) (w : World) : Calls Try.prog 13 #[(Go.Value.agg #[Go.Value.int Go.IntKind.i64 a1, Go.Value.int Go.IntKind.i64 a2, Go.Value.int Go.IntKind.i64 a3]), (Go.Value.agg #[Go.Value.int Go.IntKind.i64 b1, Go.Value.int Go.IntKind.i64 b2, Go.Value.int Go.IntKind.i64 b3])] w fun e w' => e = .returned (.bool (befB a1 a2 a3 b1 b2 b3)) ∧ Below w.heap.size w w' := by
  by_cases h1 : a1 = b1
  · subst h1
    by_cases h2 : a2 = b2
    · subst h2
      have HE : Hid (befB a1 a2 a3 a1 a2 b3 = decide (a3 < b3)) := by show _ = _; simp [befB]
      go_enter Try.func13, Try.ntmps13
      go_wp2_with fail
      all_goals
        go_ret
        exact ⟨by rw [HE.out]; rfl, ((Below.refl _ _).alloc (Nat.le_refl _) _).alloc (by simp) _⟩
    · have HE : Hid (befB a1 a2 a3 a1 b2 b3 = decide (a2 < b2)) := by show _ = _; simp [befB, h2]
      have hd : (a2 == b2) = false := beq_eq_false_iff_ne.2 h2
      clear h2
      go_enter Try.func13, Try.ntmps13
      go_wp2_with fail
      all_goals
        go_ret
        exact ⟨by rw [HE.out]; rfl, ((Below.refl _ _).alloc (Nat.le_refl _) _).alloc (by simp) _⟩
  · have HE : Hid (befB a1 a2 a3 b1 b2 b3 = decide (a1 < b1)) := by show _ = _; simp [befB, h1]
    have hd : (a1 == b1) = false := beq_eq_false_iff_ne.2 h1
    clear h1
    go_enter Try.func13, Try.ntmps13
    go_wp2_with fail
    all_goals
      go_ret
      exact ⟨by rw [HE.out]; rfl, ((Below.refl _ _).alloc (Nat.le_refl _) _).alloc (by simp) _⟩


end Go.Proofs.Ytbboamfjkdcjeaa
