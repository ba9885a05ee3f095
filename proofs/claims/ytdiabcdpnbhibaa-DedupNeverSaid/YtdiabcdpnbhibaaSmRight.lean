/-
  The contract of stamp.Right.
-/
import Derived.Test.YtdiabcdpnbhibaaSmPlain
set_option linter.unusedVariables false
namespace Go.Proofs.Ytdiabcdpnbhibaa
open Go.RowKit

set_option maxRecDepth 100000 in
set_option maxHeartbeats 400000 in
theorem within_any (n m : Int) (w : World) : Calls Try.prog 41 #[.int .i64 n, .int .i64 m] w fun e w' => e = .returned (.bool (inB n m)) ∧ w' = w := by
  by_cases h : 0 ≤ n
  · by_cases h2 : n ≤ m
    · have HE := Lib.hid (inB_yes ⟨h, h2⟩)
      go_enter Try.func41, Try.ntmps41
      go_wp2_with fail
      go_ret
      exact ⟨by rw [HE.out]; rfl, rfl⟩
    · have HE := Lib.hid (inB_no (n := n) (m := m) (by omega))
      have h3 : decide (n ≤ m) = false := by simpa using h2
      go_enter Try.func41, Try.ntmps41
      go_wp2_with fail
      go_ret
      exact ⟨by rw [HE.out]; rfl, rfl⟩
  · have HE := Lib.hid (inB_no (n := n) (m := m) (by omega))
    have h3 : decide (0 ≤ n) = false := by simpa using h
    go_enter Try.func41, Try.ntmps41
    go_wp2_with fail
    go_ret
    exact ⟨by rw [HE.out]; rfl, rfl⟩

set_option maxRecDepth 100000 in
set_option maxHeartbeats 400000 in
theorem Right_any (a b c : Int) (w : World) : Calls Try.prog 38 #[(Go.Value.agg #[Go.Value.int Go.IntKind.i64 a, Go.Value.int Go.IntKind.i64 b, Go.Value.int Go.IntKind.i64 c])] w fun e w' => e = .returned (.bool (rightB a b c)) ∧ Below w.heap.size w w' := by
  have HE : Hid (rightB a b c = (inB a 1099511627776 && (inB b 1048576 && inB c 255))) := rfl
  cases h1 : inB a 1099511627776
  · go_enter Try.func38, Try.ntmps38
    go_wp2_with (go_at_call 41; refine (within_any _ _ _).mono ?_; rintro e w1 ⟨rfl, rfl⟩)
    go_ret
    exact ⟨by rw [HE.out, h1]; rfl, (Below.refl _ _).alloc (Nat.le_refl _) _⟩
  · cases h2 : inB b 1048576
    · go_enter Try.func38, Try.ntmps38
      go_wp2_with (go_at_call 41; refine (within_any _ _ _).mono ?_; rintro e w1 ⟨rfl, rfl⟩)
      go_ret
      exact ⟨by rw [HE.out, h1, h2]; rfl, (Below.refl _ _).alloc (Nat.le_refl _) _⟩
    · cases h3 : inB c 255
      all_goals
        go_enter Try.func38, Try.ntmps38
        go_wp2_with (go_at_call 41; refine (within_any _ _ _).mono ?_; rintro e w1 ⟨rfl, rfl⟩)
        go_ret
        exact ⟨by rw [HE.out, h1, h2, h3]; rfl, (Below.refl _ _).alloc (Nat.le_refl _) _⟩


end Go.Proofs.Ytdiabcdpnbhibaa
