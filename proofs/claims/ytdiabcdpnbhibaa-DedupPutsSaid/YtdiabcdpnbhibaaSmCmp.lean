/-
  The contract of the library's comparison of ints.
-/
import Derived.Test.YtdiabcdpnbhibaaSmPlain
import Derived.Lib.Small
set_option linter.unusedVariables false
namespace Go.Proofs.Ytdiabcdpnbhibaa
open Go.RowKit

set_option maxRecDepth 100000 in
set_option maxHeartbeats 400000 in
theorem isNaN_int (x : Int) (w : World) : Calls Try.prog 39 #[.int .i64 x] w fun e w' => e = .returned (.bool false) ∧ w' = w := by
  go_enter Try.func39, Try.ntmps39
  go_wp2_with fail
  go_ret
  exact ⟨by simp, rfl⟩

set_option maxRecDepth 100000 in
set_option maxHeartbeats 400000 in
theorem cmp_int (x y : Int) (w : World) : Calls Try.prog 35 #[.int .i64 x, .int .i64 y] w fun e w' => e = .returned (.int .i64 (Lib.compareInt x y)) ∧ w' = w := by
  have hcases : (x < y ∧ Lib.compareInt x y = -1) ∨ (¬ x < y ∧ y < x ∧ Lib.compareInt x y = 1) ∨ (¬ x < y ∧ ¬ y < x ∧ Lib.compareInt x y = 0) := by
    unfold Lib.compareInt
    by_cases h : x < y
    · exact .inl ⟨h, by rw [if_pos h]⟩
    · by_cases h2 : y < x
      · exact .inr (.inl ⟨h, h2, by rw [if_neg h, if_pos h2]⟩)
      · exact .inr (.inr ⟨h, h2, by rw [if_neg h, if_neg h2]⟩)
  rcases hcases with ⟨h, he⟩ | ⟨h, h2, he⟩ | ⟨h, h2, he⟩
  · have HE := Lib.hid he
    clear he
    have d1 : decide (x < y) = true := decide_eq_true h
    go_enter Try.func35, Try.ntmps35
    go_wp2_with (go_at_call 39; refine (isNaN_int _ _).mono ?_; rintro e w1 ⟨rfl, rfl⟩)
    go_ret
    exact ⟨by rw [HE.out]; rfl, rfl⟩
  · have HE := Lib.hid he
    clear he
    have d1 : decide (x < y) = false := decide_eq_false h
    have d2 : decide (y < x) = true := decide_eq_true h2
    go_enter Try.func35, Try.ntmps35
    go_wp2_with (go_at_call 39; refine (isNaN_int _ _).mono ?_; rintro e w1 ⟨rfl, rfl⟩)
    go_ret
    exact ⟨by rw [HE.out]; rfl, rfl⟩
  · have HE := Lib.hid he
    clear he
    have d1 : decide (x < y) = false := decide_eq_false h
    have d2 : decide (y < x) = false := decide_eq_false h2
    go_enter Try.func35, Try.ntmps35
    go_wp2_with (go_at_call 39; refine (isNaN_int _ _).mono ?_; rintro e w1 ⟨rfl, rfl⟩)
    go_ret
    exact ⟨by rw [HE.out]; rfl, rfl⟩

end Go.Proofs.Ytdiabcdpnbhibaa
