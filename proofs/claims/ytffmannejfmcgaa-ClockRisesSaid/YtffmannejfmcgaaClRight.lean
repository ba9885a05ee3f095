/-
  The contracts of clock's right and rightWall, and of the document's wall.
-/
import Derived.Test.YtffmannejfmcgaaSmRight
import Derived.Test.YtffmannejfmcgaaClBox
set_option linter.unusedVariables false
namespace Go.Proofs.Ytffmannejfmcgaa
open Go.RowKit

set_option maxRecDepth 100000 in
set_option maxHeartbeats 400000 in
theorem cright_any (a b c : Int) (w : World) : Calls Try.prog 22 #[(Go.Value.agg #[Go.Value.int Go.IntKind.i64 a, Go.Value.int Go.IntKind.i64 b, Go.Value.int Go.IntKind.i64 c])] w fun e w' => e = .returned (.bool (rightB a b c)) ∧ Below w.heap.size w w' := by
  obtain ⟨r, hr⟩ : ∃ r, r = rightB a b c := ⟨_, rfl⟩
  have HR : Hid (∀ W, Calls Try.prog 21 #[(Go.Value.agg #[Go.Value.int Go.IntKind.i64 a, Go.Value.int Go.IntKind.i64 b, Go.Value.int Go.IntKind.i64 c])] W fun e w' => e = .returned (.bool r) ∧ Below W.heap.size W w') := fun W => by rw [hr]; exact Right_any _ _ _ W
  rw [← hr]
  clear hr
  go_enter Try.func22, Try.ntmps22
  go_wp2_with fail
  refine (HR.out _).mono ?_
  rintro e w1 ⟨rfl, hb1⟩
  go_wp2_with fail
  go_ret
  exact ⟨rfl, ((Below.refl _ _).alloc (Nat.le_refl _) _).trans (hb1.mono (by simp))⟩

set_option maxRecDepth 100000 in
set_option maxHeartbeats 400000 in
theorem rightWall_any (n : Int) (w : World) : Calls Try.prog 23 #[.int .i64 n] w fun e w' => e = .returned (.bool (inB n 1099511627776)) ∧ w' = w := by
  by_cases h : 0 ≤ n
  · by_cases h2 : n ≤ 1099511627776
    · have HE := Lib.hid (inB_yes ⟨h, h2⟩)
      go_enter Try.func23, Try.ntmps23
      go_wp2_with fail
      go_ret
      exact ⟨by rw [HE.out]; rfl, rfl⟩
    · have HE := Lib.hid (inB_no (n := n) (m := 1099511627776) (by omega))
      have h3 : decide (n ≤ 1099511627776) = false := by simpa using h2
      go_enter Try.func23, Try.ntmps23
      go_wp2_with fail
      go_ret
      exact ⟨by rw [HE.out]; rfl, rfl⟩
  · have HE := Lib.hid (inB_no (n := n) (m := 1099511627776) (by omega))
    have h3 : decide (0 ≤ n) = false := by simpa using h
    go_enter Try.func23, Try.ntmps23
    go_wp2_with fail
    go_ret
    exact ⟨by rw [HE.out]; rfl, rfl⟩

set_option maxRecDepth 100000 in
set_option maxHeartbeats 400000 in
theorem refWall_any (n : Int) (w : World) : Calls Try.prog 24 #[.int .i64 n] w fun e w' => e = .returned (.bool (inB n 1099511627776)) ∧ w' = w := by
  by_cases h : 0 ≤ n
  · by_cases h2 : n ≤ 1099511627776
    · have HE := Lib.hid (inB_yes ⟨h, h2⟩)
      go_enter Try.func24, Try.ntmps24
      go_wp2_with fail
      go_ret
      exact ⟨by rw [HE.out]; rfl, rfl⟩
    · have HE := Lib.hid (inB_no (n := n) (m := 1099511627776) (by omega))
      have h3 : decide (n ≤ 1099511627776) = false := by simpa using h2
      go_enter Try.func24, Try.ntmps24
      go_wp2_with fail
      go_ret
      exact ⟨by rw [HE.out]; rfl, rfl⟩
  · have HE := Lib.hid (inB_no (n := n) (m := 1099511627776) (by omega))
    have h3 : decide (0 ≤ n) = false := by simpa using h
    go_enter Try.func24, Try.ntmps24
    go_wp2_with fail
    go_ret
    exact ⟨by rw [HE.out]; rfl, rfl⟩

end Go.Proofs.Ytffmannejfmcgaa
