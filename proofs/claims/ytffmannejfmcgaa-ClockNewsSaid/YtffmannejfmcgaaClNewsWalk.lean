/-
  The walk of ClockNews.
-/
import Derived.Test.YtffmannejfmcgaaClAwake
set_option linter.unusedVariables false
namespace Go.Proofs.Ytffmannejfmcgaa
open Go.RowKit

set_option maxRecDepth 100000 in
set_option maxHeartbeats 400000 in
theorem clockNews_walk (w : World) (n : Int) (hn : -9223372036854775808 ≤ n ∧ n ≤ 9223372036854775807) : Calls Try.prog 5 #[.int .i64 n] w fun e w' => e = .returned (.bool true) ∧ Below w.heap.size w w' := by
  have HAW : Hid (∀ W, Calls Try.prog 12 #[] W fun e w' => e = .returned (.bool true) ∧ Below W.heap.size W w') := fun W => awake_any W
  clear hn
  cases h : inB n 255
  · have HN : Hid (∀ W, Calls Try.prog 18 #[.int .i64 n] W fun e w' => e = .returned (.tuple #[(Go.Value.agg #[Go.Value.int Go.IntKind.i64 0, Go.Value.int Go.IntKind.i64 0, Go.Value.int Go.IntKind.i64 0]), .int .i64 1]) ∧ Below W.heap.size W w') := fun W => New_no n W h
    have hc : decide (n < 0) = true ∨ (decide (n < 0) = false ∧ decide (255 < n) = true) := by
      have := inB_false h
      simp only [decide_eq_true_eq, decide_eq_false_iff_not]; omega
    clear h
    rcases hc with hd | ⟨hd, hd2⟩
    all_goals
      go_enter Try.func5, Try.ntmps5
      go_wp2_with fail
      refine (HN.out _).mono ?_
      rintro e w1 ⟨rfl, hb1⟩
      go_wp2_with fail
      refine (HAW.out _).mono ?_
      rintro e w2 ⟨rfl, hb2⟩
      go_wp2_with fail
      go_ret
      exact ⟨rfl, (hb1.alloc hb1.size _).trans (hb2.mono (by have := hb1.size; simp; omega))⟩
  · have HN : Hid (∀ W, Calls Try.prog 18 #[.int .i64 n] W fun e w' => e = .returned (.tuple #[(Go.Value.agg #[Go.Value.int Go.IntKind.i64 0, Go.Value.int Go.IntKind.i64 0, Go.Value.int Go.IntKind.i64 n]), .int .i64 0]) ∧ Below W.heap.size W w') := fun W => New_ok n W h
    obtain ⟨g1, g2⟩ := inB_true h
    have hd : decide (n < 0) = false := by simp only [decide_eq_false_iff_not]; omega
    have hd2 : decide (255 < n) = false := by simp only [decide_eq_false_iff_not]; omega
    clear h g1 g2
    go_enter Try.func5, Try.ntmps5
    go_wp2_with fail
    refine (HN.out _).mono ?_
    rintro e w1 ⟨rfl, hb1⟩
    go_wp2_with fail
    refine (HAW.out _).mono ?_
    rintro e w2 ⟨rfl, hb2⟩
    go_wp2_with fail
    go_ret
    exact ⟨rfl, (hb1.alloc hb1.size _).trans (hb2.mono (by have := hb1.size; simp; omega))⟩

end Go.Proofs.Ytffmannejfmcgaa
