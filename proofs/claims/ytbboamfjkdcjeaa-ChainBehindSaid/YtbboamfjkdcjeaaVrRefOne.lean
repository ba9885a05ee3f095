/-
  The contract of the document's One.
-/
import Derived.Test.YtbboamfjkdcjeaaSmRefRight
import Derived.Test.YtbboamfjkdcjeaaVrBox
set_option linter.unusedVariables false
namespace Go.Proofs.Ytbboamfjkdcjeaa
open Go.RowKit

set_option maxRecDepth 100000 in
set_option maxHeartbeats 400000 in
theorem refOne_any (a b c : Int) (g : Bool) (s : ByteArray) (w : World) : Calls Try.prog 12 #[(Go.Value.agg #[Go.Value.int Go.IntKind.i64 a, Go.Value.int Go.IntKind.i64 b, Go.Value.int Go.IntKind.i64 c, Go.Value.bool g, Go.Value.string s])] w fun e w' => e = .returned (.bool (oneB (a, b, c, g, s))) ∧ Below w.heap.size w w' := by
  obtain ⟨r, hr⟩ : ∃ r, r = rightB a b c := ⟨_, rfl⟩
  have HR : Hid (∀ W, Calls Try.prog 27 #[(Go.Value.agg #[Go.Value.int Go.IntKind.i64 a, Go.Value.int Go.IntKind.i64 b, Go.Value.int Go.IntKind.i64 c])] W fun e w' => e = .returned (.bool r) ∧ Below W.heap.size W w') := fun W => by rw [hr]; exact refRight_any a b c W
  have HO : Hid (oneB (a, b, c, g, s) = ((!(g && decide (0 < s.size))) && (r && decide (s.size ≤ 16)))) := by show _ = _; rw [hr]; rfl
  clear hr
  have HV : Hid (VBox (w.alloc (.cells #[.int .i64 a, .int .i64 b, .int .i64 c, .bool g, .string s] 26)) w.heap.size a b c g s) := VBox.new w a b c g s
  have HB : Hid (Below w.heap.size w (w.alloc (.cells #[.int .i64 a, .int .i64 b, .int .i64 c, .bool g, .string s] 26))) := (Below.refl _ _).alloc (Nat.le_refl _) _
  have hcase : (g = true ∧ 0 < s.size) ∨ (g = true ∧ s.size = 0) ∨ g = false := by
    cases g
    · exact .inr (.inr rfl)
    · by_cases h : 0 < s.size
      · exact .inl ⟨rfl, h⟩
      · exact .inr (.inl ⟨rfl, by omega⟩)
  rcases hcase with ⟨rfl, h⟩ | ⟨rfl, h⟩ | rfl
  · have hd : decide (0 < s.size) = true := decide_eq_true h
    rw [hd] at HO
    clear h
    go_enter Try.func12, Try.ntmps12
    go_wp2_with fail
    go_ret
    exact ⟨by rw [HO.out]; rfl, HB.out⟩
  · have hd : decide (0 < s.size) = false := decide_eq_false (by omega)
    rw [hd] at HO
    clear h
    cases r
    · go_enter Try.func12, Try.ntmps12
      go_wp2_with fail
      refine (HR.out _).mono ?_
      rintro e w1 ⟨rfl, hb1⟩
      go_wp2_with fail
      go_ret
      exact ⟨by rw [HO.out]; rfl, HB.out.trans (hb1.mono (by simp))⟩
    · have hx : (decide ((s.size : Int) < 17) = true ∧ decide (s.size ≤ 16) = true) ∨ (decide ((s.size : Int) < 17) = false ∧ decide (s.size ≤ 16) = false) := by
        simp only [decide_eq_true_eq, decide_eq_false_iff_not]; omega
      rcases hx with ⟨hx, hy⟩ | ⟨hx, hy⟩
      all_goals
        rw [hy] at HO
        clear hy
        go_enter Try.func12, Try.ntmps12
        go_wp2_with fail
        refine (HR.out _).mono ?_
        rintro e w1 ⟨rfl, hb1⟩
        obtain ⟨x0, x1, x2, x3, x4⟩ := (HV.out.over hb1).cell
        go_wp2_with fail
        go_ret
        exact ⟨by rw [HO.out]; rfl, HB.out.trans (hb1.mono (by simp))⟩
  · cases r
    · go_enter Try.func12, Try.ntmps12
      go_wp2_with fail
      refine (HR.out _).mono ?_
      rintro e w1 ⟨rfl, hb1⟩
      go_wp2_with fail
      go_ret
      exact ⟨by rw [HO.out]; rfl, HB.out.trans (hb1.mono (by simp))⟩
    · have hx : (decide ((s.size : Int) < 17) = true ∧ decide (s.size ≤ 16) = true) ∨ (decide ((s.size : Int) < 17) = false ∧ decide (s.size ≤ 16) = false) := by
        simp only [decide_eq_true_eq, decide_eq_false_iff_not]; omega
      rcases hx with ⟨hx, hy⟩ | ⟨hx, hy⟩
      all_goals
        rw [hy] at HO
        clear hy
        go_enter Try.func12, Try.ntmps12
        go_wp2_with fail
        refine (HR.out _).mono ?_
        rintro e w1 ⟨rfl, hb1⟩
        obtain ⟨x0, x1, x2, x3, x4⟩ := (HV.out.over hb1).cell
        go_wp2_with fail
        go_ret
        exact ⟨by rw [HO.out]; rfl, HB.out.trans (hb1.mono (by simp))⟩

end Go.Proofs.Ytbboamfjkdcjeaa
