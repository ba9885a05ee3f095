/-
  The contract of chain.rightVersion.
-/
import Derived.Test.YtbboamfjkdcjeaaSmRight
import Derived.Test.YtbboamfjkdcjeaaVrBox
set_option linter.unusedVariables false
namespace Go.Proofs.Ytbboamfjkdcjeaa
open Go.RowKit

theorem empty_of {s : ByteArray} (h : s.size = 0) : s = { data := #[] } := by
  apply ByteArray.ext
  apply Array.eq_empty_of_size_eq_zero
  exact h

set_option maxRecDepth 100000 in
set_option maxHeartbeats 400000 in
theorem rightVersion_any (a b c : Int) (g : Bool) (s : ByteArray) (w : World) : Calls Try.prog 24 #[(Go.Value.agg #[Go.Value.int Go.IntKind.i64 a, Go.Value.int Go.IntKind.i64 b, Go.Value.int Go.IntKind.i64 c, Go.Value.bool g, Go.Value.string s])] w fun e w' => e = .returned (.bool (oneB (a, b, c, g, s))) ∧ Below w.heap.size w w' := by
  obtain ⟨r, hr⟩ : ∃ r, r = rightB a b c := ⟨_, rfl⟩
  have HR : Hid (∀ W, Calls Try.prog 32 #[(Go.Value.agg #[Go.Value.int Go.IntKind.i64 a, Go.Value.int Go.IntKind.i64 b, Go.Value.int Go.IntKind.i64 c])] W fun e w' => e = .returned (.bool r) ∧ Below W.heap.size W w') := fun W => by rw [hr]; exact Right_any a b c W
  have HO : Hid (oneB (a, b, c, g, s) = ((!(g && decide (0 < s.size))) && (r && decide (s.size ≤ 16)))) := by show _ = _; rw [hr]; rfl
  clear hr
  have HV : Hid (VBox (w.alloc (.cells #[.int .i64 a, .int .i64 b, .int .i64 c, .bool g, .string s] 26)) w.heap.size a b c g s) := VBox.new w a b c g s
  have HB : Hid (Below w.heap.size w (w.alloc (.cells #[.int .i64 a, .int .i64 b, .int .i64 c, .bool g, .string s] 26))) := (Below.refl _ _).alloc (Nat.le_refl _) _
  cases r
  · go_enter Try.func24, Try.ntmps24
    go_wp2_with fail
    refine (HR.out _).mono ?_
    rintro e w1 ⟨rfl, hb1⟩
    go_wp2_with fail
    go_ret
    exact ⟨by rw [HO.out]; simp, HB.out.trans (hb1.mono (by simp))⟩
  by_cases h16 : s.size ≤ 16
  · by_cases h0 : s.size = 0
    · obtain rfl := empty_of h0
      clear h16 h0
      go_enter Try.func24, Try.ntmps24
      go_wp2_with fail
      refine (HR.out _).mono ?_
      rintro e w1 ⟨rfl, hb1⟩
      obtain ⟨x0, x1, x2, x3, x4⟩ := (HV.out.over hb1).cell
      go_wp2_with fail
      go_ret
      exact ⟨by rw [HO.out]; cases g <;> rfl, HB.out.trans (hb1.mono (by simp))⟩
    · have e1 : decide ((s.size : Int) ≤ 16) = true := decide_eq_true (by omega)
      have e2 : ¬ s.toList = ({ data := #[] } : ByteArray).toList := fun e => h0 (by rw [list_inj e]; rfl)
      have e3 : s.toList.isEmpty = false := by
        cases h : s.toList.isEmpty
        · rfl
        · exact absurd (show s.toList = ({ data := #[] } : ByteArray).toList by rw [List.isEmpty_iff.1 h, Lib.toList_data]) e2
      have HQ : Hid (decide (0 < s.size) = true ∧ decide (s.size ≤ 16) = true) := ⟨decide_eq_true (by omega), decide_eq_true h16⟩
      have HE2 := Lib.hid e2
      clear h16 h0 e2
      cases g
      all_goals
        go_enter Try.func24, Try.ntmps24
        go_wp2_with fail
        refine (HR.out _).mono ?_
        rintro e w1 ⟨rfl, hb1⟩
        obtain ⟨x0, x1, x2, x3, x4⟩ := (HV.out.over hb1).cell
        go_wp2_with fail
        go_ret
        exact ⟨by rw [HO.out, HQ.out.1, HQ.out.2]; rfl, HB.out.trans (hb1.mono (by simp))⟩
  · have e1 : decide ((s.size : Int) ≤ 16) = false := decide_eq_false (by omega)
    have HQ : Hid (decide (s.size ≤ 16) = false) := decide_eq_false h16
    clear h16
    go_enter Try.func24, Try.ntmps24
    go_wp2_with fail
    refine (HR.out _).mono ?_
    rintro e w1 ⟨rfl, hb1⟩
    obtain ⟨x0, x1, x2, x3, x4⟩ := (HV.out.over hb1).cell
    go_wp2_with fail
    go_ret
    exact ⟨by rw [HO.out, HQ.out]; simp, HB.out.trans (hb1.mono (by simp))⟩

end Go.Proofs.Ytbboamfjkdcjeaa
