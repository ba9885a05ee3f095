/-
  Contracts of package stamp's functions on validity and order, and of the document's answers for them.
-/
import Derived.Test.YtccieoofjopbkaaDoorStPlain
import Derived.Test.YtccieoofjopbkaaDoorShelf
import Derived.StillTailTactics
namespace Go.Proofs.YtccieoofjopbkaaDoor
open Go.RowKit

set_option maxRecDepth 100000 in
set_option maxHeartbeats 400000 in
theorem within_any (n m : Int) (w : World) : Calls Tryd.prog 28 #[.int .i64 n, .int .i64 m] w fun e w' => e = .returned (.bool (inB n m)) ∧ w' = w := by
  by_cases h : 0 ≤ n
  · by_cases h2 : n ≤ m
    · have HE := Lib.hid (inB_yes ⟨h, h2⟩)
      go_enter Tryd.func28, Tryd.ntmps28
      go_wp2_with fail
      go_ret
      exact ⟨by rw [HE.out]; rfl, rfl⟩
    · have HE := Lib.hid (inB_no (n := n) (m := m) (by omega))
      have h3 : decide (n ≤ m) = false := by simpa using h2
      go_enter Tryd.func28, Tryd.ntmps28
      go_wp2_with fail
      go_ret
      exact ⟨by rw [HE.out]; rfl, rfl⟩
  · have HE := Lib.hid (inB_no (n := n) (m := m) (by omega))
    have h3 : decide (0 ≤ n) = false := by simpa using h
    go_enter Tryd.func28, Tryd.ntmps28
    go_wp2_with fail
    go_ret
    exact ⟨by rw [HE.out]; rfl, rfl⟩

set_option maxRecDepth 100000 in
set_option maxHeartbeats 400000 in
theorem Right_any (a b c : Int) (w : World) : Calls Tryd.prog 15 #[(Go.Value.agg #[Go.Value.int Go.IntKind.i64 a, Go.Value.int Go.IntKind.i64 b, Go.Value.int Go.IntKind.i64 c])] w fun e w' => e = .returned (.bool (rightB a b c)) ∧ Below w.heap.size w w' := by
  have HE : Hid (rightB a b c = (inB a 1099511627776 && (inB b 1048576 && inB c 255))) := rfl
  cases h1 : inB a 1099511627776
  · go_enter Tryd.func15, Tryd.ntmps15
    go_wp2_with (go_at_call 28; refine (within_any _ _ _).mono ?_; rintro e w1 ⟨rfl, rfl⟩)
    go_ret
    exact ⟨by rw [HE.out, h1]; rfl, (Below.refl _ _).alloc (Nat.le_refl _) _⟩
  · cases h2 : inB b 1048576
    · go_enter Tryd.func15, Tryd.ntmps15
      go_wp2_with (go_at_call 28; refine (within_any _ _ _).mono ?_; rintro e w1 ⟨rfl, rfl⟩)
      go_ret
      exact ⟨by rw [HE.out, h1, h2]; rfl, (Below.refl _ _).alloc (Nat.le_refl _) _⟩
    · cases h3 : inB c 255
      all_goals
        go_enter Tryd.func15, Tryd.ntmps15
        go_wp2_with (go_at_call 28; refine (within_any _ _ _).mono ?_; rintro e w1 ⟨rfl, rfl⟩)
        go_ret
        exact ⟨by rw [HE.out, h1, h2, h3]; rfl, (Below.refl _ _).alloc (Nat.le_refl _) _⟩

set_option maxRecDepth 100000 in
set_option maxHeartbeats 400000 in
theorem refRight_any (a b c : Int) (w : World) : Calls Tryd.prog 16 #[(Go.Value.agg #[Go.Value.int Go.IntKind.i64 a, Go.Value.int Go.IntKind.i64 b, Go.Value.int Go.IntKind.i64 c])] w fun e w' => e = .returned (.bool (rightB a b c)) ∧ Below w.heap.size w w' := by
  cases h : rightB a b c
  · have hd : (decide (0 ≤ a) = false) ∨ (decide (0 ≤ a) = true ∧ decide (a ≤ 1099511627776) = false) ∨ (decide (0 ≤ a) = true ∧ decide (a ≤ 1099511627776) = true ∧ decide (0 ≤ b) = false) ∨ (decide (0 ≤ a) = true ∧ decide (a ≤ 1099511627776) = true ∧ decide (0 ≤ b) = true ∧ decide (b ≤ 1048576) = false) ∨ (decide (0 ≤ a) = true ∧ decide (a ≤ 1099511627776) = true ∧ decide (0 ≤ b) = true ∧ decide (b ≤ 1048576) = true ∧ decide (0 ≤ c) = false) ∨ (decide (0 ≤ a) = true ∧ decide (a ≤ 1099511627776) = true ∧ decide (0 ≤ b) = true ∧ decide (b ≤ 1048576) = true ∧ decide (0 ≤ c) = true ∧ decide (c ≤ 255) = false) := by
      simp only [decide_eq_true_eq, decide_eq_false_iff_not]
      simp only [rightB, inB, Bool.and_eq_false_iff, decide_eq_false_iff_not] at h
      omega
    clear h
    rcases hd with h | ⟨h1, h⟩ | ⟨h1, h2, h⟩ | ⟨h1, h2, h3, h⟩ | ⟨h1, h2, h3, h4, h⟩ | ⟨h1, h2, h3, h4, h5, h⟩
    all_goals
      go_enter Tryd.func16, Tryd.ntmps16
      go_wp2_with fail
      go_ret
      exact ⟨rfl, (Below.refl _ _).alloc (Nat.le_refl _) _⟩
  · obtain ⟨⟨h1, h2⟩, ⟨h3, h4⟩, h5, h6⟩ := rightB_true h
    clear h
    go_enter Tryd.func16, Tryd.ntmps16
    go_wp2_with fail
    go_ret
    exact ⟨rfl, (Below.refl _ _).alloc (Nat.le_refl _) _⟩

set_option maxRecDepth 100000 in
set_option maxHeartbeats 400000 in
theorem Before_any (a1 a2 a3 b1 b2 b3 : Int) (w : World) : Calls Tryd.prog 9 #[(Go.Value.agg #[Go.Value.int Go.IntKind.i64 a1, Go.Value.int Go.IntKind.i64 a2, Go.Value.int Go.IntKind.i64 a3]), (Go.Value.agg #[Go.Value.int Go.IntKind.i64 b1, Go.Value.int Go.IntKind.i64 b2, Go.Value.int Go.IntKind.i64 b3])] w fun e w' => e = .returned (.bool (befB a1 a2 a3 b1 b2 b3)) ∧ Below w.heap.size w w' := by
  by_cases h1 : a1 = b1
  · subst h1
    by_cases h2 : a2 = b2
    · subst h2
      have HE : Hid (befB a1 a2 a3 a1 a2 b3 = decide (a3 < b3)) := by show _ = _; simp [befB]
      go_enter Tryd.func9, Tryd.ntmps9
      go_wp2_with fail
      all_goals
        go_ret
        exact ⟨by rw [HE.out]; rfl, ((Below.refl _ _).alloc (Nat.le_refl _) _).alloc (by simp) _⟩
    · have HE : Hid (befB a1 a2 a3 a1 b2 b3 = decide (a2 < b2)) := by show _ = _; simp [befB, h2]
      have hd : (a2 == b2) = false := beq_eq_false_iff_ne.2 h2
      clear h2
      go_enter Tryd.func9, Tryd.ntmps9
      go_wp2_with fail
      all_goals
        go_ret
        exact ⟨by rw [HE.out]; rfl, ((Below.refl _ _).alloc (Nat.le_refl _) _).alloc (by simp) _⟩
  · have HE : Hid (befB a1 a2 a3 b1 b2 b3 = decide (a1 < b1)) := by show _ = _; simp [befB, h1]
    have hd : (a1 == b1) = false := beq_eq_false_iff_ne.2 h1
    clear h1
    go_enter Tryd.func9, Tryd.ntmps9
    go_wp2_with fail
    all_goals
      go_ret
      exact ⟨by rw [HE.out]; rfl, ((Below.refl _ _).alloc (Nat.le_refl _) _).alloc (by simp) _⟩

end Go.Proofs.YtccieoofjopbkaaDoor
