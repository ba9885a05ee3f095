/-
  The contract of the document's Judge.
-/
import Derived.Test.YtdiabcdpnbhibaaDdRefRow
set_option linter.unusedVariables false
namespace Go.Proofs.Ytdiabcdpnbhibaa
open Go.RowKit

/-! ### Judge -/
/-- How a request stands. -/
def judT (l : List Dn) (c r : Int) : Int := if rightT l && (numB c && numB r) then (if reqT l c < r then 1 else if r = reqT l c then 2 else 3) else 0
set_option maxRecDepth 100000 in
set_option maxHeartbeats 1000000 in
theorem refJudge_any {w : World} {v : Value} {l : List Dn} (h : Tab w v l) (c r : Int) : Calls Try.prog 13 #[v, .int .i64 c, .int .i64 r] w fun e w' => e = .returned (.int .i64 (judT l c r)) ∧ Below w.heap.size w w' := by
  obtain ⟨g1, hg1⟩ : ∃ g, g = rightT l := ⟨_, rfl⟩
  obtain ⟨g2, hg2⟩ : ∃ g, g = numB c := ⟨_, rfl⟩
  obtain ⟨g3, hg3⟩ : ∃ g, g = numB r := ⟨_, rfl⟩
  obtain ⟨q, hq⟩ : ∃ q, q = reqT l c := ⟨_, rfl⟩
  have H1 : Hid (Calls Try.prog 10 #[v] w fun e w' => e = .returned (.bool g1) ∧ Below w.heap.size w w') := by rw [hg1]; exact refTRight_any h
  have H2 : Hid (∀ W, Calls Try.prog 21 #[.int .i64 c] W fun e w' => e = .returned (.bool g2) ∧ w' = W) := fun W => by rw [hg2]; exact refNum_any c W
  have H3 : Hid (∀ W, Calls Try.prog 21 #[.int .i64 r] W fun e w' => e = .returned (.bool g3) ∧ w' = W) := fun W => by rw [hg3]; exact refNum_any r W
  have H4 : Hid (∀ W, Below w.heap.size w W → Calls Try.prog 25 #[v, .int .i64 c] W fun e w' => e = .returned (.int .i64 q) ∧ w' = W) := fun W hW => by rw [hq]; exact refReq_any (h.next hW) c
  have HJ : Hid (judT l c r = if g1 && (g2 && g3) then (if q < r then 1 else if r = q then 2 else 3) else 0) := by show _ = _; rw [hg1, hg2, hg3, hq]; rfl
  clear hg1 hg2 hg3 hq h
  cases g1
  · go_enter Try.func13, Try.ntmps13
    go_wp2_with fail
    refine H1.out.mono ?_
    rintro e w1 ⟨rfl, hb1⟩
    go_wp2_with fail
    go_ret
    exact ⟨by rw [HJ.out]; rfl, hb1⟩
  cases g2
  · go_enter Try.func13, Try.ntmps13
    go_wp2_with fail
    refine H1.out.mono ?_
    rintro e w1 ⟨rfl, hb1⟩
    go_wp2_with fail
    refine (H2.out _).mono ?_
    rintro e w2 ⟨rfl, rfl⟩
    go_wp2_with fail
    go_ret
    exact ⟨by rw [HJ.out]; rfl, hb1⟩
  cases g3
  · go_enter Try.func13, Try.ntmps13
    go_wp2_with fail
    refine H1.out.mono ?_
    rintro e w1 ⟨rfl, hb1⟩
    go_wp2_with fail
    refine (H2.out _).mono ?_
    rintro e w2 ⟨rfl, rfl⟩
    go_wp2_with fail
    refine (H3.out _).mono ?_
    rintro e w2 ⟨rfl, rfl⟩
    go_wp2_with fail
    go_ret
    exact ⟨by rw [HJ.out]; rfl, hb1⟩
  by_cases hlt : q < r
  · have HJ2 : Hid (judT l c r = 1) := by show _ = _; rw [HJ.out]; simp [hlt]
    have d1 : decide (q < r) = true := decide_eq_true hlt
    go_enter Try.func13, Try.ntmps13
    go_wp2_with fail
    refine H1.out.mono ?_
    rintro e w1 ⟨rfl, hb1⟩
    have HB := Lib.hid hb1
    clear hb1
    go_wp2_with fail
    refine (H2.out _).mono ?_
    rintro e w2 ⟨rfl, rfl⟩
    go_wp2_with fail
    refine (H3.out _).mono ?_
    rintro e w2 ⟨rfl, rfl⟩
    go_wp2_with fail
    refine (H4.out _ HB.out).mono ?_
    rintro e w2 ⟨rfl, rfl⟩
    go_wp2_with fail
    go_ret
    exact ⟨by rw [HJ2.out]; rfl, HB.out⟩
  have d1 : decide (q < r) = false := decide_eq_false hlt
  by_cases heq : r = q
  · have HJ2 : Hid (judT l c r = 2) := by show _ = _; rw [HJ.out]; simp [heq]
    subst heq
    go_enter Try.func13, Try.ntmps13
    go_wp2_with fail
    refine H1.out.mono ?_
    rintro e w1 ⟨rfl, hb1⟩
    have HB := Lib.hid hb1
    clear hb1
    go_wp2_with fail
    refine (H2.out _).mono ?_
    rintro e w2 ⟨rfl, rfl⟩
    go_wp2_with fail
    refine (H3.out _).mono ?_
    rintro e w2 ⟨rfl, rfl⟩
    go_wp2_with fail
    refine (H4.out _ HB.out).mono ?_
    rintro e w2 ⟨rfl, rfl⟩
    go_wp2_with fail
    go_ret
    exact ⟨by rw [HJ2.out]; rfl, HB.out⟩
  · have HJ2 : Hid (judT l c r = 3) := by show _ = _; rw [HJ.out]; simp [hlt, heq]
    have d2 : (r == q) = false := beq_eq_false_iff_ne.2 heq
    go_enter Try.func13, Try.ntmps13
    go_wp2_with fail
    refine H1.out.mono ?_
    rintro e w1 ⟨rfl, hb1⟩
    have HB := Lib.hid hb1
    clear hb1
    go_wp2_with fail
    refine (H2.out _).mono ?_
    rintro e w2 ⟨rfl, rfl⟩
    go_wp2_with fail
    refine (H3.out _).mono ?_
    rintro e w2 ⟨rfl, rfl⟩
    go_wp2_with fail
    refine (H4.out _ HB.out).mono ?_
    rintro e w2 ⟨rfl, rfl⟩
    go_wp2_with fail
    go_ret
    exact ⟨by rw [HJ2.out]; rfl, HB.out⟩

end Go.Proofs.Ytdiabcdpnbhibaa
