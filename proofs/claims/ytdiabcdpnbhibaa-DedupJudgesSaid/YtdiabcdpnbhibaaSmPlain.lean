/-
  Plain facts on stamps: triples of numbers, which are valid, their order. No program, no walk.
-/
import Derived.Test.YtdiabcdpnbhibaaBase
import Derived.Lib.Small
set_option linter.unusedVariables false
namespace Go.Proofs.Ytdiabcdpnbhibaa
open Go.RowKit

/-- From 0 to m. -/
def inB (n m : Int) : Bool := decide (0 ≤ n ∧ n ≤ m)
theorem inB_true {n m : Int} (h : inB n m = true) : 0 ≤ n ∧ n ≤ m := by simpa [inB] using h
theorem inB_false {n m : Int} (h : inB n m = false) : ¬ (0 ≤ n ∧ n ≤ m) := by simpa only [inB, decide_eq_false_iff_not] using h
theorem inB_yes {n m : Int} (h : 0 ≤ n ∧ n ≤ m) : inB n m = true := by simpa [inB] using h
theorem inB_no {n m : Int} (h : ¬ (0 ≤ n ∧ n ≤ m)) : inB n m = false := by simpa only [inB, decide_eq_false_iff_not] using h
/-- Is the stamp valid? -/
def rightB (a b c : Int) : Bool := inB a 1099511627776 && (inB b 1048576 && inB c 255)
theorem rightB_true {a b c : Int} (h : rightB a b c = true) : (0 ≤ a ∧ a ≤ 1099511627776) ∧ (0 ≤ b ∧ b ≤ 1048576) ∧ (0 ≤ c ∧ c ≤ 255) := by
  simp only [rightB, Bool.and_eq_true] at h
  exact ⟨inB_true h.1, inB_true h.2.1, inB_true h.2.2⟩
theorem rightB_yes {a b c : Int} (h1 : 0 ≤ a ∧ a ≤ 1099511627776) (h2 : 0 ≤ b ∧ b ≤ 1048576) (h3 : 0 ≤ c ∧ c ≤ 255) : rightB a b c = true := by
  simp only [rightB, Bool.and_eq_true]
  exact ⟨inB_yes h1, inB_yes h2, inB_yes h3⟩
/-- Does one stand ahead of another? -/
def befB (a1 a2 a3 b1 b2 b3 : Int) : Bool := if a1 = b1 then (if a2 = b2 then decide (a3 < b3) else decide (a2 < b2)) else decide (a1 < b1)
/-- -1, 0, 1. -/
def cmpI (a1 a2 a3 b1 b2 b3 : Int) : Int := if befB a1 a2 a3 b1 b2 b3 then -1 else if befB b1 b2 b3 a1 a2 a3 then 1 else 0
/-- The first that is not zero. -/
def orI (x y z : Int) : Int := if x = 0 then (if y = 0 then z else y) else x
theorem or_cmp (a1 a2 a3 b1 b2 b3 : Int) : orI (Lib.compareInt a1 b1) (Lib.compareInt a2 b2) (Lib.compareInt a3 b3) = cmpI a1 a2 a3 b1 b2 b3 := by
  unfold cmpI befB orI Lib.compareInt
  have key : ∀ p q : Int, (p < q ∧ ¬ p = q ∧ ¬ q = p ∧ ¬ q < p) ∨ (p = q) ∨ (q < p ∧ ¬ p = q ∧ ¬ q = p ∧ ¬ p < q) := fun p q => by omega
  rcases key a1 b1 with ⟨h1, h2, h3, h4⟩ | rfl | ⟨h1, h2, h3, h4⟩ <;> rcases key a2 b2 with ⟨k1, k2, k3, k4⟩ | rfl | ⟨k1, k2, k3, k4⟩ <;> rcases key a3 b3 with ⟨m1, m2, m3, m4⟩ | rfl | ⟨m1, m2, m3, m4⟩ <;> clear key <;> simp [*]
theorem bef_asym {a1 a2 a3 b1 b2 b3 : Int} (h : befB a1 a2 a3 b1 b2 b3 = true) : befB b1 b2 b3 a1 a2 a3 = false := by
  unfold befB at *
  revert h
  (repeat' split) <;> simp <;> omega
theorem bef_total {a1 a2 a3 b1 b2 b3 : Int} (h : befB a1 a2 a3 b1 b2 b3 = false) (h2 : befB b1 b2 b3 a1 a2 a3 = false) : a1 = b1 ∧ a2 = b2 ∧ a3 = b3 := by
  unfold befB at *
  revert h h2
  (repeat' split) <;> simp <;> omega
theorem bef_irr (a1 a2 a3 : Int) : befB a1 a2 a3 a1 a2 a3 = false := by
  unfold befB; simp
theorem cmp_neg (a1 a2 a3 b1 b2 b3 : Int) : cmpI b1 b2 b3 a1 a2 a3 = - cmpI a1 a2 a3 b1 b2 b3 := by
  unfold cmpI
  cases h : befB a1 a2 a3 b1 b2 b3 <;> cases h2 : befB b1 b2 b3 a1 a2 a3 <;> simp
  have := bef_asym h
  rw [h2] at this; cases this
theorem cmp_cases (a1 a2 a3 b1 b2 b3 : Int) : (befB a1 a2 a3 b1 b2 b3 = true ∧ befB b1 b2 b3 a1 a2 a3 = false ∧ cmpI a1 a2 a3 b1 b2 b3 = -1) ∨ (befB a1 a2 a3 b1 b2 b3 = false ∧ befB b1 b2 b3 a1 a2 a3 = true ∧ cmpI a1 a2 a3 b1 b2 b3 = 1) ∨ (befB a1 a2 a3 b1 b2 b3 = false ∧ befB b1 b2 b3 a1 a2 a3 = false ∧ cmpI a1 a2 a3 b1 b2 b3 = 0 ∧ a1 = b1 ∧ a2 = b2 ∧ a3 = b3) := by
  cases h : befB a1 a2 a3 b1 b2 b3 <;> cases h2 : befB b1 b2 b3 a1 a2 a3
  · exact .inr (.inr ⟨rfl, rfl, by unfold cmpI; rw [h, h2]; simp, bef_total h h2⟩)
  · exact .inr (.inl ⟨rfl, rfl, by unfold cmpI; rw [h, h2]; simp⟩)
  · exact .inl ⟨rfl, rfl, by unfold cmpI; rw [h]; simp⟩
  · have := bef_asym h
    rw [h2] at this; cases this
theorem cmp_bd (a1 a2 a3 b1 b2 b3 : Int) : -1 ≤ cmpI a1 a2 a3 b1 b2 b3 ∧ cmpI a1 a2 a3 b1 b2 b3 ≤ 1 := by
  rcases cmp_cases a1 a2 a3 b1 b2 b3 with ⟨_, _, h⟩ | ⟨_, _, h⟩ | ⟨_, _, h, _⟩ <;> omega

end Go.Proofs.Ytdiabcdpnbhibaa
