/-
  Plain facts on clocks: what the next stamp is, what a clock is behind a stamp that it hears. No program, no walk.
-/
import Derived.Test.YtffmannejfmcgaaSmPlain
set_option linter.unusedVariables false
namespace Go.Proofs.Ytffmannejfmcgaa
open Go.RowKit

/-- The next stamp, and the error's number. -/
def nowV (a b c w : Int) : Int × Int × Int × Int :=
  if rightB a b c = true ∧ inB w 1099511627776 = true then (if a < w then (w, 0, c, 0) else if b = 1048576 then (0, 0, 0, 6) else (a, b + 1, c, 0)) else (0, 0, 0, 1)
theorem now_r {a b c : Int} (w : Int) (h : rightB a b c = false) : nowV a b c w = (0, 0, 0, 1) := by unfold nowV; rw [if_neg (by rw [h]; simp)]
theorem now_w (a b c : Int) {w : Int} (h : inB w 1099511627776 = false) : nowV a b c w = (0, 0, 0, 1) := by unfold nowV; rw [if_neg (by rw [h]; simp)]
theorem now_up {a b c w : Int} (h : rightB a b c = true) (h2 : inB w 1099511627776 = true) (h3 : a < w) : nowV a b c w = (w, 0, c, 0) := by unfold nowV; rw [if_pos ⟨h, h2⟩, if_pos h3]
theorem now_full {a b c w : Int} (h : rightB a b c = true) (h2 : inB w 1099511627776 = true) (h3 : ¬ a < w) (h4 : b = 1048576) : nowV a b c w = (0, 0, 0, 6) := by unfold nowV; rw [if_pos ⟨h, h2⟩, if_neg h3, if_pos h4]
theorem now_tick {a b c w : Int} (h : rightB a b c = true) (h2 : inB w 1099511627776 = true) (h3 : ¬ a < w) (h4 : ¬ b = 1048576) : nowV a b c w = (a, b + 1, c, 0) := by unfold nowV; rw [if_pos ⟨h, h2⟩, if_neg h3, if_neg h4]
/-- Either refused with a zero stamp, or valid, later by Wall and Tick, of the same node. -/
theorem now_cases {a b c w x y z e : Int} (h : nowV a b c w = (x, y, z, e)) : ((e = 1 ∨ e = 6) ∧ x = 0 ∧ y = 0 ∧ z = 0) ∨ (e = 0 ∧ rightB a b c = true ∧ rightB x y z = true ∧ z = c ∧ (a < x ∨ (a = x ∧ b < y))) := by
  cases h1 : rightB a b c
  · rw [now_r _ h1] at h; cases h; exact .inl ⟨.inl rfl, rfl, rfl, rfl⟩
  cases h2 : inB w 1099511627776
  · rw [now_w _ _ _ h2] at h; cases h; exact .inl ⟨.inl rfl, rfl, rfl, rfl⟩
  have g1 := rightB_true h1
  have g2 := inB_true h2
  by_cases h3 : a < w
  · rw [now_up h1 h2 h3] at h; cases h; exact .inr ⟨rfl, rfl, rightB_yes (by omega) (by omega) (by omega), rfl, by omega⟩
  by_cases h4 : b = 1048576
  · rw [now_full h1 h2 h3 h4] at h; cases h; exact .inl ⟨.inr rfl, rfl, rfl, rfl⟩
  · rw [now_tick h1 h2 h3 h4] at h; cases h; exact .inr ⟨rfl, rfl, rightB_yes (by omega) (by omega) (by omega), rfl, by omega⟩
/-- A stamp raised to another's moment. -/
def raiseV (a b c x y : Int) : Int × Int × Int := if a < x ∨ (a = x ∧ b < y) then (x, y, c) else (a, b, c)
theorem raise_yes {a b x y : Int} (c : Int) (h : a < x ∨ (a = x ∧ b < y)) : raiseV a b c x y = (x, y, c) := by unfold raiseV; rw [if_pos h]
theorem raise_no {a b x y : Int} (c : Int) (h : ¬ (a < x ∨ (a = x ∧ b < y))) : raiseV a b c x y = (a, b, c) := by unfold raiseV; rw [if_neg h]
theorem cmp_node (a b c x y : Int) : (0 < cmpI a b c x y c ∧ raiseV a b c x y = (a, b, c)) ∨ (¬ 0 < cmpI a b c x y c ∧ raiseV a b c x y = (x, y, c)) := by
  unfold cmpI befB raiseV
  have key : ∀ p q : Int, (p < q ∧ ¬ p = q ∧ ¬ q = p ∧ ¬ q < p) ∨ (p = q) ∨ (q < p ∧ ¬ p = q ∧ ¬ q = p ∧ ¬ p < q) := fun p q => by omega
  rcases key a x with ⟨h1, h2, h3, h4⟩ | rfl | ⟨h1, h2, h3, h4⟩ <;> rcases key b y with ⟨k1, k2, k3, k4⟩ | rfl | ⟨k1, k2, k3, k4⟩ <;> clear key <;> simp [*]
theorem raise_right {a b c x y z : Int} (h : rightB a b c = true) (h2 : rightB x y z = true) {p q r : Int} (h3 : raiseV a b c x y = (p, q, r)) : rightB p q r = true ∧ r = c ∧ ¬ (p < a ∨ (p = a ∧ q < b)) ∧ ¬ (p < x ∨ (p = x ∧ q < y)) ∧ ((p = a ∧ q = b) ∨ (p = x ∧ q = y)) := by
  have g1 := rightB_true h
  have g2 := rightB_true h2
  by_cases h4 : a < x ∨ (a = x ∧ b < y)
  · rw [raise_yes c h4] at h3; cases h3; exact ⟨rightB_yes (by omega) (by omega) (by omega), rfl, by omega, by omega, by omega⟩
  · rw [raise_no c h4] at h3; cases h3; exact ⟨h, rfl, by omega, by omega, by omega⟩
/-- The clock behind a stamp, and the error's number. -/
def hearV (a b c w x y z : Int) : Int × Int × Int × Int :=
  if rightB a b c = true ∧ inB w 1099511627776 = true ∧ rightB x y z = true then (if x > w + 1000 then (0, 0, 0, 12) else ((raiseV a b c x y).1, (raiseV a b c x y).2.1, (raiseV a b c x y).2.2, 0)) else (0, 0, 0, 1)
theorem hear_r {a b c : Int} (w x y z : Int) (h : rightB a b c = false) : hearV a b c w x y z = (0, 0, 0, 1) := by unfold hearV; rw [if_neg (by rw [h]; simp)]
theorem hear_w (a b c : Int) {w : Int} (x y z : Int) (h : inB w 1099511627776 = false) : hearV a b c w x y z = (0, 0, 0, 1) := by unfold hearV; rw [if_neg (by rw [h]; simp)]
theorem hear_s (a b c w : Int) {x y z : Int} (h : rightB x y z = false) : hearV a b c w x y z = (0, 0, 0, 1) := by unfold hearV; rw [if_neg (by rw [h]; simp)]
theorem hear_far {a b c w x y z : Int} (h : rightB a b c = true) (h2 : inB w 1099511627776 = true) (h3 : rightB x y z = true) (h4 : x > w + 1000) : hearV a b c w x y z = (0, 0, 0, 12) := by unfold hearV; rw [if_pos ⟨h, h2, h3⟩, if_pos h4]
theorem hear_ok {a b c w x y z p q r : Int} (h : rightB a b c = true) (h2 : inB w 1099511627776 = true) (h3 : rightB x y z = true) (h4 : ¬ x > w + 1000) (h5 : raiseV a b c x y = (p, q, r)) : hearV a b c w x y z = (p, q, r, 0) := by unfold hearV; rw [if_pos ⟨h, h2, h3⟩, if_neg h4, h5]
theorem hear_cases {a b c w x y z p q r e : Int} (h : hearV a b c w x y z = (p, q, r, e)) : ((e = 1 ∨ e = 12) ∧ p = 0 ∧ q = 0 ∧ r = 0) ∨ (e = 0 ∧ rightB a b c = true ∧ inB w 1099511627776 = true ∧ rightB x y z = true ∧ x ≤ w + 1000 ∧ raiseV a b c x y = (p, q, r)) := by
  cases h1 : rightB a b c
  · rw [hear_r _ _ _ _ h1] at h; cases h; exact .inl ⟨.inl rfl, rfl, rfl, rfl⟩
  cases h2 : inB w 1099511627776
  · rw [hear_w _ _ _ _ _ _ h2] at h; cases h; exact .inl ⟨.inl rfl, rfl, rfl, rfl⟩
  cases h3 : rightB x y z
  · rw [hear_s _ _ _ _ h3] at h; cases h; exact .inl ⟨.inl rfl, rfl, rfl, rfl⟩
  by_cases h4 : x > w + 1000
  · rw [hear_far h1 h2 h3 h4] at h; cases h; exact .inl ⟨.inr rfl, rfl, rfl, rfl⟩
  · obtain ⟨p', q', r', h5⟩ : ∃ p q r, raiseV a b c x y = (p, q, r) := ⟨_, _, _, rfl⟩
    rw [hear_ok h1 h2 h3 h4 h5] at h; cases h; exact .inr ⟨rfl, rfl, rfl, rfl, by omega, h5⟩

/-- Raise, as a whole. -/
def raiseF (a b c x y z : Int) : Int × Int × Int × Int := if rightB a b c = true ∧ rightB x y z = true then ((raiseV a b c x y).1, (raiseV a b c x y).2.1, (raiseV a b c x y).2.2, 0) else (0, 0, 0, 1)
theorem raiseF_cases {a b c x y z p q r e : Int} (h : raiseF a b c x y z = (p, q, r, e)) : (e = 1 ∧ p = 0 ∧ q = 0 ∧ r = 0 ∧ (rightB a b c = false ∨ rightB x y z = false)) ∨ (e = 0 ∧ rightB a b c = true ∧ rightB x y z = true ∧ raiseV a b c x y = (p, q, r)) := by
  unfold raiseF at h
  split at h
  · rename_i h1; cases h; exact .inr ⟨rfl, h1.1, h1.2, rfl⟩
  · rename_i h1; cases h
    refine .inl ⟨rfl, rfl, rfl, rfl, ?_⟩
    cases h2 : rightB a b c
    · exact .inl rfl
    · cases h3 : rightB x y z
      · exact .inr rfl
      · exact absurd ⟨h2, h3⟩ h1
/-- Two stamps raised to in either order, and one of them again: the same. -/
theorem joins {a b c x1 y1 z1 x2 y2 z2 p q r p' q' r' s t u s' t' u' m n o e f g h i : Int}
    (k1 : raiseF a b c x1 y1 z1 = (p, q, r, e)) (k2 : raiseF p q r x2 y2 z2 = (p', q', r', f)) (k3 : raiseF a b c x2 y2 z2 = (s, t, u, g)) (k4 : raiseF s t u x1 y1 z1 = (s', t', u', h)) (k5 : raiseF p' q' r' x1 y1 z1 = (m, n, o, i)) :
    (e = 1 ∨ (e = 0 ∧ f = 1) ∨ (e = 0 ∧ f = 0 ∧ g = 1) ∨ (e = 0 ∧ f = 0 ∧ g = 0 ∧ h = 1)) ∨ (e = 0 ∧ f = 0 ∧ g = 0 ∧ h = 0 ∧ i = 0 ∧ s' = p' ∧ t' = q' ∧ u' = r' ∧ m = p' ∧ n = q' ∧ o = r') := by
  rcases raiseF_cases k1 with ⟨rfl, _⟩ | ⟨rfl, a1, a2, a3⟩
  · exact .inl (.inl rfl)
  rcases raiseF_cases k2 with ⟨rfl, _⟩ | ⟨rfl, b1, b2, b3⟩
  · exact .inl (.inr (.inl ⟨rfl, rfl⟩))
  rcases raiseF_cases k3 with ⟨rfl, _⟩ | ⟨rfl, c1, c2, c3⟩
  · exact .inl (.inr (.inr (.inl ⟨rfl, rfl, rfl⟩)))
  rcases raiseF_cases k4 with ⟨rfl, _⟩ | ⟨rfl, d1, d2, d3⟩
  · exact .inl (.inr (.inr (.inr ⟨rfl, rfl, rfl, rfl⟩)))
  rcases raiseF_cases k5 with ⟨rfl, _, _, _, h5⟩ | ⟨rfl, e1, e2, e3⟩
  · rw [(raise_right b1 b2 b3).1, a2] at h5
    rcases h5 with h5 | h5 <;> cases h5
  · refine .inr ⟨rfl, rfl, rfl, rfl, rfl, ?_⟩
    obtain ⟨_, g1, g2, g3, g4⟩ := raise_right a1 a2 a3
    obtain ⟨_, g5, g6, g7, g8⟩ := raise_right b1 b2 b3
    obtain ⟨_, g9, g10, g11, g12⟩ := raise_right c1 c2 c3
    obtain ⟨_, g13, g14, g15, g16⟩ := raise_right d1 d2 d3
    obtain ⟨_, g17, g18, g19, g20⟩ := raise_right e1 e2 e3
    omega

end Go.Proofs.Ytffmannejfmcgaa
