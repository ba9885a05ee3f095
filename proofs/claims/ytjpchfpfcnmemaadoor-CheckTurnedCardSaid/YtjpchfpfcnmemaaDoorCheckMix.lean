/-
  Four bytes next to one another, turned: the list behind k turns, and what it is behind all four. Plain facts, no program.
-/
import Derived.Test.YtjpchfpfcnmemaaDoorCheckTab
namespace Go.Proofs.YtjpchfpfcnmemaaDoor.Ck

/-- The bytes of l, of which the k from a on are turned by what y says. -/
def mix (y : Nat → UInt8) (a k : Nat) (l : List UInt8) : List UInt8 := (List.range l.length).map fun i => if a ≤ i ∧ i < a + k then l.getD i 0 ^^^ y (i - a) else l.getD i 0
theorem mix_length (y : Nat → UInt8) (a k : Nat) (l : List UInt8) : (mix y a k l).length = l.length := by simp [mix]
theorem mix_at (y : Nat → UInt8) (a k : Nat) (l : List UInt8) (i : Nat) (h : i < l.length) : (mix y a k l).getD i 0 = if a ≤ i ∧ i < a + k then l.getD i 0 ^^^ y (i - a) else l.getD i 0 := by
  simp [mix, List.getD, h]
theorem mix_here (y : Nat → UInt8) (a k : Nat) (l : List UInt8) (h : a + k < l.length) : (mix y a (k + 1) l).getD (a + k) 0 = (mix y a k l).getD (a + k) 0 ^^^ y k := by
  rw [mix_at _ _ _ _ _ h, mix_at _ _ _ _ _ h, if_pos (by omega), if_neg (by omega)]
  congr 2
  omega
theorem mix_else (y : Nat → UInt8) (a k : Nat) (l : List UInt8) (i : Nat) (h : i < l.length) (hne : i ≠ a + k) : (mix y a (k + 1) l).getD i 0 = (mix y a k l).getD i 0 := by
  rw [mix_at _ _ _ _ _ h, mix_at _ _ _ _ _ h]
  by_cases h2 : a ≤ i ∧ i < a + k
  · rw [if_pos h2, if_pos (by omega)]
  · rw [if_neg h2, if_neg (by omega)]

theorem getD_ext {l m : List UInt8} (h : l.length = m.length) (h2 : ∀ i, i < l.length → l.getD i 0 = m.getD i 0) : l = m := by
  apply List.ext_getElem h
  intro i h3 h4
  have := h2 i h3
  simpa [List.getD, h3, h4] using this
theorem mix_same (y : Nat → UInt8) (a : Nat) (l : List UInt8) : mix y a 0 l = l := by
  apply getD_ext (mix_length _ _ _ _)
  intro i hi
  rw [mix_length] at hi
  rw [mix_at _ _ _ _ _ hi, if_neg (by omega)]
theorem three (a : Nat) (l : List UInt8) : l = l.take a ++ (l.drop a).take 4 ++ l.drop (a + 4) := by
  have h1 := List.take_append_drop a l
  have h2 := List.take_append_drop 4 (l.drop a)
  rw [List.drop_drop] at h2
  rw [List.append_assoc, h2, h1]
theorem mix_front (y : Nat → UInt8) (a k : Nat) (l : List UInt8) : (mix y a k l).take a = l.take a := by
  apply getD_ext
  · simp [mix_length]
  · intro i hi
    simp [mix_length] at hi
    have h1 : i < a := by omega
    have := mix_at y a k l i (by omega)
    rw [if_neg (by omega)] at this
    simp only [List.getD, List.getElem?_take] at this ⊢
    rw [if_pos h1, if_pos h1]
    exact this
theorem mix_back (y : Nat → UInt8) (a : Nat) (l : List UInt8) : (mix y a 4 l).drop (a + 4) = l.drop (a + 4) := by
  apply getD_ext
  · simp [mix_length]
  · intro i hi
    simp [mix_length] at hi
    have := mix_at y a 4 l (a + 4 + i) (by omega)
    rw [if_neg (by omega)] at this
    simpa [List.getD, List.getElem?_drop] using this
theorem xor_self_iff (x y : UInt8) : x ^^^ y = x ↔ y = 0 := by
  constructor
  · intro h
    have h2 : x ^^^ (x ^^^ y) = x ^^^ x := by rw [h]
    simpa [← UInt8.xor_assoc] using h2
  · rintro rfl; simp
theorem mix_zero (y : Nat → UInt8) (a : Nat) (l : List UInt8) (hy : ∀ i, i < 4 → y i = 0) : mix y a 4 l = l := by
  apply getD_ext (mix_length _ _ _ _)
  intro i hi
  rw [mix_length] at hi
  rw [mix_at _ _ _ _ _ hi]
  by_cases h : a ≤ i ∧ i < a + 4
  · rw [if_pos h, hy _ (by omega)]; simp
  · rw [if_neg h]
/-- Turned in at least one place, the register is another. -/
theorem mix_reg (y : Nat → UInt8) (a : Nat) (l : List UInt8) (ha : a + 4 ≤ l.length) (j : Nat) (hj : j < 4) (hy : y j ≠ 0) : reg (mix y a 4 l) ≠ reg l := by
  rw [three a (mix y a 4 l), mix_front, mix_back]
  conv => rhs; rw [three a l]
  refine burst _ _ _ _ ?_ ?_ ?_
  · simp [mix_length]
  · simp; omega
  · intro h
    have h1 := congrArg (fun m => m.getD j 0) h
    have h2 := mix_at y a 4 l (a + j) (by omega)
    rw [if_pos (by omega)] at h2
    simp only [List.getD, List.getElem?_take, List.getElem?_drop, hj, if_true] at h1 h2
    rw [h2] at h1
    have e : a + j - a = j := by omega
    rw [e] at h1
    exact hy ((xor_self_iff _ _).1 h1)

end Go.Proofs.YtjpchfpfcnmemaaDoor.Ck
