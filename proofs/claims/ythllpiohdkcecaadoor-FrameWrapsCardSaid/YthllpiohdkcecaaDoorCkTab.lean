/-
  Four steps of the register at once, off a table of sixteen numbers. Plain facts, no program.
-/
import Derived.Test.YthllpiohdkcecaaDoorCkPlain
namespace Go.Proofs.YthllpiohdkcecaaDoor.Ck

/-- What sixteen registers of four bits come to behind four steps. -/
def tabs : List Nat := [0, 274646895, 549293790, 820201905, 1098587580, 1361435347, 1640403810, 1905808397, 2197175160, 2460548119, 2722870694, 2987750089, 3280807620, 3553878443, 3811616794, 4084100981]
def tab (i : Nat) : Nat := tabs.getD i 0
theorem tab_lt {i : Nat} (h : i < 16) : tab i < 4294967296 := by
  have : ∀ i < 16, tab i < 4294967296 := by decide
  exact this i h
theorem tab_run {i : Nat} (h : i < 16) : run i (List.replicate 4 false) = tab i := by
  have : ∀ i < 16, run i (List.replicate 4 false) = tab i := by decide
  exact this i h

/-- Four steps. -/
def step4 (r : Nat) : Nat := (r / 16) ^^^ tab (r % 16)
theorem bits4_zero (k : Nat) : bitsOf 4 (k * 16) = List.replicate 4 false := by
  have e0 : k * 16 % 2 = 0 := by omega
  have e1 : k * 16 / 2 % 2 = 0 := by omega
  have e2 : k * 16 / 2 / 2 % 2 = 0 := by omega
  have e3 : k * 16 / 2 / 2 / 2 % 2 = 0 := by omega
  simp [bitsOf, e0, e1, e2, e3, List.replicate]
theorem low_high (r : Nat) : (r % 16) ^^^ (r / 16 * 16) = r := by
  have h1 : r / 16 * 16 + r % 16 = (r / 16 * 16) ^^^ (r % 16) := by
    have h2 : r / 16 * 16 = 2 ^ 4 * (r / 16) := by omega
    rw [h2, Nat.two_pow_add_eq_or_of_lt (by omega : r % 16 < 2 ^ 4)]
    apply Nat.eq_of_testBit_eq
    intro i
    rw [Nat.testBit_or, Nat.testBit_xor]
    by_cases hi : i < 4
    · have : (2 ^ 4 * (r / 16)).testBit i = false := by rw [Nat.testBit_two_pow_mul]; simp; omega
      rw [this]; simp
    · have : (r % 16).testBit i = false := by
        apply Nat.testBit_lt_two_pow
        exact Nat.lt_of_lt_of_le (by omega : r % 16 < 2 ^ 4) (Nat.pow_le_pow_right (by omega) (by omega))
      rw [this]; simp
  rw [Nat.xor_comm, ← h1]; omega
theorem step4_run (r : Nat) : step4 r = run r (List.replicate 4 false) := by
  have h := run_xor 4 (r % 16) (r / 16 * 16)
  rw [low_high, bits4_zero, tab_run (Nat.mod_lt _ (by omega))] at h
  rw [h]
  unfold step4
  rw [Nat.xor_comm]
  congr 1
  omega
theorem step4_lt {r : Nat} (h : r < 4294967296) : step4 r < 4294967296 := by rw [step4_run]; exact run_lt _ _ h
theorem step4_twice {c b : Nat} (hb : b < 256) : step4 (step4 (c ^^^ b)) = run c (bitsOf 8 b) := by
  rw [step4_run, step4_run, ← run_append, ← run_byte c b hb]
  rfl
theorem byte_xor_lt {c b : Nat} (hc : c < 4294967296) (hb : b < 256) : c ^^^ b < 4294967296 := by
  have h2 : (4294967296 : Nat) = 2 ^ 32 := by decide
  rw [h2] at hc ⊢
  exact Nat.xor_lt_two_pow hc (by omega)
theorem reg_next (l : List UInt8) (b : UInt8) : reg (l ++ [b]) = step4 (step4 (reg l ^^^ b.toNat)) := by
  rw [reg_snoc, step4_twice b.toNat_lt]

/-- One bit more. -/
theorem bitsOf_snoc (k v : Nat) : bitsOf (k + 1) v = bitsOf k v ++ [v / 2 ^ k % 2 == 1] := by
  rw [bitsOf_add k 1 v]
  rfl
theorem run_snoc (s : Nat) (l : List Bool) (b : Bool) : run s (l ++ [b]) = step (run s l) b := by rw [run_append]; rfl
theorem run_bit (s k v : Nat) : run s (bitsOf (k + 1) v) = step (run s (bitsOf k v)) (v / 2 ^ k % 2 == 1) := by rw [bitsOf_snoc, run_snoc]
theorem odd_sum (c v : Nat) : odd c (v % 2 == 1) = ((c + v) % 2 == 1) := by
  unfold odd
  have a1 : c % 2 = 0 ∨ c % 2 = 1 := by omega
  have a2 : v % 2 = 0 ∨ v % 2 = 1 := by omega
  rcases a1 with a1 | a1 <;> rcases a2 with a2 | a2
  · have : (c + v) % 2 = 0 := by omega
    rw [a1, a2, this]; rfl
  · have : (c + v) % 2 = 1 := by omega
    rw [a1, a2, this]; rfl
  · have : (c + v) % 2 = 1 := by omega
    rw [a1, a2, this]; rfl
  · have : (c + v) % 2 = 0 := by omega
    rw [a1, a2, this]; rfl
theorem step_odd {c v : Nat} (h : (c + v) % 2 = 1) : step c (v % 2 == 1) = c / 2 ^^^ poly := by
  unfold step
  rw [odd_sum, h]; rfl
theorem step_even {c v : Nat} (h : (c + v) % 2 ≠ 1) : step c (v % 2 == 1) = c / 2 := by
  unfold step
  have h0 : (c + v) % 2 = 0 := by omega
  rw [odd_sum, h0]; simp
theorem reg_byte (l : List UInt8) (b : UInt8) : run (reg l) (bitsOf 8 b.toNat) = reg (l ++ [b]) := (reg_snoc l b).symm

end Go.Proofs.YthllpiohdkcecaaDoor.Ck
