/-
  Plain facts on the check's register: a step with one bit, a run over bits, a run over bytes; a run is one to one in its state, and, over up to 32 bits, in its bits. No program, no walk.
-/
namespace Go.Proofs.YthllpiohdkcecaaDoor.Ck

def poly : Nat := 2197175160

/-- The bit that decides: the register's lowest bit against the given one. -/
def odd (s : Nat) (b : Bool) : Bool := (s % 2 == 1) != b
def step (s : Nat) (b : Bool) : Nat := (s / 2) ^^^ (if odd s b then poly else 0)
def run : Nat → List Bool → Nat
  | s, [] => s
  | s, b :: r => run (step s b) r

theorem poly_lt : poly < 4294967296 := by decide
theorem poly_top : Nat.testBit poly 31 = true := by decide
theorem step_lt {s : Nat} (b : Bool) (h : s < 4294967296) : step s b < 4294967296 := by
  have h2 : (4294967296 : Nat) = 2 ^ 32 := by decide
  unfold step
  rw [h2]
  apply Nat.xor_lt_two_pow
  · omega
  · split
    · have := poly_lt; omega
    · omega
theorem run_lt : ∀ (l : List Bool) (s : Nat), s < 4294967296 → run s l < 4294967296
  | [], _, h => h
  | b :: r, _, h => run_lt r _ (step_lt b h)

theorem half_top {s : Nat} (h : s < 4294967296) : (s / 2).testBit 31 = false := by
  apply Nat.testBit_lt_two_pow
  omega
theorem step_top {s : Nat} (b : Bool) (h : s < 4294967296) : (step s b).testBit 31 = odd s b := by
  unfold step
  rw [Nat.testBit_xor, half_top h]
  by_cases ho : odd s b = true
  · rw [if_pos ho, poly_top, ho]; rfl
  · rw [if_neg ho, Nat.zero_testBit]
    simp at ho; rw [ho]; rfl

/-- Two registers that agree from bit j on have the same top bit. -/
theorem top_same {a b j : Nat} (hj : j ≤ 31) (h : a / 2 ^ j = b / 2 ^ j) : a.testBit 31 = b.testBit 31 := by
  have e : ∀ n : Nat, n.testBit 31 = (n / 2 ^ j).testBit (31 - j) := by
    intro n
    rw [← Nat.shiftRight_eq_div_pow, Nat.testBit_shiftRight]
    congr 1
    omega
  rw [e a, e b, h]

theorem xor_div (a b j : Nat) : (a ^^^ b) / 2 ^ j = (a / 2 ^ j) ^^^ (b / 2 ^ j) := by
  rw [← Nat.shiftRight_eq_div_pow, ← Nat.shiftRight_eq_div_pow, ← Nat.shiftRight_eq_div_pow, Nat.shiftRight_xor_distrib]

theorem xor_right_cancel {a b c : Nat} (h : a ^^^ c = b ^^^ c) : a = b := by
  have := congrArg (· ^^^ c) h
  simpa [Nat.xor_assoc] using this

/-- One step back: the deciding bits were the same, and the states agree from bit j + 1 on. -/
theorem step_back {s t : Nat} {b c : Bool} {j : Nat} (hs : s < 4294967296) (ht : t < 4294967296) (hj : j ≤ 31) (h : step s b / 2 ^ j = step t c / 2 ^ j) :
    odd s b = odd t c ∧ s / 2 ^ (j + 1) = t / 2 ^ (j + 1) := by
  have ho : odd s b = odd t c := by
    have := top_same hj h
    rwa [step_top b hs, step_top c ht] at this
  refine ⟨ho, ?_⟩
  unfold step at h
  rw [ho, xor_div, xor_div] at h
  have h2 := xor_right_cancel h
  rw [Nat.div_div_eq_div_mul, Nat.div_div_eq_div_mul] at h2
  rw [Nat.pow_succ, Nat.mul_comm]
  exact h2

theorem run_back : ∀ (l m : List Bool) (s t j : Nat), l.length = m.length → j + l.length ≤ 32 → s < 4294967296 → t < 4294967296 → run s l / 2 ^ j = run t m / 2 ^ j →
    s / 2 ^ (j + l.length) = t / 2 ^ (j + l.length)
  | [], [], s, t, j, _, _, _, _, h => by simpa [run] using h
  | b :: l, c :: m, s, t, j, hl, hj, hs, ht, h => by
    have h1 := run_back l m (step s b) (step t c) j (by simpa using hl) (by simp at hj; omega) (step_lt b hs) (step_lt c ht) h
    have h2 := step_back hs ht (by simp at hj; omega) h1
    simpa [Nat.add_assoc] using h2.2
  | [], _ :: _, _, _, _, hl, _, _, _, _ => by simp at hl
  | _ :: _, [], _, _, _, hl, _, _, _, _ => by simp at hl

theorem odd_bit {s : Nat} {b c : Bool} (h : odd s b = odd s c) : b = c := by
  unfold odd at h
  cases hh : (s % 2 == 1) <;> rw [hh] at h <;> cases b <;> cases c <;> simp_all

/-- Over up to 32 bits the run is one to one in the bits. -/
theorem run_bits : ∀ (l m : List Bool) (s : Nat), l.length = m.length → l.length ≤ 32 → s < 4294967296 → run s l = run s m → l = m
  | [], [], _, _, _, _, _ => rfl
  | b :: l, c :: m, s, hl, h32, hs, h => by
    have h1 := run_back l m (step s b) (step s c) 0 (by simpa using hl) (by simp at h32; omega) (step_lt b hs) (step_lt c hs) (by simpa [run] using h)
    rw [Nat.zero_add] at h1
    have h2 := step_back hs hs (by simp at h32; omega) h1
    obtain rfl := odd_bit h2.1
    rw [run_bits l m (step s b) (by simpa using hl) (by simp at h32; omega) (step_lt b hs) h]
  | [], _ :: _, _, hl, _, _, _ => by simp at hl
  | _ :: _, [], _, hl, _, _, _ => by simp at hl

theorem step_state {s t : Nat} (b : Bool) (hs : s < 4294967296) (ht : t < 4294967296) (h : step s b = step t b) : s = t := by
  have h2 := step_back (b := b) (c := b) (j := 0) hs ht (by omega) (by rw [h])
  have hp : (s % 2 == 1) = (t % 2 == 1) := by
    have := h2.1
    unfold odd at this
    cases b <;> cases hx : (s % 2 == 1) <;> cases hy : (t % 2 == 1) <;> rw [hx, hy] at this <;> simp_all
  have h3 : s / 2 = t / 2 := by simpa using h2.2
  have h4 : s % 2 = t % 2 := by
    have a1 : s % 2 = 0 ∨ s % 2 = 1 := by omega
    have a2 : t % 2 = 0 ∨ t % 2 = 1 := by omega
    rcases a1 with a1 | a1 <;> rcases a2 with a2 | a2 <;> rw [a1, a2] at hp <;> simp_all
  omega

/-- The run is one to one in the state. -/
theorem run_state : ∀ (l : List Bool) (s t : Nat), s < 4294967296 → t < 4294967296 → run s l = run t l → s = t
  | [], _, _, _, _, h => h
  | b :: l, _, _, hs, ht, h => step_state b hs ht (run_state l _ _ (step_lt b hs) (step_lt b ht) h)

theorem run_append (a b : List Bool) : ∀ s, run s (a ++ b) = run (run s a) b := by
  induction a with
  | nil => intro s; rfl
  | cons x a ih => intro s; exact ih _

/-- A number's lowest bits, the lowest first. -/
def bitsOf : Nat → Nat → List Bool
  | 0, _ => []
  | k + 1, v => (v % 2 == 1) :: bitsOf k (v / 2)
theorem bitsOf_length : ∀ k v, (bitsOf k v).length = k
  | 0, _ => rfl
  | k + 1, v => by simp [bitsOf, bitsOf_length k]
theorem bitsOf_inj : ∀ (k v u : Nat), v < 2 ^ k → u < 2 ^ k → bitsOf k v = bitsOf k u → v = u
  | 0, v, u, hv, hu, _ => by simp at hv hu; omega
  | k + 1, v, u, hv, hu, h => by
    simp only [bitsOf, List.cons.injEq] at h
    have h1 := bitsOf_inj k (v / 2) (u / 2) (by rw [Nat.pow_succ] at hv; omega) (by rw [Nat.pow_succ] at hu; omega) h.2
    have a1 : v % 2 = 0 ∨ v % 2 = 1 := by omega
    have a2 : u % 2 = 0 ∨ u % 2 = 1 := by omega
    have h2 := h.1
    rcases a1 with a1 | a1 <;> rcases a2 with a2 | a2 <;> rw [a1, a2] at h2 <;> simp_all <;> omega

theorem xor_mod2 (a b : Nat) : ((a ^^^ b) % 2 == 1) = ((a % 2 == 1) != (b % 2 == 1)) := by
  have h := Nat.testBit_xor a b 0
  simp only [Nat.testBit_zero] at h
  have e : ∀ n : Nat, (n % 2 == 1) = decide (n % 2 = 1) := by intro n; rfl
  rw [e, e, e, h]

/-- The whole byte laid in first, and then its eight steps: the same as bit by bit. -/
theorem step_xor (c v : Nat) : step (c ^^^ v) false = step c (v % 2 == 1) ^^^ (v / 2) := by
  have ho : odd (c ^^^ v) false = odd c (v % 2 == 1) := by
    unfold odd; rw [xor_mod2]; cases (c % 2 == 1) <;> cases (v % 2 == 1) <;> rfl
  unfold step
  rw [ho]
  have hd : (c ^^^ v) / 2 = c / 2 ^^^ v / 2 := by simpa using xor_div c v 1
  rw [hd, Nat.xor_assoc, Nat.xor_comm (v / 2), ← Nat.xor_assoc]
theorem run_xor : ∀ (k c v : Nat), run (c ^^^ v) (List.replicate k false) = run c (bitsOf k v) ^^^ (v / 2 ^ k)
  | 0, c, v => by simp [run, bitsOf]
  | k + 1, c, v => by
    rw [List.replicate_succ]
    show run (step (c ^^^ v) false) _ = run (step c (v % 2 == 1)) _ ^^^ _
    rw [step_xor, run_xor k _ (v / 2), Nat.div_div_eq_div_mul]
    rw [Nat.pow_succ, Nat.mul_comm]
theorem run_byte (c v : Nat) (h : v < 256) : run (c ^^^ v) (List.replicate 8 false) = run c (bitsOf 8 v) := by
  rw [run_xor, Nat.div_eq_of_lt (by simpa using h), Nat.xor_zero]

/-! ### Bytes -/
def bitsL (l : List UInt8) : List Bool := l.flatMap fun b => bitsOf 8 b.toNat
theorem bitsL_append (a b : List UInt8) : bitsL (a ++ b) = bitsL a ++ bitsL b := by simp [bitsL]
theorem bitsL_cons (b : UInt8) (l : List UInt8) : bitsL (b :: l) = bitsOf 8 b.toNat ++ bitsL l := by simp [bitsL]
theorem bitsL_length : ∀ l, (bitsL l).length = 8 * l.length
  | [] => rfl
  | b :: l => by rw [bitsL_cons, List.length_append, bitsOf_length, bitsL_length l, List.length_cons]; omega
theorem bitsL_inj : ∀ (l m : List UInt8), l.length = m.length → bitsL l = bitsL m → l = m
  | [], [], _, _ => rfl
  | b :: l, c :: m, hl, h => by
    rw [bitsL_cons, bitsL_cons] at h
    have h1 := List.append_inj h (by rw [bitsOf_length, bitsOf_length])
    have h2 := bitsOf_inj 8 b.toNat c.toNat b.toNat_lt c.toNat_lt h1.1
    rw [bitsL_inj l m (by simpa using hl) h1.2, UInt8.toNat_inj.1 h2]
  | [], _ :: _, hl, _ => by simp at hl
  | _ :: _, [], hl, _ => by simp at hl

/-- The register behind bytes, and their sum. -/
def reg (l : List UInt8) : Nat := run 4294967295 (bitsL l)
def sum (l : List UInt8) : Nat := 4294967295 - reg l
theorem reg_lt (l : List UInt8) : reg l < 4294967296 := run_lt _ _ (by omega)
theorem sum_lt (l : List UInt8) : sum l < 4294967296 := by unfold sum; omega
theorem reg_append (a b : List UInt8) : reg (a ++ b) = run (reg a) (bitsL b) := by unfold reg; rw [bitsL_append, run_append]
theorem reg_snoc (l : List UInt8) (b : UInt8) : reg (l ++ [b]) = run (reg l) (bitsOf 8 b.toNat) := by rw [reg_append, bitsL_cons]; simp [bitsL]

def four (n : Nat) : List UInt8 := [UInt8.ofNat (n % 256), UInt8.ofNat (n / 256 % 256), UInt8.ofNat (n / 65536 % 256), UInt8.ofNat (n / 16777216)]
theorem four_length (n : Nat) : (four n).length = 4 := rfl

theorem bitsOf_add : ∀ (a b v : Nat), bitsOf (a + b) v = bitsOf a v ++ bitsOf b (v / 2 ^ a)
  | 0, b, v => by simp [bitsOf]
  | a + 1, b, v => by
    rw [Nat.add_right_comm]
    show (v % 2 == 1) :: bitsOf (a + b) (v / 2) = (v % 2 == 1) :: (bitsOf a (v / 2) ++ _)
    rw [bitsOf_add a b (v / 2), Nat.div_div_eq_div_mul, Nat.pow_succ, Nat.mul_comm]
theorem bitsOf_mod : ∀ (k v : Nat), bitsOf k (v % 2 ^ k) = bitsOf k v
  | 0, _ => rfl
  | k + 1, v => by
    show (v % 2 ^ (k + 1) % 2 == 1) :: bitsOf k (v % 2 ^ (k + 1) / 2) = _
    have h1 : v % 2 ^ (k + 1) % 2 = v % 2 := by rw [Nat.pow_succ, Nat.mul_comm]; exact Nat.mod_mul_right_mod v 2 (2 ^ k)
    have h2 : v % 2 ^ (k + 1) / 2 = (v / 2) % 2 ^ k := by rw [Nat.pow_succ, Nat.mul_comm]; exact Nat.mod_mul_right_div_self v 2 (2 ^ k)
    rw [h1, h2, bitsOf_mod k (v / 2)]
    rfl
theorem ofNat8 {n : Nat} (h : n < 256) : (UInt8.ofNat n).toNat = n := by simp [UInt8.toNat_ofNat']; omega
theorem bits_four {n : Nat} (h : n < 4294967296) : bitsL (four n) = bitsOf 32 n := by
  have e1 : bitsOf 32 n = bitsOf 8 n ++ bitsOf 24 (n / 256) := bitsOf_add 8 24 n
  have e2 : bitsOf 24 (n / 256) = bitsOf 8 (n / 256) ++ bitsOf 16 (n / 256 / 256) := bitsOf_add 8 16 _
  have e3 : bitsOf 16 (n / 256 / 256) = bitsOf 8 (n / 256 / 256) ++ bitsOf 8 (n / 256 / 256 / 256) := bitsOf_add 8 8 _
  have m1 : bitsOf 8 (n % 256) = bitsOf 8 n := bitsOf_mod 8 n
  have m2 : bitsOf 8 (n / 256 % 256) = bitsOf 8 (n / 256) := bitsOf_mod 8 _
  have m3 : bitsOf 8 (n / 256 / 256 % 256) = bitsOf 8 (n / 256 / 256) := bitsOf_mod 8 _
  have d2 : n / 65536 = n / 256 / 256 := by omega
  have d3 : n / 16777216 = n / 256 / 256 / 256 := by omega
  unfold four
  rw [bitsL_cons, bitsL_cons, bitsL_cons, bitsL_cons, ofNat8 (by omega), ofNat8 (by omega), ofNat8 (by omega), ofNat8 (by omega), d2, d3, m1, m2, m3, e1, e2, e3]
  simp [bitsL]
theorem four_inj {a b : Nat} (ha : a < 4294967296) (hb : b < 4294967296) (h : four a = four b) : a = b := by
  have := congrArg bitsL h
  rw [bits_four ha, bits_four hb] at this
  exact bitsOf_inj 32 a b (by simpa using ha) (by simpa using hb) this

theorem xor_not {c : Nat} (h : c < 4294967296) : c ^^^ (4294967295 - c) = 4294967295 := by
  apply Nat.eq_of_testBit_eq
  intro i
  have e1 : 4294967295 - c = 2 ^ 32 - (c + 1) := by omega
  have e2 : (4294967295 : Nat) = 2 ^ 32 - 1 := by decide
  rw [Nat.testBit_xor, e1, Nat.testBit_two_pow_sub_succ (by simpa using h), e2, Nat.testBit_two_pow_sub_one]
  by_cases hi : i < 32
  · simp [hi]
  · have : c.testBit i = false := by
      apply Nat.testBit_lt_two_pow
      exact Nat.lt_of_lt_of_le (by simpa using h) (Nat.pow_le_pow_right (by omega) (show 32 ≤ i by omega))
    simp [hi, this]

/-- What the register is behind any bytes and their sum. -/
def residue : Nat := run 4294967295 (List.replicate 32 false)
theorem run_not {c : Nat} (h : c < 4294967296) : run c (bitsOf 32 (4294967295 - c)) = residue := by
  have := run_xor 32 c (4294967295 - c)
  rw [xor_not h, Nat.div_eq_of_lt (by omega), Nat.xor_zero] at this
  exact this.symm
theorem sealed_iff (l t : List UInt8) (ht : t.length = 4) : t = four (sum l) ↔ reg (l ++ t) = residue := by
  have hr := run_not (reg_lt l)
  have hb := bits_four (sum_lt l)
  have hk : run (reg l) (bitsL (four (sum l))) = residue := by rw [hb]; exact hr
  constructor
  · rintro rfl
    rw [reg_append]; exact hk
  · intro h
    rw [reg_append, ← hk] at h
    refine bitsL_inj _ _ (by rw [ht, four_length]) (run_bits _ _ (reg l) ?_ ?_ (reg_lt l) h)
    · rw [bitsL_length, bitsL_length, ht, four_length]
    · rw [bitsL_length, ht]; omega

/-- Four bytes next to one another that are not what they were: the register behind all is another. -/
theorem burst (u w w' v : List UInt8) (hw : w.length = w'.length) (h4 : w.length ≤ 4) (hne : w ≠ w') : reg (u ++ w ++ v) ≠ reg (u ++ w' ++ v) := by
  intro h
  rw [reg_append, reg_append, reg_append, reg_append] at h
  have h1 := run_state _ _ _ (run_lt _ _ (reg_lt u)) (run_lt _ _ (reg_lt u)) h
  apply hne
  refine bitsL_inj _ _ hw (run_bits _ _ (reg u) ?_ ?_ (reg_lt u) h1)
  · rw [bitsL_length, bitsL_length, hw]
  · rw [bitsL_length]; omega

end Go.Proofs.YthllpiohdkcecaaDoor.Ck
