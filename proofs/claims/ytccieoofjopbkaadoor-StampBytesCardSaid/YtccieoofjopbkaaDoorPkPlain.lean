/-
  Plain facts on lists of bytes: the digits of a number to the base 128, their value, where a number ends, and what is taken. No program, no walk.
-/
namespace Go.Proofs.YtccieoofjopbkaaDoor.Pk

/-- The digits of n, the lowest first, with fuel. -/
def encF : Nat → Nat → List UInt8
  | 0, _ => []
  | f + 1, n => if n < 128 then [UInt8.ofNat n] else UInt8.ofNat (n % 128 + 128) :: encF f (n / 128)

def enc (n : Nat) : List UInt8 := encF (n + 1) n

theorem encF_eq : ∀ (f g n : Nat), n < f → n < g → encF f n = encF g n
  | 0, _, _, h, _ => absurd h (Nat.not_lt_zero _)
  | _ + 1, 0, _, _, h => absurd h (Nat.not_lt_zero _)
  | f + 1, g + 1, n, hf, hg => by
    unfold encF
    by_cases h : n < 128
    · rw [if_pos h, if_pos h]
    · rw [if_neg h, if_neg h, encF_eq f g (n / 128) (by omega) (by omega)]

theorem enc_small {n : Nat} (h : n < 128) : enc n = [UInt8.ofNat n] := by
  unfold enc encF; rw [if_pos h]

theorem enc_big {n : Nat} (h : ¬ n < 128) : enc n = UInt8.ofNat (n % 128 + 128) :: enc (n / 128) := by
  unfold enc
  conv => lhs; unfold encF
  rw [if_neg h, encF_eq n (n / 128 + 1) (n / 128) (by omega) (by omega)]

/-- The value of digits. -/
def val : List UInt8 → Nat
  | [] => 0
  | b :: r => b.toNat % 128 + 128 * val r

theorem ofNat_toNat {n : Nat} (h : n < 256) : (UInt8.ofNat n).toNat = n := by
  simp [UInt8.toNat_ofNat']; omega

theorem val_enc (n : Nat) : val (enc n) = n := by
  induction n using Nat.strongRecOn with
  | ind n ih =>
    by_cases h : n < 128
    · rw [enc_small h]; simp only [val]; rw [ofNat_toNat (by omega)]; omega
    · rw [enc_big h]; simp only [val]; rw [ofNat_toNat (by omega), ih (n / 128) (by omega)]; omega

theorem enc_inj {a b : Nat} (h : enc a = enc b) : a = b := by rw [← val_enc a, h, val_enc]

theorem enc_pos (n : Nat) : 0 < (enc n).length := by
  by_cases h : n < 128
  · rw [enc_small h]; simp
  · rw [enc_big h]; simp

theorem enc_len : ∀ (k n : Nat), n < 128 ^ (k + 1) → (enc n).length ≤ k + 1
  | 0, n, h => by rw [enc_small (by simpa using h)]; simp
  | k + 1, n, h => by
    by_cases hn : n < 128
    · rw [enc_small hn]; simp
    · rw [enc_big hn]
      have h2 : n / 128 < 128 ^ (k + 1) := by
        rw [Nat.div_lt_iff_lt_mul (by omega)]; rw [Nat.pow_succ] at h; exact h
      have := enc_len k (n / 128) h2
      simp only [List.length_cons]; omega

theorem enc_len9 {n : Nat} (h : n < 9223372036854775808) : (enc n).length ≤ 9 := enc_len 8 n (by
  have : (128 : Nat) ^ (8 + 1) = 9223372036854775808 := by decide
  omega)

theorem val_lt : ∀ (l : List UInt8), val l < 128 ^ l.length
  | [] => by simp [val]
  | b :: r => by
    have := val_lt r
    simp only [val, List.length_cons, Nat.pow_succ]; omega

theorem val_lt63 {l : List UInt8} (h : l.length ≤ 9) : val l < 9223372036854775808 := by
  have h1 := val_lt l
  have h2 : (128 : Nat) ^ l.length ≤ 128 ^ 9 := Nat.pow_le_pow_right (by omega) h
  have h3 : (128 : Nat) ^ 9 = 9223372036854775808 := by decide
  omega

/-- The place of the first byte below 128. -/
def stop : List UInt8 → Nat
  | [] => 0
  | b :: r => if b.toNat < 128 then 0 else stop r + 1

theorem stop_le : ∀ (l : List UInt8), stop l ≤ l.length
  | [] => by simp [stop]
  | b :: r => by
    have := stop_le r
    unfold stop
    split <;> simp only [List.length_cons] <;> omega

theorem stop_big : ∀ (l : List UInt8) (i : Nat) (h : i < l.length), i < stop l → 128 ≤ (l[i]).toNat
  | [], i, h, _ => absurd h (Nat.not_lt_zero _)
  | b :: r, i, h, hi => by
    unfold stop at hi
    by_cases hb : b.toNat < 128
    · rw [if_pos hb] at hi; omega
    · rw [if_neg hb] at hi
      cases i with
      | zero => simp; omega
      | succ i => simpa using stop_big r i (by simpa using h) (by omega)

theorem stop_small : ∀ (l : List UInt8) (h : stop l < l.length), (l[stop l]).toNat < 128
  | [], h => absurd h (Nat.not_lt_zero _)
  | b :: r, h => by
    by_cases hb : b.toNat < 128
    · have e : stop (b :: r) = 0 := by unfold stop; rw [if_pos hb]
      simp only [e, List.getElem_cons_zero]; exact hb
    · have e : stop (b :: r) = stop r + 1 := by rw [stop, if_neg hb]
      have h' : stop r < r.length := by rw [e] at h; simpa using h
      have := stop_small r h'
      simp only [e, List.getElem_cons_succ]; exact this

/-- Found by going through: all ahead of i are big, and i is small or the end. -/
theorem stop_of : ∀ (l : List UInt8) (i : Nat), i ≤ l.length → (∀ j (h : j < l.length), j < i → 128 ≤ (l[j]).toNat) → (∀ h : i < l.length, (l[i]).toNat < 128) → stop l = i
  | [], i, h, _, _ => by simp at h; simp [stop, h]
  | b :: r, 0, _, _, h2 => by
    have := h2 (by simp)
    unfold stop; rw [if_pos (by simpa using this)]
  | b :: r, i + 1, h, h1, h2 => by
    have hb : ¬ b.toNat < 128 := by have := h1 0 (by simp) (by omega); simp at this; omega
    rw [stop, if_neg hb, stop_of r i (by simpa using h) (fun j hj hji => by have := h1 (j + 1) (by simp; omega) (by omega); simpa using this) (fun hi => by have := h2 (by simp; omega); simpa using this)]

/-- The digits have the stop at their last, whatever stands behind. -/
theorem stop_enc (n : Nat) (more : List UInt8) : stop (enc n ++ more) + 1 = (enc n).length := by
  induction n using Nat.strongRecOn with
  | ind n ih =>
    by_cases h : n < 128
    · rw [enc_small h]; simp only [List.cons_append, List.nil_append, stop]; rw [if_pos (by rw [ofNat_toNat (by omega)]; omega)]; simp
    · rw [enc_big h]; simp only [List.cons_append, stop, List.length_cons]
      rw [if_neg (by rw [ofNat_toNat (by omega)]; omega), ih (n / 128) (by omega)]

/-- Cut short of its last digit there is no small byte. -/
theorem stop_cut (n k : Nat) (h : k < (enc n).length) : stop ((enc n).take k) = k := by
  have hs : stop (enc n) + 1 = (enc n).length := by simpa using stop_enc n []
  refine stop_of _ _ (by simp; omega) (fun j hj hjk => ?_) (fun hk => absurd hk (by simp; omega))
  rw [List.getElem_take]
  exact stop_big (enc n) j (by simp at hj; omega) (by omega)

/-- The last digit is not zero where there are several. -/
theorem enc_last (n : Nat) (h : 1 < (enc n).length) : ((enc n)[(enc n).length - 1]'(by omega)).toNat ≠ 0 := by
  induction n using Nat.strongRecOn with
  | ind n ih =>
    by_cases h1 : n < 128
    · rw [enc_small h1] at h; simp at h
    · have e := enc_big h1
      have hl : (enc n).length = (enc (n / 128)).length + 1 := by rw [e]; simp
      have hp := enc_pos (n / 128)
      have eg : ((enc n)[(enc n).length - 1]'(by omega)) = ((enc (n / 128))[(enc (n / 128)).length - 1]'(by omega)) := by
        have : ∀ (l l' : List UInt8) (b : UInt8) (_ : l = b :: l') (hl : l.length - 1 < l.length) (hl' : l'.length - 1 < l'.length), l[l.length - 1] = l'[l'.length - 1] := by
          intro l l' b hb hl hl'
          subst hb
          simp only [List.length_cons, Nat.add_sub_cancel]
          rw [List.getElem_cons]
          rw [dif_neg (by omega)]
        exact this _ _ _ e (by omega) (by omega)
      rw [eg]
      by_cases h2 : 1 < (enc (n / 128)).length
      · exact ih (n / 128) (by omega) h2
      · have h3 : n / 128 < 128 := by
          rcases Nat.lt_or_ge (n / 128) 128 with h' | h'
          · exact h'
          · exfalso
            rw [enc_big (by omega)] at h2
            have := enc_pos (n / 128 / 128)
            simp only [List.length_cons] at h2; omega
        have : ∀ (l : List UInt8) (hl : l.length - 1 < l.length), l = [UInt8.ofNat (n / 128)] → (l[l.length - 1]).toNat ≠ 0 := by
          intro l hl e
          subst e
          show (UInt8.ofNat (n / 128)).toNat ≠ 0
          rw [ofNat_toNat (by omega)]; omega
        exact this _ (by omega) (enc_small h3)

/-- What is written so (several digits only with a last that is not zero) is the writing of its value. -/
theorem enc_val : ∀ (l : List UInt8) (hp : 0 < l.length), stop l + 1 = l.length → (1 < l.length → (l[l.length - 1]).toNat ≠ 0) → enc (val l) = l
  | [], hp, _, _ => absurd hp (Nat.not_lt_zero _)
  | [b], _, hs, _ => by
    have hb : b.toNat < 128 := by
      rcases Nat.lt_or_ge b.toNat 128 with h | h
      · exact h
      · rw [stop, if_neg (by omega)] at hs; simp [stop] at hs
    have : val [b] = b.toNat := by simp only [val]; omega
    rw [this, enc_small hb]; simp
  | b :: c :: r, _, hs, hl => by
    have hb : ¬ b.toNat < 128 := by
      intro h; rw [stop, if_pos h] at hs; simp at hs
    have hs' : stop (c :: r) + 1 = (c :: r).length := by rw [stop, if_neg hb] at hs; simpa using hs
    have hz : (1 < (c :: r).length → ((c :: r)[(c :: r).length - 1]).toNat ≠ 0) := by
      intro _
      have := hl (by simp)
      simpa using this
    have hz1 : ((c :: r)[(c :: r).length - 1]).toNat ≠ 0 := by
      have := hl (by simp)
      simpa using this
    have ih := enc_val (c :: r) (by simp) hs' hz
    have hv : 0 < val (c :: r) := by
      rcases Nat.eq_zero_or_pos (val (c :: r)) with h0 | h0
      · rw [h0, enc_small (by omega)] at ih
        exfalso
        have : ∀ (l : List UInt8) (hl : l.length - 1 < l.length), l = [UInt8.ofNat 0] → (l[l.length - 1]).toNat = 0 := by
          intro l hl e; subst e; rfl
        exact hz1 (this _ _ ih.symm)
      · exact h0
    have hbt : b.toNat < 256 := b.toNat_lt
    have hv2 : val (b :: c :: r) = b.toNat % 128 + 128 * val (c :: r) := rfl
    generalize hvc : val (c :: r) = v at *
    rw [hv2, enc_big (by omega)]
    have e1 : (b.toNat % 128 + 128 * v) % 128 + 128 = b.toNat := by omega
    have e2 : (b.toNat % 128 + 128 * v) / 128 = v := by omega
    rw [e1, e2, ih]; simp

/-- Not written so: the value has another writing. -/
theorem enc_val_ne {l : List UInt8} (h1 : 1 < l.length) (h0 : (l[l.length - 1]).toNat = 0) : enc (val l) ≠ l := by
  intro e
  have h2 : 1 < (enc (val l)).length := by rw [e]; exact h1
  have := enc_last (val l) h2
  have h3 : ∀ (a b : List UInt8) (ha : a.length - 1 < a.length) (hb : b.length - 1 < b.length), a = b → a[a.length - 1] = b[b.length - 1] := by
    intro a b ha hb e; subst e; rfl
  rw [h3 _ _ (by omega) (by omega) e] at this
  exact this h0

/-- No digits begin with another number's. -/
theorem enc_prefix {a b : Nat} {more : List UInt8} (h : enc b = enc a ++ more) : a = b := by
  have h1 := stop_enc a more
  have h2 : stop (enc b) + 1 = (enc b).length := by simpa using stop_enc b []
  rw [h] at h2
  have h3 : more = [] := by
    apply List.eq_nil_of_length_eq_zero
    have : (enc a ++ more).length = (enc a).length + more.length := by simp
    omega
  subst h3
  exact (enc_inj (by simpa using h)).symm

/-! ### What is taken -/

theorem getD_at {l : List UInt8} {i : Nat} (h : i < l.length) : l.getD i 0 = l[i] := by simp [List.getD, h]

/-- The number at the beginning: its value, what stands behind it, the error's number. -/
def take (l : List UInt8) : Nat × List UInt8 × Nat :=
  if stop l = l.length then (0, [], 2)
  else if 8 < stop l ∨ (0 < stop l ∧ (l.getD (stop l) 0).toNat = 0) then (0, [], 3)
  else (val (l.take (stop l + 1)), l.drop (stop l + 1), 0)

theorem take_short {l : List UInt8} (h : stop l = l.length) : take l = (0, [], 2) := by unfold take; rw [if_pos h]
theorem take_form {l : List UInt8} (h : stop l ≠ l.length) (h2 : 8 < stop l ∨ (0 < stop l ∧ (l.getD (stop l) 0).toNat = 0)) : take l = (0, [], 3) := by unfold take; rw [if_neg h, if_pos h2]
theorem take_good {l : List UInt8} (h : stop l ≠ l.length) (h2 : ¬ (8 < stop l ∨ (0 < stop l ∧ (l.getD (stop l) 0).toNat = 0))) :
    take l = (val (l.take (stop l + 1)), l.drop (stop l + 1), 0) := by unfold take; rw [if_neg h, if_neg h2]

theorem take_back {n : Nat} (hn : n < 9223372036854775808) (more : List UInt8) : take (enc n ++ more) = (n, more, 0) := by
  have hs := stop_enc n more
  have hl := enc_len9 hn
  have hp := enc_pos n
  have h1 : stop (enc n ++ more) ≠ (enc n ++ more).length := by simp; omega
  have h2 : ¬ (8 < stop (enc n ++ more) ∨ (0 < stop (enc n ++ more) ∧ ((enc n ++ more).getD (stop (enc n ++ more)) 0).toNat = 0)) := by
    rintro (h | ⟨h, h0⟩)
    · omega
    · have e : stop (enc n ++ more) = (enc n).length - 1 := by omega
      rw [e] at h0 h
      have hlt : (enc n).length - 1 < (enc n).length := by omega
      rw [getD_at (by simp; omega), List.getElem_append_left hlt] at h0
      exact enc_last n (by omega) h0
  rw [take_good h1 h2, hs]
  simp [val_enc]

theorem take_ok {l : List UInt8} (h : (take l).2.2 = 0) : enc (take l).1 ++ (take l).2.1 = l ∧ (take l).1 < 9223372036854775808 := by
  by_cases h1 : stop l = l.length
  · rw [take_short h1] at h; simp at h
  · by_cases h2 : 8 < stop l ∨ (0 < stop l ∧ (l.getD (stop l) 0).toNat = 0)
    · rw [take_form h1 h2] at h; simp at h
    · rw [take_good h1 h2]
      have hle := stop_le l
      have hlt : stop l < l.length := by omega
      have hlen : (l.take (stop l + 1)).length = stop l + 1 := by simp; omega
      have hst : stop (l.take (stop l + 1)) = stop l := by
        refine stop_of _ _ (by omega) (fun j hj hji => ?_) (fun hi => ?_)
        · rw [List.getElem_take]; exact stop_big l j (by omega) hji
        · rw [List.getElem_take]; exact stop_small l hlt
      refine ⟨?_, val_lt63 (by omega)⟩
      have := enc_val (l.take (stop l + 1)) (by omega) (by omega) (fun h3 h4 => h2 (Or.inr ⟨by omega, by
        rw [getD_at hlt]
        rw [List.getElem_take] at h4
        have e : (l.take (stop l + 1)).length - 1 = stop l := by omega
        simp only [e] at h4
        exact h4⟩))
      simp only [this]
      exact List.take_append_drop _ _

theorem take_err {l : List UInt8} (h : (take l).2.2 ≠ 0) : (take l).1 = 0 ∧ (take l).2.1 = [] := by
  by_cases h1 : stop l = l.length
  · rw [take_short h1]; simp
  · by_cases h2 : 8 < stop l ∨ (0 < stop l ∧ (l.getD (stop l) 0).toNat = 0)
    · rw [take_form h1 h2]; simp
    · rw [take_good h1 h2] at h; simp at h

theorem take_cut {n k : Nat} (h : k < (enc n).length) : take ((enc n).take k) = (0, [], 2) := by
  apply take_short
  rw [stop_cut n k h]; simp; omega

end Go.Proofs.YtccieoofjopbkaaDoor.Pk
