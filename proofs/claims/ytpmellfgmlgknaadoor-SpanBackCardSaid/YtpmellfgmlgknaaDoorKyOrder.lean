/-
  Plain functions: the bytes of code points, and their order; no program in this text.
-/
import Derived.Test.YtpmellfgmlgknaaDoorKyPlain
import GoSem.Op.String
namespace Go.Proofs.YtpmellfgmlgknaaDoor.Ky
open Go.RowKit Go.Lib
set_option linter.unusedVariables false

def encB (c : Nat) : List UInt8 :=
  if c < 128 then [UInt8.ofNat c]
  else if c < 2048 then [UInt8.ofNat (192 + c / 64), UInt8.ofNat (128 + c % 64)]
  else if c < 65536 then [UInt8.ofNat (224 + c / 4096), UInt8.ofNat (128 + c / 64 % 64), UInt8.ofNat (128 + c % 64)]
  else [UInt8.ofNat (240 + c / 262144), UInt8.ofNat (128 + c / 4096 % 64), UInt8.ofNat (128 + c / 64 % 64), UInt8.ofNat (128 + c % 64)]
def vc (c : Nat) : Prop := c ≤ 1114111 ∧ (c < 55296 ∨ 57344 ≤ c)

theorem byte_eq {x : UInt8} {n : Nat} (h : x.toNat = n) : x = UInt8.ofNat n := by rw [← h]; simp
theorem take_at (s : ByteArray) (p k : Nat) (h : p + k < s.size) : (s.data.toList.drop p)[k]'(by simp; exact Nat.lt_sub_of_add_lt (by omega)) = s.get! (p + k) := by
  rw [get!_lt s (p + k) h]
  simp
  rfl
theorem take1 (s : ByteArray) (p : Nat) (h : p + 1 ≤ s.size) : (s.data.toList.drop p).take 1 = [s.get! p] := by
  rw [List.drop_eq_getElem_cons (i := p) (by rw [bytes_len]; omega), get!_lt s p (by omega)]
  rfl
theorem take2 (s : ByteArray) (p : Nat) (h : p + 2 ≤ s.size) : (s.data.toList.drop p).take 2 = [s.get! p, s.get! (p + 1)] := by
  rw [List.drop_eq_getElem_cons (i := p) (by rw [bytes_len]; omega), List.take_succ_cons, take1 s (p + 1) (by omega), get!_lt s p (by omega)]
  rfl
theorem take3 (s : ByteArray) (p : Nat) (h : p + 3 ≤ s.size) : (s.data.toList.drop p).take 3 = [s.get! p, s.get! (p + 1), s.get! (p + 2)] := by
  rw [List.drop_eq_getElem_cons (i := p) (by rw [bytes_len]; omega), List.take_succ_cons, take2 s (p + 1) (by omega), get!_lt s p (by omega)]
  rfl
theorem take4 (s : ByteArray) (p : Nat) (h : p + 4 ≤ s.size) : (s.data.toList.drop p).take 4 = [s.get! p, s.get! (p + 1), s.get! (p + 2), s.get! (p + 3)] := by
  rw [List.drop_eq_getElem_cons (i := p) (by rw [bytes_len]; omega), List.take_succ_cons, take3 s (p + 1) (by omega), get!_lt s p (by omega)]
  rfl

/-- A letter that isn't broken: its bytes are those of its code point. -/
theorem dec_enc (s : ByteArray) (p c m : Nat) (hp : p < s.size) (h : Utf8.decode s p = (c, m)) (hb : ¬ (c = 65533 ∧ m = 1)) : (s.data.toList.drop p).take m = encB c ∧ vc c := by
  have hl := (s.get! p).toNat_lt
  rcases shape s p c m hp h with ⟨a1, a2, a3⟩ | ⟨a1, a2, a3⟩ | ⟨a1, a2, a3, a4, a5, a6⟩ | ⟨a1, a2, a3, a4, a5, a6, a7, a8⟩ | ⟨a1, a2, a3, a4, a5, a6, a7, a8⟩
  · exact absurd ⟨a1, a2⟩ hb
  · refine ⟨?_, by unfold vc; omega⟩
    rw [a1, take1 s p (by omega), encB, if_pos a3, byte_eq a2.symm]
  · refine ⟨?_, by unfold vc; omega⟩
    rw [a1, take2 s p a2, encB, if_neg (by omega), if_pos (by omega), byte_eq a5, byte_eq a6]
  · refine ⟨?_, by unfold vc; omega⟩
    rw [a1, take3 s p a2, encB, if_neg (by omega), if_neg (by omega), if_pos (by omega), byte_eq a6, byte_eq a7, byte_eq a8]
  · refine ⟨?_, by unfold vc; omega⟩
    rw [a1, take4 s p a2, encB, if_neg (by omega), if_neg (by omega), if_neg (by omega), byte_eq a5, byte_eq a6, byte_eq a7, byte_eq a8]

/-- A text without broken letters is the bytes of its code points. -/
theorem flat_eqF (s : ByteArray) : ∀ f p, s.size - p ≤ f → allPl s p = true → s.data.toList.drop p = (codes s p).flatMap encB ∧ ∀ c ∈ codes s p, vc c
  | 0, p, h, _ => by
    rw [codes_end s p (by omega), List.drop_of_length_le (by rw [bytes_len]; omega)]
    exact ⟨rfl, fun c hc => by cases hc⟩
  | f + 1, p, h, ha => by
    by_cases hp : p < s.size
    · have hw := width s p hp
      rw [allPl_step s p hp, Bool.and_eq_true] at ha
      have hb : ¬ ((Utf8.decode s p).1 = 65533 ∧ (Utf8.decode s p).2 = 1) := by
        intro hx
        have := ha.1
        simp [plainB, hx] at this
      obtain ⟨e1, e2⟩ := dec_enc s p (Utf8.decode s p).1 (Utf8.decode s p).2 hp rfl hb
      obtain ⟨i1, i2⟩ := flat_eqF s f (p + (Utf8.decode s p).2) (by omega) ha.2
      rw [codes_step s p hp, List.flatMap_cons, ← e1, ← i1]
      refine ⟨?_, ?_⟩
      · rw [← List.drop_drop]
        exact (List.take_append_drop _ _).symm
      · intro c hc
        rcases List.mem_cons.1 hc with rfl | hc
        · exact e2
        · exact i2 c hc
    · rw [codes_end s p hp, List.drop_of_length_le (by rw [bytes_len]; omega)]
      exact ⟨rfl, fun c hc => by cases hc⟩
theorem flat_eq (s : ByteArray) (h : allPl s 0 = true) : s.data.toList = (codes s 0).flatMap encB ∧ ∀ c ∈ codes s 0, vc c := by
  have := flat_eqF s _ 0 (Nat.le_refl _) h
  rw [List.drop_zero] at this
  exact this

/-! ### The order of bytes -/
theorem bl_self : ∀ l : List UInt8, Op.bytesLess l l = false
  | [] => rfl
  | a :: l => by simp [Op.bytesLess, bl_self l]
theorem bl_same : ∀ (l x y : List UInt8), Op.bytesLess (l ++ x) (l ++ y) = Op.bytesLess x y
  | [], _, _ => rfl
  | a :: l, x, y => by simp [Op.bytesLess, bl_same l x y]
theorem bl_lt {a b : UInt8} {x y : List UInt8} (h : a.toNat < b.toNat) : Op.bytesLess (a :: x) (b :: y) = true := by
  have : a < b := by rw [UInt8.lt_iff_toNat_lt]; exact h
  simp [Op.bytesLess, this]
theorem bl_eq {a b : UInt8} {x y : List UInt8} (h : a.toNat = b.toNat) (h2 : Op.bytesLess x y = true) : Op.bytesLess (a :: x) (b :: y) = true := by
  have : a = b := UInt8.toNat_inj.1 h
  simp [Op.bytesLess, this, h2]
theorem bl_asymm : ∀ x y : List UInt8, Op.bytesLess x y = true → Op.bytesLess y x = false
  | [], [], h => by simp [Op.bytesLess] at h
  | [], _ :: _, _ => rfl
  | _ :: _, [], h => by simp [Op.bytesLess] at h
  | a :: x, b :: y, h => by
    simp only [Op.bytesLess, Bool.or_eq_true, decide_eq_true_eq, Bool.and_eq_true, beq_iff_eq] at h
    rcases h with h | ⟨rfl, h⟩
    · have h1 : ¬ b < a := by rw [UInt8.lt_iff_toNat_lt] at h ⊢; omega
      have h2 : ¬ b = a := by
        intro e
        subst e
        rw [UInt8.lt_iff_toNat_lt] at h; omega
      simp [Op.bytesLess, h1, h2]
    · simp [Op.bytesLess, bl_asymm x y h]

theorem ofn {n : Nat} (h : n < 256) : (UInt8.ofNat n).toNat = n := by rw [UInt8.toNat_ofNat']; omega
set_option maxHeartbeats 2000000 in
theorem enc_less (c d : Nat) (hc : vc c) (hd : vc d) (h : c < d) (x y : List UInt8) : Op.bytesLess (encB c ++ x) (encB d ++ y) = true := by
  unfold vc at hc hd
  unfold encB
  by_cases c1 : c < 128
  · rw [if_pos c1]
    by_cases d1 : d < 128
    · rw [if_pos d1]
      exact bl_lt (by rw [ofn (by omega), ofn (by omega)]; omega)
    rw [if_neg d1]
    by_cases d2 : d < 2048
    · rw [if_pos d2]
      exact bl_lt (by rw [ofn (by omega), ofn (by omega)]; omega)
    rw [if_neg d2]
    by_cases d3 : d < 65536
    · rw [if_pos d3]
      exact bl_lt (by rw [ofn (by omega), ofn (by omega)]; omega)
    rw [if_neg d3]
    exact bl_lt (by rw [ofn (by omega), ofn (by omega)]; omega)
  rw [if_neg c1, if_neg (show ¬ d < 128 by omega)]
  by_cases c2 : c < 2048
  · rw [if_pos c2]
    by_cases d2 : d < 2048
    · rw [if_pos d2]
      by_cases e : c / 64 < d / 64
      · exact bl_lt (by rw [ofn (by omega), ofn (by omega)]; omega)
      · refine bl_eq (by rw [ofn (by omega), ofn (by omega)]; omega) (bl_lt (by rw [ofn (by omega), ofn (by omega)]; omega))
    rw [if_neg d2]
    by_cases d3 : d < 65536
    · rw [if_pos d3]
      exact bl_lt (by rw [ofn (by omega), ofn (by omega)]; omega)
    rw [if_neg d3]
    exact bl_lt (by rw [ofn (by omega), ofn (by omega)]; omega)
  rw [if_neg c2, if_neg (show ¬ d < 2048 by omega)]
  by_cases c3 : c < 65536
  · rw [if_pos c3]
    by_cases d3 : d < 65536
    · rw [if_pos d3]
      by_cases e : c / 4096 < d / 4096
      · exact bl_lt (by rw [ofn (by omega), ofn (by omega)]; omega)
      · refine bl_eq (by rw [ofn (by omega), ofn (by omega)]; omega) ?_
        by_cases e2 : c / 64 % 64 < d / 64 % 64
        · exact bl_lt (by rw [ofn (by omega), ofn (by omega)]; omega)
        · exact bl_eq (by rw [ofn (by omega), ofn (by omega)]; omega) (bl_lt (by rw [ofn (by omega), ofn (by omega)]; omega))
    rw [if_neg d3]
    exact bl_lt (by rw [ofn (by omega), ofn (by omega)]; omega)
  rw [if_neg c3, if_neg (show ¬ d < 65536 by omega)]
  by_cases e : c / 262144 < d / 262144
  · exact bl_lt (by rw [ofn (by omega), ofn (by omega)]; omega)
  · refine bl_eq (by rw [ofn (by omega), ofn (by omega)]; omega) ?_
    by_cases e2 : c / 4096 % 64 < d / 4096 % 64
    · exact bl_lt (by rw [ofn (by omega), ofn (by omega)]; omega)
    · refine bl_eq (by rw [ofn (by omega), ofn (by omega)]; omega) ?_
      by_cases e3 : c / 64 % 64 < d / 64 % 64
      · exact bl_lt (by rw [ofn (by omega), ofn (by omega)]; omega)
      · exact bl_eq (by rw [ofn (by omega), ofn (by omega)]; omega) (bl_lt (by rw [ofn (by omega), ofn (by omega)]; omega))

theorem enc_ne (c : Nat) : ∃ a l, encB c = a :: l := by
  unfold encB
  repeat' split
  all_goals exact ⟨_, _, rfl⟩

/-- Texts of whole letters stand in the order of their bytes. -/
theorem order_flat : ∀ x y : List Nat, (∀ c ∈ x, vc c) → (∀ c ∈ y, vc c) →
    Op.bytesLess (x.flatMap encB) (y.flatMap encB) = decide (cmpL x y < 0)
  | [], [], _, _ => rfl
  | [], d :: y, _, _ => by
    obtain ⟨a, l, e⟩ := enc_ne d
    rw [List.flatMap_cons, e]
    rfl
  | c :: x, [], _, _ => by
    obtain ⟨a, l, e⟩ := enc_ne c
    rw [List.flatMap_cons, e]
    rfl
  | c :: x, d :: y, hx, hy => by
    have hc := hx c (List.mem_cons_self ..)
    have hd := hy d (List.mem_cons_self ..)
    rw [List.flatMap_cons, List.flatMap_cons]
    unfold cmpL
    by_cases h : c = d
    · rw [if_pos h, h, bl_same]
      exact order_flat x y (fun c hc => hx c (List.mem_cons_of_mem _ hc)) (fun c hc => hy c (List.mem_cons_of_mem _ hc))
    · rw [if_neg h]
      by_cases h2 : c < d
      · rw [if_pos h2, enc_less c d hc hd h2]
        decide
      · rw [if_neg h2, bl_asymm _ _ (enc_less d c hd hc (by omega) _ _)]
        decide

theorem order_bytes (a b : ByteArray) (ha : allPl a 0 = true) (hb : allPl b 0 = true) : Op.bytesLess a.data.toList b.data.toList = decide (compare a b < 0) := by
  obtain ⟨a1, a2⟩ := flat_eq a ha
  obtain ⟨b1, b2⟩ := flat_eq b hb
  have h := order_flat (codes a 0) (codes b 0) a2 b2
  rw [← a1, ← b1] at h
  exact h
theorem same_bytes (a b : ByteArray) (ha : allPl a 0 = true) (hb : allPl b 0 = true) (h : compare a b = 0) : a = b := by
  obtain ⟨a1, _⟩ := flat_eq a ha
  obtain ⟨b1, _⟩ := flat_eq b hb
  have e := cmpL_zero _ _ h
  apply bytes_inj
  rw [a1, b1, e]
theorem right_pl (s : ByteArray) (h : right s = true) : allPl s 0 = true ∧ 1 ≤ s.size ∧ s.size ≤ 16 := by
  unfold right at h
  split at h
  · cases h
  · exact ⟨h, by omega, by omega⟩

end Go.Proofs.YtpmellfgmlgknaaDoor.Ky
