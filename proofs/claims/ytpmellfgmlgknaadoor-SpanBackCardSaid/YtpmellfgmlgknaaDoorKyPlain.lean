/-
  Plain functions on bytes and code points behind package key and the document's answers; no program in this text.
-/
import Derived.Test.YtpmellfgmlgknaaDoorBase
import Derived.Lib.DecodeN
import Derived.Lib.Small
namespace Go.Proofs.YtpmellfgmlgknaaDoor.Ky
open Go.RowKit Go.Lib
set_option linter.unusedVariables false

/-! ### One letter: what is decoded at a place -/
set_option maxRecDepth 100000 in
set_option maxHeartbeats 2000000 in
theorem shapeN (n b0 b1 b2 b3 c m : Nat) (hn : 1 ≤ n) (h1 : b1 < 256) (h2 : b2 < 256) (h3 : b3 < 256) (h0 : b0 < 256) (h : decodeN n b0 b1 b2 b3 = (c, m)) :
    (c = 65533 ∧ m = 1 ∧ 128 ≤ b0) ∨ (m = 1 ∧ c = b0 ∧ b0 < 128) ∨ (m = 2 ∧ 2 ≤ n ∧ 128 ≤ c ∧ c < 2048 ∧ b0 = 192 + c / 64 ∧ b1 = 128 + c % 64) ∨
    (m = 3 ∧ 3 ≤ n ∧ 2048 ≤ c ∧ c < 65536 ∧ (c < 55296 ∨ 57344 ≤ c) ∧ b0 = 224 + c / 4096 ∧ b1 = 128 + c / 64 % 64 ∧ b2 = 128 + c % 64) ∨
    (m = 4 ∧ 4 ≤ n ∧ 65536 ≤ c ∧ c ≤ 1114111 ∧ b0 = 240 + c / 262144 ∧ b1 = 128 + c / 4096 % 64 ∧ b2 = 128 + c / 64 % 64 ∧ b3 = 128 + c % 64) := by
  unfold decodeN at h
  repeat' split at h
  all_goals (simp only [Prod.mk.injEq] at h; omega)

theorem repl (n b3 : Nat) (hn : 3 ≤ n) : decodeN n 239 191 189 b3 = (65533, 3) := by
  unfold decodeN
  have h1 : 1 < n := by omega
  have h2 : 2 < n := by omega
  simp [h1, h2]

theorem get!_lt (s : ByteArray) (k : Nat) (h : k < s.size) : s.get! k = s[k]'h := by
  cases s with
  | mk d => exact getElem!_pos d k h

/-- What is decoded at a place within the text: broken (one byte), or a letter with its bytes. -/
theorem shape (s : ByteArray) (p c m : Nat) (hp : p < s.size) (h : Utf8.decode s p = (c, m)) :
    (c = 65533 ∧ m = 1 ∧ 128 ≤ (s.get! p).toNat) ∨ (m = 1 ∧ c = (s.get! p).toNat ∧ c < 128) ∨
    (m = 2 ∧ p + 2 ≤ s.size ∧ 128 ≤ c ∧ c < 2048 ∧ (s.get! p).toNat = 192 + c / 64 ∧ (s.get! (p + 1)).toNat = 128 + c % 64) ∨
    (m = 3 ∧ p + 3 ≤ s.size ∧ 2048 ≤ c ∧ c < 65536 ∧ (c < 55296 ∨ 57344 ≤ c) ∧ (s.get! p).toNat = 224 + c / 4096 ∧ (s.get! (p + 1)).toNat = 128 + c / 64 % 64 ∧ (s.get! (p + 2)).toNat = 128 + c % 64) ∨
    (m = 4 ∧ p + 4 ≤ s.size ∧ 65536 ≤ c ∧ c ≤ 1114111 ∧ (s.get! p).toNat = 240 + c / 262144 ∧ (s.get! (p + 1)).toNat = 128 + c / 4096 % 64 ∧ (s.get! (p + 2)).toNat = 128 + c / 64 % 64 ∧ (s.get! (p + 3)).toNat = 128 + c % 64) := by
  rw [decode_at] at h
  rcases shapeN _ _ _ _ _ c m (by omega) (UInt8.toNat_lt _) (UInt8.toNat_lt _) (UInt8.toNat_lt _) (UInt8.toNat_lt _) h with h | ⟨a1, a2, a3⟩ | ⟨a1, a2, a3⟩ | ⟨a1, a2, a3⟩ | ⟨a1, a2, a3⟩
  · exact .inl h
  · exact .inr (.inl ⟨a1, a2, by rw [a2]; exact a3⟩)
  · exact .inr (.inr (.inl ⟨a1, by omega, a3⟩))
  · exact .inr (.inr (.inr (.inl ⟨a1, by omega, a3⟩)))
  · exact .inr (.inr (.inr (.inr ⟨a1, by omega, a3⟩)))

/-- The width, and that a letter ends within the text. -/
theorem width (s : ByteArray) (p : Nat) (hp : p < s.size) : 1 ≤ (Utf8.decode s p).2 ∧ (Utf8.decode s p).2 ≤ 4 ∧ p + (Utf8.decode s p).2 ≤ s.size ∧ (Utf8.decode s p).1 ≤ 1114111 := by
  have h := shape s p (Utf8.decode s p).1 (Utf8.decode s p).2 hp rfl
  have := (s.get! p).toNat_lt
  omega

/-- A letter of a text's rest is the letter at that place. -/
theorem get!_rest (s : ByteArray) (p k : Nat) : (s.extract p s.size).get! k = s.get! (p + k) := by
  by_cases h : p + k < s.size
  · have h2 : k < (s.extract p s.size).size := by simp; omega
    rw [get!_lt _ _ h2, get!_lt _ _ h]
    simp [ByteArray.getElem_extract]
  · have e1 : (s.extract p s.size).get! k = default := by
      show (s.extract p s.size).data[k]! = default
      rw [getElem!_neg]
      have : (s.extract p s.size).data.size = (s.extract p s.size).size := rfl
      rw [this]; simp; omega
    have e2 : s.get! (p + k) = default := by
      show s.data[p + k]! = default
      rw [getElem!_neg]
      exact h
    rw [e1, e2]

theorem dec_rest (s : ByteArray) (p : Nat) (hp : p ≤ s.size) : Utf8.decode (s.extract p s.size) 0 = Utf8.decode s p := by
  rw [decode_at, decode_at, get!_rest, get!_rest, get!_rest, get!_rest]
  have e : (s.extract p s.size).size - 0 = s.size - p := by simp
  rw [e]
  simp

theorem rest_size (s : ByteArray) (p : Nat) : (s.extract p s.size).size = s.size - p := by simp
theorem rest_rest (s : ByteArray) (p k : Nat) (h : p + k ≤ s.size) : (s.extract p s.size).extract k (s.size - p) = s.extract (p + k) s.size := by
  apply bytes_inj
  rw [extract_list, extract_list, extract_list, List.drop_take, List.drop_drop, List.take_take]
  congr 1
  omega
theorem rest_zero (s : ByteArray) : s.extract 0 s.size = s := by
  apply bytes_inj
  rw [extract_list, List.drop_zero, Nat.sub_zero, List.take_of_length_le (by simp)]

/-! ### Letters -/
def lts (s : ByteArray) : Nat → Nat → List (Nat × Nat)
  | 0, _ => []
  | f + 1, p => if p < s.size then Utf8.decode s p :: lts s f (p + (Utf8.decode s p).2) else []
theorem lts_end (s : ByteArray) (f p : Nat) (h : ¬ p < s.size) : lts s f p = [] := by
  cases f with
  | zero => rfl
  | succ f => simp [lts, h]
theorem lts_fuel (s : ByteArray) : ∀ f g p, s.size - p ≤ f → s.size - p ≤ g → lts s f p = lts s g p
  | 0, g, p, h1, h2 => by rw [lts_end s 0 p (by omega), lts_end s g p (by omega)]
  | f + 1, 0, p, h1, h2 => by rw [lts_end s 0 p (by omega), lts_end s (f + 1) p (by omega)]
  | f + 1, g + 1, p, h1, h2 => by
    unfold lts
    split
    · rename_i hp
      have := width s p hp
      rw [lts_fuel s f g _ (by omega) (by omega)]
    · rfl
/-- The letters from place p on: code point and width. -/
def L (s : ByteArray) (p : Nat) : List (Nat × Nat) := lts s (s.size - p) p
theorem L_end (s : ByteArray) (p : Nat) (h : ¬ p < s.size) : L s p = [] := lts_end _ _ _ h
theorem L_step (s : ByteArray) (p : Nat) (h : p < s.size) : L s p = Utf8.decode s p :: L s (p + (Utf8.decode s p).2) := by
  unfold L
  obtain ⟨f, hf⟩ : ∃ f, s.size - p = f + 1 := ⟨s.size - p - 1, by omega⟩
  rw [hf]
  have := width s p h
  have e : lts s (f + 1) p = Utf8.decode s p :: lts s f (p + (Utf8.decode s p).2) := by simp [lts, h]
  rw [e, lts_fuel s f (s.size - (p + (Utf8.decode s p).2)) _ (by omega) (by omega)]
theorem L_len (s : ByteArray) : ∀ f p, s.size - p ≤ f → (L s p).length ≤ s.size - p
  | 0, p, h => by rw [L_end s p (by omega)]; simp
  | f + 1, p, h => by
    by_cases hp : p < s.size
    · have := width s p hp
      rw [L_step s p hp]
      have := L_len s f (p + (Utf8.decode s p).2) (by omega)
      simp only [List.length_cons]; omega
    · rw [L_end s p hp]; simp
theorem len_le (s : ByteArray) (p : Nat) : (L s p).length ≤ s.size - p := L_len s _ p (Nat.le_refl _)

/-- The code points. -/
def codes (s : ByteArray) (p : Nat) : List Nat := (L s p).map Prod.fst
theorem codes_end (s : ByteArray) (p : Nat) (h : ¬ p < s.size) : codes s p = [] := by unfold codes; rw [L_end s p h]; rfl
theorem codes_step (s : ByteArray) (p : Nat) (h : p < s.size) : codes s p = (Utf8.decode s p).1 :: codes s (p + (Utf8.decode s p).2) := by
  unfold codes; rw [L_step s p h]; rfl
theorem codes_len (s : ByteArray) (p : Nat) : (codes s p).length ≤ s.size - p := by
  have := len_le s p
  simpa [codes] using this

/-! ### Plain letters, keys -/
def plainB (c n : Nat) : Bool := if c = 65533 ∧ n = 1 then false else decide (33 ≤ c) && (decide (c < 127) || decide (159 < c))
def allPl (s : ByteArray) (p : Nat) : Bool := (L s p).all fun d => plainB d.1 d.2
theorem allPl_end (s : ByteArray) (p : Nat) (h : ¬ p < s.size) : allPl s p = true := by unfold allPl; rw [L_end s p h]; rfl
theorem allPl_step (s : ByteArray) (p : Nat) (h : p < s.size) : allPl s p = (plainB (Utf8.decode s p).1 (Utf8.decode s p).2 && allPl s (p + (Utf8.decode s p).2)) := by
  unfold allPl; rw [L_step s p h]; rfl
def right (s : ByteArray) : Bool := if s.size = 0 ∨ 16 < s.size then false else allPl s 0

/-- The document's letter: -1 where a byte is no letter. -/
def refL (d : Nat × Nat) : Int × Nat := if d.1 = 65533 ∧ d.2 = 1 then (-1, 1) else (d.1, d.2)
def plainI (c : Int) : Bool := decide (c > 32) && (!decide (c = 127) && (decide (c < 128) || decide (c > 159)))
theorem plain_ref (c n : Nat) : plainI (refL (c, n)).1 = plainB c n := by
  unfold refL plainB
  by_cases h : c = 65533 ∧ n = 1
  · simp [h, plainI]
  · simp only [if_neg h, plainI]
    rw [Bool.eq_iff_iff]
    simp
    omega

/-! ### The size of a letter -/
def prefB (t : ByteArray) : Bool := hasPrefix t.data.toList [239, 191, 189]
theorem pref_iff (t : ByteArray) : prefB t = true ↔ 3 ≤ t.size ∧ (t.get! 0).toNat = 239 ∧ (t.get! 1).toNat = 191 ∧ (t.get! 2).toNat = 189 := by
  cases t with
  | mk d =>
    cases d with
    | mk l =>
      have e : ∀ k, (ByteArray.mk ⟨l⟩).get! k = l.getD k 0 := by
        intro k
        show (Array.mk l)[k]! = _
        simp only [List.getElem!_toArray, List.getD_eq_getElem?_getD, List.getElem!_eq_getElem?_getD]
        rfl
      have es : (ByteArray.mk ⟨l⟩).size = l.length := rfl
      rw [e, e, e, es]
      unfold prefB hasPrefix
      show List.isPrefixOf [239, 191, 189] l = true ↔ _
      rcases l with _ | ⟨a, _ | ⟨b, _ | ⟨c, r⟩⟩⟩
      · simp [List.isPrefixOf]
      · simp [List.isPrefixOf]
      · simp [List.isPrefixOf]
      · simp only [List.isPrefixOf, Bool.and_eq_true, beq_iff_eq, List.length_cons, and_true, List.getD_cons_zero, List.getD_cons_succ]
        have q : ∀ (x y : UInt8), y = x ↔ x.toNat = y.toNat := fun x y => ⟨fun h => by rw [h], fun h => (UInt8.toNat_inj.1 h).symm⟩
        rw [q a 239, q b 191, q c 189]
        have h1 : (239 : UInt8).toNat = 239 := rfl
        have h2 : (191 : UInt8).toNat = 191 := rfl
        have h3 : (189 : UInt8).toNat = 189 := rfl
        rw [h1, h2, h3]
        omega

/-- What key.size gives is the letter's width. -/
theorem size_eq (t : ByteArray) (c n : Nat) (ht : 0 < t.size) (h : Utf8.decode t 0 = (c, n)) :
    (if c = 65533 ∧ prefB t = false then (1 : Int) else runeLen c) = n := by
  have hs := shape t 0 c n ht h
  by_cases hc : c = 65533
  · by_cases hb : prefB t = true
    · have hp := (pref_iff t).1 hb
      rw [decode_at, hp.2.1, hp.2.2.1, hp.2.2.2, repl _ _ (by omega)] at h
      cases h
      simp [hb, runeLen]
    · have hb' : prefB t = false := by simpa using hb
      rw [if_pos ⟨hc, hb'⟩]
      have hn : ¬ (3 ≤ t.size ∧ (t.get! 0).toNat = 239 ∧ (t.get! 1).toNat = 191 ∧ (t.get! 2).toNat = 189) := fun x => hb ((pref_iff t).2 x)
      simp only [Nat.zero_add] at hs
      omega
  · rw [if_neg (by omega)]
    unfold runeLen
    have := (t.get! 0).toNat_lt
    repeat' split
    all_goals omega

/-! ### The order -/
def cmpL : List Nat → List Nat → Int
  | [], [] => 0
  | [], _ :: _ => -1
  | _ :: _, [] => 1
  | x :: xs, y :: ys => if x = y then cmpL xs ys else if x < y then -1 else 1
theorem cmpL_self : ∀ x, cmpL x x = 0
  | [] => rfl
  | x :: xs => by simp [cmpL, cmpL_self xs]
theorem cmpL_neg : ∀ x y, cmpL y x = -cmpL x y
  | [], [] => rfl
  | [], _ :: _ => rfl
  | _ :: _, [] => rfl
  | x :: xs, y :: ys => by
    unfold cmpL
    by_cases h : x = y
    · rw [if_pos h, if_pos h.symm]; exact cmpL_neg xs ys
    · rw [if_neg h, if_neg (fun e => h e.symm)]
      by_cases h2 : x < y
      · rw [if_pos h2, if_neg (by omega)]; rfl
      · rw [if_neg h2, if_pos (by omega)]
theorem cmpL_range : ∀ x y, cmpL x y = -1 ∨ cmpL x y = 0 ∨ cmpL x y = 1
  | [], [] => by simp [cmpL]
  | [], _ :: _ => by simp [cmpL]
  | _ :: _, [] => by simp [cmpL]
  | x :: xs, y :: ys => by
    unfold cmpL
    split
    · exact cmpL_range xs ys
    · split <;> simp
theorem cmpL_zero : ∀ x y, cmpL x y = 0 → x = y
  | [], [], _ => rfl
  | [], _ :: _, h => by simp [cmpL] at h
  | _ :: _, [], h => by simp [cmpL] at h
  | x :: xs, y :: ys, h => by
    unfold cmpL at h
    split at h
    · rename_i e; rw [e, cmpL_zero xs ys h]
    · split at h <;> simp at h
theorem cmpL_trans : ∀ x y z, cmpL x y ≤ 0 → cmpL y z ≤ 0 → cmpL x z ≤ 0
  | [], _, [], _, _ => by simp [cmpL]
  | [], _, _ :: _, _, _ => by simp [cmpL]
  | _ :: _, [], _, h, _ => by simp [cmpL] at h
  | _ :: _, _ :: _, [], _, h => by simp [cmpL] at h
  | x :: xs, y :: ys, z :: zs, h1, h2 => by
    unfold cmpL at h1 h2 ⊢
    split at h1
    · split at h2
      · rename_i e1 e2
        rw [if_pos (e1.trans e2)]; exact cmpL_trans xs ys zs h1 h2
      · split at h2
        · rename_i e1 e2 e3
          rw [if_neg (by omega), if_pos (by omega)]; decide
        · simp at h2
    · split at h1
      · split at h2
        · rename_i e1 e2 e3
          rw [if_neg (by omega), if_pos (by omega)]; decide
        · split at h2
          · rename_i e1 e2 e3 e4
            rw [if_neg (by omega), if_pos (by omega)]; decide
          · simp at h2
      · simp at h1
def compare (a b : ByteArray) : Int := cmpL (codes a 0) (codes b 0)

end Go.Proofs.YtpmellfgmlgknaaDoor.Ky
