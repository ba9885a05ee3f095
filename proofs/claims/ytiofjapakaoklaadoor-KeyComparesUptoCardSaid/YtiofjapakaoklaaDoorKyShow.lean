/-
  Plain functions: the escaped form of a text, and the text of an escaped form; no program in this text.
-/
import Derived.Test.YtiofjapakaoklaaDoorKyPlain
namespace Go.Proofs.YtiofjapakaoklaaDoor.Ky
open Go.RowKit Go.Lib
set_option linter.unusedVariables false

/-! ### The escaped form -/
def hexD (x : Nat) : UInt8 := UInt8.ofNat (if x < 10 then 48 + x else 55 + x)
def hexB (b : UInt8) : List UInt8 := [37, hexD (b.toNat / 16), hexD (b.toNat % 16)]
/-- A letter's bytes, escaped where it isn't plain. -/
def piece (s : ByteArray) (p : Nat) (d : Nat × Nat) : List UInt8 :=
  if plainB d.1 d.2 = true ∧ d.1 ≠ 37 then (s.data.toList.drop p).take d.2 else ((s.data.toList.drop p).take d.2).flatMap hexB
def shF (s : ByteArray) : Nat → Nat → List UInt8
  | 0, _ => []
  | f + 1, p => if p < s.size then piece s p (Utf8.decode s p) ++ shF s f (p + (Utf8.decode s p).2) else []
theorem shF_end (s : ByteArray) (f p : Nat) (h : ¬ p < s.size) : shF s f p = [] := by
  cases f with
  | zero => rfl
  | succ f => simp [shF, h]
theorem shF_fuel (s : ByteArray) : ∀ f g p, s.size - p ≤ f → s.size - p ≤ g → shF s f p = shF s g p
  | 0, g, p, h1, h2 => by rw [shF_end s 0 p (by omega), shF_end s g p (by omega)]
  | f + 1, 0, p, h1, h2 => by rw [shF_end s 0 p (by omega), shF_end s (f + 1) p (by omega)]
  | f + 1, g + 1, p, h1, h2 => by
    unfold shF
    split
    · rename_i hp
      have := width s p hp
      rw [shF_fuel s f g _ (by omega) (by omega)]
    · rfl
def sh (s : ByteArray) (p : Nat) : List UInt8 := shF s (s.size - p) p
theorem sh_end (s : ByteArray) (p : Nat) (h : ¬ p < s.size) : sh s p = [] := shF_end _ _ _ h
theorem sh_step (s : ByteArray) (p : Nat) (h : p < s.size) : sh s p = piece s p (Utf8.decode s p) ++ sh s (p + (Utf8.decode s p).2) := by
  unfold sh
  obtain ⟨f, hf⟩ : ∃ f, s.size - p = f + 1 := ⟨s.size - p - 1, by omega⟩
  rw [hf]
  have := width s p h
  have e : shF s (f + 1) p = piece s p (Utf8.decode s p) ++ shF s f (p + (Utf8.decode s p).2) := by simp [shF, h]
  rw [e, shF_fuel s f (s.size - (p + (Utf8.decode s p).2)) _ (by omega) (by omega)]
def showL (s : ByteArray) : List UInt8 := if s.size = 0 then [37] else sh s 0

theorem hexFlat_len : ∀ l : List UInt8, (l.flatMap hexB).length = 3 * l.length
  | [] => rfl
  | b :: l => by
    rw [List.flatMap_cons, List.length_append, hexFlat_len l]
    simp [hexB]; omega
theorem piece_len (s : ByteArray) (p : Nat) (d : Nat × Nat) : (piece s p d).length ≤ 3 * d.2 := by
  unfold piece
  split
  · rw [List.length_take]; omega
  · rw [hexFlat_len, List.length_take]; omega
theorem sh_lenF (s : ByteArray) : ∀ f p, s.size - p ≤ f → (sh s p).length ≤ 3 * (s.size - p)
  | 0, p, h => by rw [sh_end s p (by omega)]; simp
  | f + 1, p, h => by
    by_cases hp : p < s.size
    · have h1 := width s p hp
      rw [sh_step s p hp, List.length_append]
      have h2 := sh_lenF s f (p + (Utf8.decode s p).2) (by omega)
      have h3 := piece_len s p (Utf8.decode s p)
      omega
    · rw [sh_end s p hp]; simp
theorem sh_len (s : ByteArray) (p : Nat) : (sh s p).length ≤ 3 * (s.size - p) := sh_lenF s _ p (Nat.le_refl _)
theorem showL_len (s : ByteArray) : (showL s).length ≤ 3 * s.size + 1 := by
  unfold showL
  split
  · simp
  · have := sh_len s 0
    omega

/-! ### And back -/
def hv (c : UInt8) : Nat := if 48 ≤ c.toNat ∧ c.toNat ≤ 57 then c.toNat - 48 else if 65 ≤ c.toNat ∧ c.toNat ≤ 70 then c.toNat - 55 else 99
def un : List UInt8 → Option (List UInt8)
  | [] => some []
  | [b] => if b = 37 then none else some [b]
  | [b, h] => if b = 37 then none else (un [h]).map (b :: ·)
  | b :: h :: l :: t => if b = 37 then (if hv h < 16 ∧ hv l < 16 then (un t).map (UInt8.ofNat (16 * hv h + hv l) :: ·) else none) else (un (h :: l :: t)).map (b :: ·)
theorem un_cons (b : UInt8) (hb : b ≠ 37) (t : List UInt8) : un (b :: t) = (un t).map (b :: ·) := by
  rcases t with _ | ⟨h, _ | ⟨l, t⟩⟩
  · simp [un, hb]
  · show (if b = 37 then none else (un [h]).map (b :: ·)) = _
    rw [if_neg hb]
  · show (if b = 37 then _ else (un (h :: l :: t)).map (b :: ·)) = _
    rw [if_neg hb]
theorem un_short (t : List UInt8) (h : t.length < 2) : un (37 :: t) = none := by
  rcases t with _ | ⟨a, _ | ⟨l, t⟩⟩
  · rfl
  · rfl
  · simp at h; omega
theorem un_esc (h l : UInt8) (t : List UInt8) : un (37 :: h :: l :: t) = if hv h < 16 ∧ hv l < 16 then (un t).map (UInt8.ofNat (16 * hv h + hv l) :: ·) else none := by
  rw [un, if_pos rfl]

/-- The text of a word. -/
def readO (w : ByteArray) : Option (List UInt8) :=
  if w.data.toList = [37] then some [] else
  match un w.data.toList with
  | none => none
  | some t => if showL (S t) = w.data.toList then some t else none

theorem map_comp (f g : List UInt8 → List UInt8) (o : Option (List UInt8)) : (o.map f).map g = o.map (g ∘ f) := by cases o <;> rfl
theorem un_plain : ∀ (bs r : List UInt8), (∀ b ∈ bs, b ≠ 37) → un (bs ++ r) = (un r).map (bs ++ ·)
  | [], r, _ => by
    show un r = (un r).map fun x => x
    cases un r <;> rfl
  | b :: bs, r, h => by
    rw [List.cons_append, un_cons b (h b (List.mem_cons_self ..)), un_plain bs r (fun x hx => h x (List.mem_cons_of_mem _ hx)), map_comp]
    rfl
theorem hex_val : ∀ x : Fin 16, hv (hexD x.val) = x.val := by decide
theorem hex_big : ∀ x : Fin 16, 48 ≤ (hexD x.val).toNat := by decide
theorem un_hex (b : UInt8) (r : List UInt8) : un (hexB b ++ r) = (un r).map (b :: ·) := by
  have hb := b.toNat_lt
  show un (37 :: hexD (b.toNat / 16) :: hexD (b.toNat % 16) :: r) = _
  have h1 := hex_val ⟨b.toNat / 16, by omega⟩
  have h2 := hex_val ⟨b.toNat % 16, by omega⟩
  dsimp only at h1 h2
  rw [un_esc, h1, h2, if_pos ⟨by omega, by omega⟩]
  have e : UInt8.ofNat (16 * (b.toNat / 16) + b.toNat % 16) = b := by
    have : 16 * (b.toNat / 16) + b.toNat % 16 = b.toNat := by omega
    rw [this]; simp
  rw [e]
theorem un_hexs : ∀ (bs r : List UInt8), un (bs.flatMap hexB ++ r) = (un r).map (bs ++ ·)
  | [], r => by
    show un r = (un r).map fun x => x
    cases un r <;> rfl
  | b :: bs, r => by
    rw [List.flatMap_cons, List.append_assoc, un_hex, un_hexs bs r, map_comp]
    rfl

/-- A letter's bytes: of one byte: the code point itself; of more: none below 128. -/
theorem bytes_of (s : ByteArray) (p c m : Nat) (hp : p < s.size) (h : Utf8.decode s p = (c, m)) :
    ∀ b ∈ (s.data.toList.drop p).take m, (m = 1 ∧ (b.toNat = c ∨ c = 65533)) ∨ 128 ≤ b.toNat := by
  intro b hb
  obtain ⟨i, hi, hib⟩ := List.getElem_of_mem hb
  simp at hi
  have hps : p + i < s.size := by omega
  have e : b = s.get! (p + i) := by
    rw [get!_lt s (p + i) hps, ← hib]
    simp
    rfl
  subst e
  rcases shape s p c m hp h with ⟨a1, a2, a3⟩ | ⟨a1, a2, a3⟩ | ⟨a1, a2, a3, a4, a5, a6⟩ | ⟨a1, a2, a3, a4, a5, a6, a7, a8⟩ | ⟨a1, a2, a3, a4, a5, a6, a7, a8⟩
  · left; exact ⟨a2, .inr a1⟩
  · left
    obtain rfl : i = 0 := by omega
    exact ⟨a1, .inl (by rw [a2]; rfl)⟩
  · right
    obtain rfl | rfl : i = 0 ∨ i = 1 := by omega
    · show 128 ≤ (s.get! p).toNat; omega
    · omega
  · right
    obtain rfl | rfl | rfl : i = 0 ∨ i = 1 ∨ i = 2 := by omega
    · show 128 ≤ (s.get! p).toNat; omega
    · omega
    · omega
  · right
    obtain rfl | rfl | rfl | rfl : i = 0 ∨ i = 1 ∨ i = 2 ∨ i = 3 := by omega
    · show 128 ≤ (s.get! p).toNat; omega
    · omega
    · omega
    · omega

theorem plain_bytes (s : ByteArray) (p c m : Nat) (hp : p < s.size) (h : Utf8.decode s p = (c, m)) (hpl : plainB c m = true) (h37 : c ≠ 37) :
    ∀ b ∈ (s.data.toList.drop p).take m, b ≠ 37 ∧ 33 ≤ b.toNat := by
  intro b hb
  have h1 := bytes_of s p c m hp h b hb
  have h2 : ¬ (c = 65533 ∧ m = 1) := by
    intro hx
    simp [plainB, hx] at hpl
  have h3 : 33 ≤ c := by
    simp [plainB, h2] at hpl
    omega
  constructor
  · intro e
    subst e
    have : (37 : UInt8).toNat = 37 := rfl
    omega
  · omega

theorem un_piece (s : ByteArray) (p : Nat) (hp : p < s.size) (r : List UInt8) :
    un (piece s p (Utf8.decode s p) ++ r) = (un r).map ((s.data.toList.drop p).take (Utf8.decode s p).2 ++ ·) := by
  unfold piece
  split
  · rename_i h
    exact un_plain _ r (fun b hb => (plain_bytes s p _ _ hp rfl h.1 h.2 b hb).1)
  · exact un_hexs _ r
theorem un_shF (s : ByteArray) : ∀ f p, s.size - p ≤ f → un (sh s p) = some (s.data.toList.drop p)
  | 0, p, h => by
    rw [sh_end s p (by omega), List.drop_of_length_le (by rw [bytes_len]; omega)]
    rfl
  | f + 1, p, h => by
    by_cases hp : p < s.size
    · have h1 := width s p hp
      rw [sh_step s p hp, un_piece s p hp, un_shF s f _ (by omega)]
      show some _ = some _
      congr 1
      rw [← List.drop_drop]
      exact List.take_append_drop _ _
    · rw [sh_end s p hp, List.drop_of_length_le (by rw [bytes_len]; omega)]
      rfl
theorem un_sh (s : ByteArray) : un (sh s 0) = some s.data.toList := un_shF s _ 0 (Nat.le_refl _)

theorem readO_show (s : ByteArray) : readO (S (showL s)) = some s.data.toList := by
  unfold readO
  rw [S_list]
  by_cases h0 : s.size = 0
  · have e : s.data.toList = [] := List.eq_nil_of_length_eq_zero (by rw [bytes_len]; exact h0)
    have e2 : showL s = [37] := by simp [showL, h0]
    rw [if_pos e2, e]
  · have e2 : showL s = sh s 0 := by simp only [showL, if_neg h0]
    have hu := un_sh s
    rw [e2]
    rw [if_neg (fun h => by rw [h] at hu; simp [un] at hu), hu]
    dsimp only
    rw [S_of, e2, if_pos rfl]
theorem show_inj (a b : ByteArray) (h : showL a = showL b) : a = b := by
  have h1 := readO_show a
  rw [h, readO_show b] at h1
  exact bytes_inj (Option.some.inj h1).symm

theorem piece_big (s : ByteArray) (p : Nat) (hp : p < s.size) : ∀ b ∈ piece s p (Utf8.decode s p), 33 ≤ b.toNat := by
  intro b hb
  unfold piece at hb
  split at hb
  · rename_i h
    exact (plain_bytes s p _ _ hp rfl h.1 h.2 b hb).2
  · obtain ⟨x, _, hx⟩ := List.mem_flatMap.1 hb
    have hl := x.toNat_lt
    have h1 := hex_big ⟨x.toNat / 16, by omega⟩
    have h2 := hex_big ⟨x.toNat % 16, by omega⟩
    dsimp only at h1 h2
    simp only [hexB, List.mem_cons, List.not_mem_nil, or_false] at hx
    rcases hx with rfl | rfl | rfl
    · decide
    · omega
    · omega
theorem sh_bigF (s : ByteArray) : ∀ f p, s.size - p ≤ f → ∀ b ∈ sh s p, 33 ≤ b.toNat
  | 0, p, h => by rw [sh_end s p (by omega)]; intro b hb; cases hb
  | f + 1, p, h => by
    by_cases hp : p < s.size
    · have h1 := width s p hp
      rw [sh_step s p hp]
      intro b hb
      rcases List.mem_append.1 hb with hb | hb
      · exact piece_big s p hp b hb
      · exact sh_bigF s f _ (by omega) b hb
    · rw [sh_end s p hp]; intro b hb; cases hb
theorem show_big (s : ByteArray) : ∀ b ∈ showL s, 33 ≤ b.toNat := by
  unfold showL
  split
  · intro b hb
    simp at hb
    subst hb; decide
  · exact sh_bigF s _ 0 (Nat.le_refl _)
theorem show_ne (s : ByteArray) : showL s ≠ [] := by
  intro h
  have h1 := readO_show s
  have h2 : readO (S []) = none := by decide
  rw [h, h2] at h1
  cases h1
theorem un_lenF : ∀ f (l t : List UInt8), l.length ≤ f → un l = some t → t.length ≤ l.length
  | _, [], t, _, h => by simp [un] at h; subst h; simp
  | 0, _ :: _, _, hf, _ => by simp at hf
  | f + 1, b :: r, t, hf, h => by
    simp only [List.length_cons] at hf
    by_cases hb : b = 37
    · subst hb
      rcases r with _ | ⟨x, _ | ⟨y, r⟩⟩
      · simp [un] at h
      · simp [un] at h
      · rw [un_esc] at h
        split at h
        · obtain ⟨t', h1, rfl⟩ := Option.map_eq_some_iff.1 h
          have := un_lenF f r t' (by simp at hf; omega) h1
          simp; omega
        · cases h
    · rw [un_cons b hb] at h
      obtain ⟨t', h1, rfl⟩ := Option.map_eq_some_iff.1 h
      have := un_lenF f r t' (by omega) h1
      simp; omega
theorem un_len (l t : List UInt8) (h : un l = some t) : t.length ≤ l.length := un_lenF _ l t (Nat.le_refl _) h

end Go.Proofs.YtiofjapakaoklaaDoor.Ky
