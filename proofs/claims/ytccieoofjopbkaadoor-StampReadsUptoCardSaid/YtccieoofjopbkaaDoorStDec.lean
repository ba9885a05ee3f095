/-
  Plain facts on decimal digits: their value, which texts are digits of a number, texts parted at full stops. No program, no walk.
-/
import Derived.Lib.ItoaNum
import Derived.Lib.AtoiAll
set_option linter.unusedVariables false
namespace Go.Proofs.YtccieoofjopbkaaDoor.Dc
open Go.Lib (decDigits)

def isD (c : UInt8) : Prop := 48 ≤ c.toNat ∧ c.toNat ≤ 57
instance (c : UInt8) : Decidable (isD c) := inferInstanceAs (Decidable (_ ∧ _))
/-- The number that digits spell behind acc. -/
def val (acc : Nat) : List UInt8 → Nat
  | [] => acc
  | c :: r => val (acc * 10 + (c.toNat - 48)) r
theorem val_snoc : ∀ (l : List UInt8) (acc : Nat) (c : UInt8), val acc (l ++ [c]) = val acc l * 10 + (c.toNat - 48)
  | [], _, _ => rfl
  | _ :: r, acc, c => val_snoc r _ c
theorem val_ge : ∀ (l : List UInt8) (acc : Nat), acc ≤ val acc l
  | [], _ => Nat.le_refl _
  | c :: r, acc => Nat.le_trans (by omega) (val_ge r (acc * 10 + (c.toNat - 48)))
theorem of48 {n : Nat} (h : n < 10) : (UInt8.ofNat (48 + n)).toNat = 48 + n := by rw [UInt8.toNat_ofNat']; omega
theorem dec_small {n : Nat} (h : n < 10) : decDigits n = [UInt8.ofNat (48 + n)] := Lib.decDigits_one h
theorem dec_big {n : Nat} (h : ¬ n < 10) : decDigits n = decDigits (n / 10) ++ [UInt8.ofNat (48 + n % 10)] := by
  rw [decDigits, dif_neg h]
theorem dec_isD (n : Nat) : ∀ c ∈ decDigits n, isD c := by
  induction n using Nat.strongRecOn with
  | ind n ih =>
    by_cases h : n < 10
    · rw [dec_small h]
      intro c hc
      obtain rfl := List.mem_singleton.1 hc
      unfold isD; rw [of48 h]; omega
    · rw [dec_big h]
      intro c hc
      rcases List.mem_append.1 hc with hc | hc
      · exact ih (n / 10) (by omega) c hc
      · obtain rfl := List.mem_singleton.1 hc
        unfold isD; rw [of48 (by omega)]; omega
theorem dec_val (n : Nat) : val 0 (decDigits n) = n := by
  induction n using Nat.strongRecOn with
  | ind n ih =>
    by_cases h : n < 10
    · rw [dec_small h]; show 0 * 10 + ((UInt8.ofNat (48 + n)).toNat - 48) = n; rw [of48 h]; omega
    · rw [dec_big h, val_snoc, ih (n / 10) (by omega), of48 (by omega)]; omega
theorem dec_pos (n : Nat) : 0 < (decDigits n).length := by
  by_cases h : n < 10
  · rw [dec_small h]; simp
  · rw [dec_big h]; simp
theorem dec_inj {a b : Nat} (h : decDigits a = decDigits b) : a = b := by rw [← dec_val a, h, dec_val]
theorem dec_head (n : Nat) (h : 1 < (decDigits n).length) : ((decDigits n).getD 0 0).toNat ≠ 48 := by
  induction n using Nat.strongRecOn with
  | ind n ih =>
    by_cases h1 : n < 10
    · rw [dec_small h1] at h; simp at h
    · have hp := dec_pos (n / 10)
      have e : (decDigits n).getD 0 0 = (decDigits (n / 10)).getD 0 0 := by
        rw [dec_big h1]
        cases hd : decDigits (n / 10) with
        | nil => rw [hd] at hp; simp at hp
        | cons x r => rfl
      rw [e]
      by_cases h2 : 1 < (decDigits (n / 10)).length
      · exact ih (n / 10) (by omega) h2
      · by_cases h3 : n / 10 < 10
        · rw [dec_small h3]
          show (UInt8.ofNat (48 + n / 10)).toNat ≠ 48
          rw [of48 h3]; omega
        · exfalso
          rw [dec_big h3] at h2
          have := dec_pos (n / 10 / 10)
          simp only [List.length_append, List.length_singleton] at h2
          omega
/-- Digits with no zero ahead are the digits of their value. -/
theorem dec_of_val (l : List UInt8) (hp : 0 < l.length) (hd : ∀ c ∈ l, isD c) (hz : 1 < l.length → (l.getD 0 0).toNat ≠ 48) : decDigits (val 0 l) = l := by
  obtain ⟨k, hk⟩ : ∃ k, l.length = k + 1 := ⟨l.length - 1, by omega⟩
  induction k generalizing l with
  | zero =>
    match l, hk with
    | [c], _ =>
      have hc := hd c (by simp)
      unfold isD at hc
      show decDigits (0 * 10 + (c.toNat - 48)) = [c]
      rw [dec_small (by omega)]
      congr 1
      apply UInt8.toNat_inj.1
      rw [of48 (by omega)]
      omega
  | succ k ih =>
    have hne : l ≠ [] := by intro e; rw [e] at hp; simp at hp
    have hl : l = l.dropLast ++ [l.getLast hne] := (List.dropLast_concat_getLast hne).symm
    have hlen : l.dropLast.length = k + 1 := by simp; omega
    have hz0 := hz (by omega)
    generalize l.getLast hne = c at hl
    generalize l.dropLast = m at *
    subst hl
    have hmd : ∀ x ∈ m, isD x := fun x hx => hd x (by simp [hx])
    have hc := hd c (by simp)
    unfold isD at hc
    have hhead : (m ++ [c]).getD 0 0 = m.getD 0 0 := by
      cases m with
      | nil => simp at hlen
      | cons x r => rfl
    rw [hhead] at hz0
    have ihm := ih m (by omega) hmd (fun _ => hz0) hlen
    have hv : 0 < val 0 m := by
      rcases Nat.eq_zero_or_pos (val 0 m) with h0 | h0
      · exfalso
        rw [h0, dec_small (by omega)] at ihm
        rw [← ihm] at hz0
        exact hz0 (of48 (n := 0) (by omega))
      · exact h0
    rw [val_snoc, dec_big (by omega)]
    have e1 : (val 0 m * 10 + (c.toNat - 48)) / 10 = val 0 m := by omega
    have e2 : (val 0 m * 10 + (c.toNat - 48)) % 10 = c.toNat - 48 := by omega
    rw [e1, e2, ihm]
    congr 2
    apply UInt8.toNat_inj.1
    rw [of48 (by omega)]
    omega

/-! ### The library's reading -/
theorem parse_val : ∀ (l : List UInt8) (acc : Nat), (∀ c ∈ l, isD c) → val acc l < 1844674407370955162 → Lib.parseUint10 acc l = .ok (val acc l)
  | [], _, _, _ => rfl
  | c :: r, acc, h, hv => by
    have hc : isD c := h c (by simp)
    unfold isD at hc
    have h1 := val_ge r (acc * 10 + (c.toNat - 48))
    have hv' : val (acc * 10 + (c.toNat - 48)) r < 1844674407370955162 := hv
    rw [Lib.parseUint10, if_pos hc, if_neg (by omega), if_neg (by omega)]
    exact parse_val r _ (fun x hx => h x (by simp [hx])) hv'
theorem atoi_dec {n : Nat} (h : n < 1844674407370955162) : Lib.atoiAll (decDigits n) = .ok (n : Int) := by
  have hd := dec_isD n
  have hv := dec_val n
  have hp := dec_pos n
  have hm : Lib.parseMag (decDigits n) = .ok n := by
    unfold Lib.parseMag
    rw [if_neg (by intro e; rw [e] at hp; simp at hp), parse_val _ _ hd (by rw [hv]; exact h), hv]
  generalize decDigits n = l at *
  cases l with
  | nil => simp at hp
  | cons c r =>
    have hc : isD c := hd c (by simp)
    unfold isD at hc
    have h1 : ¬ (c.toNat = 43 ∨ c.toNat = 45) := by omega
    have h2 : ¬ c.toNat = 45 := by omega
    unfold Lib.atoiAll
    simp only [if_neg h1, hm, if_neg h2]
    rw [if_neg (by omega), if_neg (fun h3 => h2 h3.1)]

/-! ### The document's reading of digits -/
def allD (l : List UInt8) : Bool := l.all fun c => decide (isD c)
/-- -1: none. -/
def num (l : List UInt8) : Int := if l.length = 0 ∨ 13 < l.length ∨ (1 < l.length ∧ (l.getD 0 0).toNat = 48) then -1 else if allD l then (val 0 l : Int) else -1
theorem num_dec {n : Nat} (h : n < 10 ^ 13) : num (decDigits n) = (n : Int) := by
  have hp := dec_pos n
  have hl : (decDigits n).length ≤ 13 := by
    rw [Lib.decDigits_length]
    have key : ∀ (k u : Nat), u < 10 ^ (k + 1) → Lib.nDigits u ≤ k + 1 := by
      intro k
      induction k with
      | zero => intro u hu; rw [Lib.nDigits_small (by simpa using hu)]; exact Nat.le_refl _
      | succ k ih =>
        intro u hu
        by_cases h1 : u < 10
        · rw [Lib.nDigits_small h1]; omega
        · rw [Lib.nDigits_big h1]
          have := ih (u / 10) (by rw [Nat.pow_succ] at hu; omega)
          omega
    exact key 12 n h
  have hh := dec_head n
  unfold num
  rw [if_neg (by
    rintro (h1 | h1 | ⟨h1, h2⟩)
    · omega
    · omega
    · exact hh h1 h2), if_pos (by
    unfold allD
    rw [List.all_eq_true]
    intro c hc
    simpa using dec_isD n c hc), dec_val]
theorem num_of {l : List UInt8} (h : 0 ≤ num l) : l = decDigits (num l).toNat := by
  unfold num at *
  split at h
  · omega
  · rename_i h1
    rw [if_neg h1]
    split at h
    · rename_i h2
      rw [if_pos h2]
      have hd : ∀ c ∈ l, isD c := by
        unfold allD at h2
        rw [List.all_eq_true] at h2
        intro c hc
        simpa using h2 c hc
      have := dec_of_val l (by omega) hd (fun h3 h4 => h1 (.inr (.inr ⟨h3, h4⟩)))
      rw [Int.toNat_natCast]
      exact this.symm
    · omega

/-! ### Texts parted at full stops -/
def dot : UInt8 := 46
/-- The parts of a text. -/
def parts : List UInt8 → List (List UInt8)
  | [] => [[]]
  | c :: r => if c = dot then [] :: parts r else
    match parts r with
    | [] => [[c]]
    | p :: ps => (c :: p) :: ps
theorem parts_none : ∀ (l : List UInt8), (∀ c ∈ l, c ≠ dot) → parts l = [l]
  | [], _ => rfl
  | c :: r, h => by
    have hc : c ≠ dot := h c (by simp)
    rw [parts, if_neg hc, parts_none r (fun x hx => h x (by simp [hx]))]
theorem parts_at : ∀ (l r : List UInt8), (∀ c ∈ l, c ≠ dot) → parts (l ++ dot :: r) = l :: parts r
  | [], r, _ => by
    show parts (dot :: r) = _
    rw [parts, if_pos rfl]
  | c :: l, r, h => by
    have hc : c ≠ dot := h c (by simp)
    show parts (c :: (l ++ dot :: r)) = _
    rw [parts, if_neg hc, parts_at l r (fun x hx => h x (by simp [hx]))]
theorem isD_dot {c : UInt8} (h : isD c) : c ≠ dot := by
  intro e; rw [e] at h; exact absurd h.1 (by decide)

/-- What is read of a text's parts: three numbers, or none. -/
def three (l : List UInt8) : Option (Int × Int × Int) :=
  match (parts l).map num with
  | [x, y, z] => some (x, y, z)
  | _ => none
theorem three_of {l p q r : List UInt8} (h : parts l = [p, q, r]) : three l = some (num p, num q, num r) := by
  unfold three; rw [h]; rfl
theorem parts_back : ∀ (l : List UInt8) (p : List UInt8) (ps : List (List UInt8)), parts l = p :: ps → (ps = [] ∧ l = p) ∨ (∃ r, l = p ++ dot :: r ∧ parts r = ps)
  | [], p, ps, h => by
    simp only [parts, List.cons.injEq] at h
    exact .inl ⟨h.2.symm, h.1⟩
  | c :: r, p, ps, h => by
    rw [parts] at h
    split at h
    · rename_i hc
      simp only [List.cons.injEq] at h
      exact .inr ⟨r, by rw [← h.1, hc]; rfl, h.2⟩
    · cases hr : parts r with
      | nil =>
        rw [hr] at h
        exfalso
        cases r with
        | nil => simp [parts] at hr
        | cons x t =>
          rw [parts] at hr
          split at hr
          · cases hr
          · split at hr <;> cases hr
      | cons p' ps' =>
        rw [hr] at h
        simp only [List.cons.injEq] at h
        obtain ⟨h1, h2⟩ := h
        subst h2
        rcases parts_back r p' ps' hr with ⟨h3, h4⟩ | ⟨t, h3, h4⟩
        · exact .inl ⟨h3, by rw [h4, h1]⟩
        · exact .inr ⟨t, by rw [h3, ← h1]; rfl, h4⟩
/-- The text of three numbers. -/
def text (x y z : Nat) : List UInt8 := decDigits x ++ dot :: (decDigits y ++ dot :: decDigits z)
theorem no_dot (n : Nat) : ∀ c ∈ decDigits n, c ≠ dot := fun c hc => isD_dot (dec_isD n c hc)
theorem parts_text (x y z : Nat) : parts (text x y z) = [decDigits x, decDigits y, decDigits z] := by
  unfold text
  rw [parts_at _ _ (no_dot x), parts_at _ _ (no_dot y), parts_none _ (no_dot z)]
theorem three_text {x y z : Nat} (hx : x < 10 ^ 13) (hy : y < 10 ^ 13) (hz : z < 10 ^ 13) : three (text x y z) = some ((x : Int), (y : Int), (z : Int)) := by
  rw [three_of (parts_text x y z), num_dec hx, num_dec hy, num_dec hz]
theorem text_of {l : List UInt8} {x y z : Int} (h : three l = some (x, y, z)) (hx : 0 ≤ x) (hy : 0 ≤ y) (hz : 0 ≤ z) : l = text x.toNat y.toNat z.toNat := by
  unfold three at h
  split at h
  · rename_i x' y' z' hm
    simp only [Option.some.injEq, Prod.mk.injEq] at h
    obtain ⟨rfl, rfl, rfl⟩ := h
    match hp : parts l, hm with
    | [p, q, r], hm =>
      simp only [List.map_cons, List.map_nil, List.cons.injEq, and_true] at hm
      obtain ⟨h1, h2, h3⟩ := hm
      rcases parts_back l p [q, r] hp with ⟨h, _⟩ | ⟨t, ht, hpt⟩
      · cases h
      rcases parts_back t q [r] hpt with ⟨h, _⟩ | ⟨u, hu, hpu⟩
      · cases h
      rcases parts_back u r [] hpu with ⟨_, hu2⟩ | ⟨v, _, hv⟩
      · subst h1 h2 h3
        unfold text
        rw [ht, hu, hu2, ← num_of hx, ← num_of hy, ← num_of hz]
      · exfalso
        cases v with
        | nil => simp [parts] at hv
        | cons c t =>
          rw [parts] at hv
          split at hv
          · cases hv
          · split at hv <;> cases hv
  · cases h

end Go.Proofs.YtccieoofjopbkaaDoor.Dc
