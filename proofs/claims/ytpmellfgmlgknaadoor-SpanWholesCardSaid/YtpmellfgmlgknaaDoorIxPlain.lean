/-
  Plain facts on indexes: which are right, where a key stands, putting, pages, cutting, joining. No program, no walk.
-/
import Derived.Test.YtpmellfgmlgknaaDoorVrPlain
import Derived.Test.YtpmellfgmlgknaaDoorKyPlain
import Derived.Test.YtpmellfgmlgknaaDoorKyOrder
set_option linter.unusedVariables false
namespace Go.Proofs.YtpmellfgmlgknaaDoor
open Go.RowKit

/-- An entry: a key and its chain. -/
abbrev Ent := ByteArray × List Ver
def ent0 : Ent := ({ data := #[] }, [])
def lat (l : List Ent) (i : Nat) : Ent := l.getD i ent0
/-- Does a text stand ahead of another? -/
def ltB (a b : ByteArray) : Bool := decide (Ky.compare a b < 0)
theorem cmp_neg' (a b : ByteArray) : Ky.compare b a = - Ky.compare a b := Ky.cmpL_neg _ _
theorem cmp_self (a : ByteArray) : Ky.compare a a = 0 := Ky.cmpL_self _
theorem cmp_in (a b : ByteArray) : Ky.compare a b = -1 ∨ Ky.compare a b = 0 ∨ Ky.compare a b = 1 := Ky.cmpL_range _ _
theorem cmp_trans {a b c : ByteArray} (h : Ky.compare a b ≤ 0) (h2 : Ky.compare b c ≤ 0) : Ky.compare a c ≤ 0 := Ky.cmpL_trans _ _ _ h h2
theorem cmp_zero {a b c : ByteArray} (h : Ky.compare a b = 0) : Ky.compare a c = Ky.compare b c ∧ Ky.compare c a = Ky.compare c b := by
  have e : Ky.codes a 0 = Ky.codes b 0 := Ky.cmpL_zero _ _ h
  unfold Ky.compare
  rw [e]
  exact ⟨rfl, rfl⟩
theorem lt_le {a b c : ByteArray} (h : Ky.compare a b < 0) (h2 : Ky.compare b c ≤ 0) : Ky.compare a c < 0 := by
  have h3 := cmp_trans (Int.le_of_lt h) h2
  rcases cmp_in a c with h4 | h4 | h4
  · omega
  · have h5 := (cmp_zero (c := b) h4).1
    have h6 := cmp_neg' b c
    omega
  · omega
theorem le_lt {a b c : ByteArray} (h : Ky.compare a b ≤ 0) (h2 : Ky.compare b c < 0) : Ky.compare a c < 0 := by
  have h3 := cmp_trans h (Int.le_of_lt h2)
  rcases cmp_in a c with h4 | h4 | h4
  · omega
  · have h5 := (cmp_zero (c := b) h4).2
    have h6 := cmp_neg' a b
    have h7 := cmp_neg' c b
    have h8 := cmp_neg' b c
    omega
  · omega
/-- Does a text lie in lo to hi? -/
def inR (k lo hi : ByteArray) : Bool := decide (0 ≤ Ky.compare k lo) && (decide (hi.size = 0) || decide (Ky.compare k hi < 0))
/-- The i-th entry is right, and behind the one ahead. -/
def entB (l : List Ent) (i : Nat) : Bool := (Ky.right (lat l i).1 && (decide (0 < (lat l i).2.length) && rightC (lat l i).2)) && (decide (i = 0) || ltB (lat l (i - 1)).1 (lat l i).1)
/-- Is an index valid? -/
def rightI (l : List Ent) : Bool := decide (l.length ≤ 64 ∧ ∀ i, i < l.length → entB l i = true)
theorem rightI_yes {l : List Ent} (h1 : l.length ≤ 64) (h2 : ∀ i, i < l.length → entB l i = true) : rightI l = true := by unfold rightI; exact decide_eq_true ⟨h1, h2⟩
theorem rightI_long {l : List Ent} (h : ¬ l.length ≤ 64) : rightI l = false := by unfold rightI; exact decide_eq_false fun h2 => h h2.1
theorem rightI_at {l : List Ent} {i : Nat} (hi : i < l.length) (h : entB l i = false) : rightI l = false := by
  unfold rightI; exact decide_eq_false fun h2 => by rw [h2.2 i hi] at h; cases h
theorem rightI_spec {l : List Ent} (h : rightI l = true) : l.length ≤ 64 ∧ ∀ i, i < l.length → entB l i = true := by unfold rightI at h; exact of_decide_eq_true h
theorem ent_spec {l : List Ent} (h : rightI l = true) {i : Nat} (hi : i < l.length) : Ky.right (lat l i).1 = true ∧ 0 < (lat l i).2.length ∧ rightC (lat l i).2 = true ∧ (0 < i → Ky.compare (lat l (i - 1)).1 (lat l i).1 < 0) := by
  have h2 := (rightI_spec h).2 i hi
  simp only [entB, ltB, Bool.and_eq_true, Bool.or_eq_true, decide_eq_true_eq] at h2
  refine ⟨h2.1.1, h2.1.2.1, h2.1.2.2, fun h0 => ?_⟩
  rcases h2.2 with h3 | h3
  · omega
  · exact h3
theorem ent_ok {l : List Ent} {i : Nat} (h1 : Ky.right (lat l i).1 = true) (h2 : 0 < (lat l i).2.length) (h3 : rightC (lat l i).2 = true) (h4 : 0 < i → Ky.compare (lat l (i - 1)).1 (lat l i).1 < 0) : entB l i = true := by
  simp only [entB, ltB, Bool.and_eq_true, Bool.or_eq_true, decide_eq_true_eq]
  refine ⟨⟨h1, h2, h3⟩, ?_⟩
  by_cases h0 : i = 0
  · exact .inl h0
  · exact .inr (h4 (by omega))
theorem key_step {l : List Ent} (h : rightI l = true) : ∀ (d i : Nat), i + d + 1 < l.length → Ky.compare (lat l i).1 (lat l (i + d + 1)).1 < 0 := by
  intro d
  induction d with
  | zero => intro i hi; exact (ent_spec h (i := i + 1) hi).2.2.2 (by omega)
  | succ d ih => intro i hi; exact lt_le (ih i (by omega)) (Int.le_of_lt ((ent_spec h (i := i + d + 1 + 1) hi).2.2.2 (by omega)))
theorem key_lt {l : List Ent} (h : rightI l = true) {i j : Nat} (hij : i < j) (hj : j < l.length) : Ky.compare (lat l i).1 (lat l j).1 < 0 := by
  have := key_step h (j - i - 1) i (by omega)
  rwa [show i + (j - i - 1) + 1 = j by omega] at this
theorem key_same {a b : ByteArray} (ha : Ky.right a = true) (hb : Ky.right b = true) (h : Ky.compare a b = 0) : a = b := Ky.same_bytes a b (Ky.right_pl a ha).1 (Ky.right_pl b hb).1 h

/-! ### Where a key stands -/
/-- So many entries stand ahead of a text. -/
def IsPos (l : List Ent) (k : ByteArray) (n : Nat) : Prop := n ≤ l.length ∧ (∀ i, i < n → Ky.compare (lat l i).1 k < 0) ∧ (∀ i, n ≤ i → i < l.length → 0 ≤ Ky.compare (lat l i).1 k)
theorem pos_ex {l : List Ent} (h : rightI l = true) (k : ByteArray) : ∃ n, IsPos l k n := by
  have key : ∀ m, m ≤ l.length → ∃ n, n ≤ m ∧ (∀ i, i < n → Ky.compare (lat l i).1 k < 0) ∧ (∀ i, n ≤ i → i < m → 0 ≤ Ky.compare (lat l i).1 k) := by
    intro m
    induction m with
    | zero => intro _; exact ⟨0, Nat.le_refl _, fun i hi => absurd hi (Nat.not_lt_zero _), fun i _ hi => absurd hi (Nat.not_lt_zero _)⟩
    | succ m ih =>
      intro hm
      obtain ⟨n, h1, h2, h3⟩ := ih (by omega)
      by_cases hn : n < m
      · refine ⟨n, by omega, h2, fun i hi him => ?_⟩
        by_cases him2 : i < m
        · exact h3 i hi him2
        · obtain rfl : i = m := by omega
          have h4 := h3 n (Nat.le_refl _) hn
          have h5 := key_lt h hn hm
          rcases Int.lt_or_le (Ky.compare (lat l i).1 k) 0 with h6 | h6
          · have h7 := lt_le h5 (Int.le_of_lt h6)
            omega
          · exact h6
      · obtain rfl : n = m := by omega
        rcases Int.lt_or_le (Ky.compare (lat l n).1 k) 0 with hb | hb
        · refine ⟨n + 1, Nat.le_refl _, fun i hi => ?_, fun i hi him => by omega⟩
          by_cases him2 : i < n
          · exact h2 i him2
          · obtain rfl : i = n := by omega
            exact hb
        · refine ⟨n, by omega, h2, fun i hi him => ?_⟩
          obtain rfl : i = n := by omega
          exact hb
  exact key l.length (Nat.le_refl _)
theorem pos_one {l : List Ent} {k : ByteArray} {n m : Nat} (h : IsPos l k n) (h2 : IsPos l k m) : n = m := by
  rcases Nat.lt_trichotomy n m with hlt | he | hlt
  · have h3 := h.2.2 n (Nat.le_refl _) (by have := h2.1; omega)
    have := h2.2.1 n hlt
    omega
  · exact he
  · have h3 := h2.2.2 m (Nat.le_refl _) (by have := h.1; omega)
    have := h.2.1 m hlt
    omega
/-- Is it there? -/
def thereB (l : List Ent) (k : ByteArray) (n : Nat) : Bool := decide (n < l.length ∧ (lat l n).1 = k)
/-- A key's chain. -/
def chainOf (l : List Ent) (k : ByteArray) (n : Nat) : List Ver := if thereB l k n then (lat l n).2 else []
theorem there_yes {l : List Ent} {k : ByteArray} {n : Nat} (h : thereB l k n = true) : n < l.length ∧ (lat l n).1 = k := by unfold thereB at h; exact of_decide_eq_true h
theorem there_no {l : List Ent} {k : ByteArray} {n : Nat} (h : thereB l k n = false) (h2 : n < l.length) : ¬ (lat l n).1 = k := by
  unfold thereB at h
  exact fun e => of_decide_eq_false h ⟨h2, e⟩
/-- Only at its place does a key lie. -/
theorem only_there {l : List Ent} {k : ByteArray} {n i : Nat} (h : rightI l = true) (hp : IsPos l k n) (hi : i < l.length) (he : (lat l i).1 = k) : i = n ∧ thereB l k n = true := by
  have h1 : i = n := by
    have h2 : Ky.compare (lat l i).1 k = 0 := by rw [he]; exact cmp_self _
    rcases Nat.lt_trichotomy i n with hlt | e | hlt
    · have := hp.2.1 i hlt; omega
    · exact e
    · have h3 := key_lt h hlt hi
      rw [he] at h3
      have h4 := hp.2.2 n (Nat.le_refl _) (by omega)
      omega
  subst h1
  exact ⟨rfl, by unfold thereB; exact decide_eq_true ⟨hi, he⟩⟩

end Go.Proofs.YtpmellfgmlgknaaDoor
