/-
  Plain facts on chains of versions: which are right, the version at a stamp, pruning. No program, no walk.
-/
import Derived.Test.YtpmellfgmlgknaaDoorSmPlain
set_option linter.unusedVariables false
namespace Go.Proofs.YtpmellfgmlgknaaDoor
open Go.RowKit

/-- A version: Wall, Tick, Node, Gone, Value. -/
abbrev Ver := Int × Int × Int × Bool × ByteArray
def ver0 : Ver := (0, 0, 0, false, { data := #[] })
/-- The i-th. -/
def vat (l : List Ver) (i : Nat) : Ver := l.getD i ver0
/-- Is a stamp ahead of a version's? -/
def befS (a b c : Int) (v : Ver) : Bool := befB a b c v.1 v.2.1 v.2.2.1
/-- Is a version's stamp ahead of another's? -/
def befV (u v : Ver) : Bool := befB u.1 u.2.1 u.2.2.1 v.1 v.2.1 v.2.2.1
/-- Is a version valid? -/
def oneB (v : Ver) : Bool := (!(v.2.2.2.1 && decide (0 < v.2.2.2.2.size))) && (rightB v.1 v.2.1 v.2.2.1 && decide (v.2.2.2.2.size ≤ 16))
def okAt (l : List Ver) (i : Nat) : Bool := oneB (vat l i) && (decide (i = 0) || befV (vat l (i - 1)) (vat l i))
/-- Is a chain valid? -/
def rightC (l : List Ver) : Bool := decide (l.length ≤ 64 ∧ ∀ i, i < l.length → okAt l i = true)
theorem rightC_yes {l : List Ver} (h1 : l.length ≤ 64) (h2 : ∀ i, i < l.length → okAt l i = true) : rightC l = true := by unfold rightC; exact decide_eq_true ⟨h1, h2⟩
theorem rightC_long {l : List Ver} (h : ¬ l.length ≤ 64) : rightC l = false := by unfold rightC; exact decide_eq_false fun h2 => h h2.1
theorem rightC_at {l : List Ver} {i : Nat} (hi : i < l.length) (h : okAt l i = false) : rightC l = false := by
  unfold rightC; exact decide_eq_false fun h2 => by rw [h2.2 i hi] at h; cases h
theorem rightC_spec {l : List Ver} (h : rightC l = true) : l.length ≤ 64 ∧ ∀ i, i < l.length → okAt l i = true := by unfold rightC at h; exact of_decide_eq_true h
theorem bef_trans {a1 a2 a3 b1 b2 b3 c1 c2 c3 : Int} (h : befB a1 a2 a3 b1 b2 b3 = true) (h2 : befB b1 b2 b3 c1 c2 c3 = true) : befB a1 a2 a3 c1 c2 c3 = true := by
  unfold befB at *
  revert h h2
  (repeat' split) <;> simp <;> omega
/-- Not later, then ahead: ahead. -/
theorem bef_le {a1 a2 a3 b1 b2 b3 c1 c2 c3 : Int} (h : befB b1 b2 b3 a1 a2 a3 = false) (h2 : befB b1 b2 b3 c1 c2 c3 = true) : befB a1 a2 a3 c1 c2 c3 = true := by
  unfold befB at *
  revert h h2
  (repeat' split) <;> simp <;> omega
theorem one_next {l : List Ver} (h : rightC l = true) {i : Nat} (hi : i < l.length) : oneB (vat l i) = true := by
  have h2 := (rightC_spec h).2 i hi
  simp only [okAt, Bool.and_eq_true] at h2
  exact h2.1
theorem bef_next {l : List Ver} (h : rightC l = true) {i : Nat} (hi : i + 1 < l.length) : befV (vat l i) (vat l (i + 1)) = true := by
  have h2 := (rightC_spec h).2 (i + 1) hi
  simp only [okAt, Bool.and_eq_true, Bool.or_eq_true, decide_eq_true_eq] at h2
  rcases h2.2 with h3 | h3
  · omega
  · simpa using h3
theorem bef_all {l : List Ver} (h : rightC l = true) : ∀ (d i : Nat), i + d + 1 < l.length → befV (vat l i) (vat l (i + d + 1)) = true := by
  intro d
  induction d with
  | zero => intro i hi; exact bef_next h hi
  | succ d ih => intro i hi; exact bef_trans (ih i (by omega)) (bef_next h (i := i + d + 1) (by omega))
theorem bef_lt {l : List Ver} (h : rightC l = true) {i j : Nat} (hij : i < j) (hj : j < l.length) : befV (vat l i) (vat l j) = true := by
  have := bef_all h (j - i - 1) i (by omega)
  rwa [show i + (j - i - 1) + 1 = j by omega] at this
/-- So many versions of a chain are not later than a stamp. -/
def IsCnt (l : List Ver) (a b c : Int) (n : Nat) : Prop := n ≤ l.length ∧ (∀ i, i < n → befS a b c (vat l i) = false) ∧ (∀ i, n ≤ i → i < l.length → befS a b c (vat l i) = true)
theorem cnt_ex {l : List Ver} (h : rightC l = true) (a b c : Int) : ∃ n, IsCnt l a b c n := by
  have key : ∀ k, k ≤ l.length → ∃ n, n ≤ k ∧ (∀ i, i < n → befS a b c (vat l i) = false) ∧ (∀ i, n ≤ i → i < k → befS a b c (vat l i) = true) := by
    intro k
    induction k with
    | zero => intro _; exact ⟨0, Nat.le_refl _, fun i hi => absurd hi (Nat.not_lt_zero _), fun i _ hi => absurd hi (Nat.not_lt_zero _)⟩
    | succ k ih =>
      intro hk
      obtain ⟨n, h1, h2, h3⟩ := ih (by omega)
      by_cases hn : n < k
      · refine ⟨n, by omega, h2, fun i hi hik => ?_⟩
        by_cases hik2 : i < k
        · exact h3 i hi hik2
        · obtain rfl : i = k := by omega
          exact bef_trans (h3 n (Nat.le_refl _) hn) (bef_lt h hn hk)
      · obtain rfl : n = k := by omega
        cases hb : befS a b c (vat l n)
        · refine ⟨n + 1, Nat.le_refl _, fun i hi => ?_, fun i hi hik => by omega⟩
          by_cases hik2 : i < n
          · exact h2 i hik2
          · obtain rfl : i = n := by omega
            exact hb
        · refine ⟨n, by omega, h2, fun i hi hik => ?_⟩
          obtain rfl : i = n := by omega
          exact hb
  exact key l.length (Nat.le_refl _)
theorem cnt_one {l : List Ver} {a b c : Int} {n m : Nat} (h : IsCnt l a b c n) (h2 : IsCnt l a b c m) : n = m := by
  rcases Nat.lt_trichotomy n m with hlt | he | hlt
  · have h3 := h.2.2 n (Nat.le_refl _) (by have := h2.1; omega)
    rw [h2.2.1 n hlt] at h3; cases h3
  · exact he
  · have h3 := h2.2.2 m (Nat.le_refl _) (by have := h.1; omega)
    rw [h.2.1 m hlt] at h3; cases h3
/-- The version of a chain at a stamp. -/
def IsAt (l : List Ver) (a b c : Int) (v : Ver) (ok : Bool) : Prop :=
  (rightC l = false ∧ v = ver0 ∧ ok = false) ∨ (rightC l = true ∧ IsCnt l a b c 0 ∧ v = ver0 ∧ ok = false) ∨ (rightC l = true ∧ ok = true ∧ ∃ n, IsCnt l a b c (n + 1) ∧ v = vat l n)
theorem at_ex (l : List Ver) (a b c : Int) : ∃ v ok, IsAt l a b c v ok := by
  cases h : rightC l
  · exact ⟨_, _, .inl ⟨h, rfl, rfl⟩⟩
  · obtain ⟨n, hn⟩ := cnt_ex h a b c
    cases n with
    | zero => exact ⟨_, _, .inr (.inl ⟨h, hn, rfl, rfl⟩)⟩
    | succ n => exact ⟨_, _, .inr (.inr ⟨h, rfl, n, hn, rfl⟩)⟩
/-- The value that a version gives. -/
def valV (v : Ver) (ok : Bool) : ByteArray := if ok && !v.2.2.2.1 then v.2.2.2.2 else { data := #[] }
def hasV (v : Ver) (ok : Bool) : Bool := ok && !v.2.2.2.1
/-- So many versions fall out of a chain that is pruned. -/
def IsCut (l : List Ver) (a b c : Int) (k : Nat) : Prop := ∃ n, IsCnt l a b c n ∧ ((n = 0 ∧ k = 0) ∨ (0 < n ∧ (vat l (n - 1)).2.2.2.1 = true ∧ k = n) ∨ (0 < n ∧ (vat l (n - 1)).2.2.2.1 = false ∧ k = n - 1))
theorem cut_ex {l : List Ver} (h : rightC l = true) (a b c : Int) : ∃ k, IsCut l a b c k := by
  obtain ⟨n, hn⟩ := cnt_ex h a b c
  by_cases h0 : n = 0
  · exact ⟨0, n, hn, .inl ⟨h0, rfl⟩⟩
  · cases hg : (vat l (n - 1)).2.2.2.1
    · exact ⟨_, n, hn, .inr (.inr ⟨by omega, hg, rfl⟩)⟩
    · exact ⟨_, n, hn, .inr (.inl ⟨by omega, hg, rfl⟩)⟩
theorem cut_le {l : List Ver} {a b c : Int} {k : Nat} (h : IsCut l a b c k) : k ≤ l.length := by
  obtain ⟨n, h1, h2⟩ := h
  have := h1.1
  omega
theorem vat_drop (l : List Ver) (k i : Nat) : vat (l.drop k) i = vat l (k + i) := by simp [vat, List.getD]
theorem right_drop {l : List Ver} (h : rightC l = true) (k : Nat) : rightC (l.drop k) = true := by
  obtain ⟨h1, h2⟩ := rightC_spec h
  refine rightC_yes (by simp; omega) fun i hi => ?_
  simp only [List.length_drop] at hi
  have h3 := h2 (k + i) (by omega)
  simp only [okAt, Bool.and_eq_true, Bool.or_eq_true, decide_eq_true_eq, vat_drop] at *
  refine ⟨h3.1, ?_⟩
  by_cases hi0 : i = 0
  · exact .inl hi0
  · refine .inr ?_
    rcases h3.2 with h4 | h4
    · omega
    · rwa [show k + i - 1 = k + (i - 1) by omega] at h4
theorem cnt_drop {l : List Ver} {a b c : Int} {n : Nat} (h : IsCnt l a b c n) {k : Nat} (hk : k ≤ l.length) : IsCnt (l.drop k) a b c (n - k) := by
  obtain ⟨h1, h2, h3⟩ := h
  refine ⟨by simp; omega, fun i hi => ?_, fun i hi hi2 => ?_⟩
  · rw [vat_drop]; exact h2 _ (by omega)
  · rw [vat_drop]; simp only [List.length_drop] at hi2; exact h3 _ (by omega) (by omega)
/-- A later stamp: at least as many. -/
theorem cnt_mono {l : List Ver} {a b c a' b' c' : Int} {n m : Nat} (h : IsCnt l a b c n) (h2 : IsCnt l a' b' c' m) (hle : befB a' b' c' a b c = false) : n ≤ m := by
  rcases Nat.lt_or_ge m n with hlt | hge
  · have h3 := h2.2.2 m (Nat.le_refl _) (by have := h.1; omega)
    have h4 : befS a b c (vat l m) = true := bef_le hle h3
    rw [h.2.1 m hlt] at h4; cases h4
  · exact hge
theorem cut_mono {l : List Ver} {a b c a' b' c' : Int} {k j : Nat} (h : IsCut l a b c k) (h2 : IsCut l a' b' c' j) (hle : befB a' b' c' a b c = false) : k ≤ j := by
  obtain ⟨n, hn, h3⟩ := h
  obtain ⟨m, hm, h4⟩ := h2
  have h5 := cnt_mono hn hm hle
  by_cases he : n = m
  · subst he
    rcases h3 with ⟨_, _⟩ | ⟨_, e1, _⟩ | ⟨_, e1, _⟩ <;> rcases h4 with ⟨_, _⟩ | ⟨_, e2, _⟩ | ⟨_, e2, _⟩ <;> first | omega | (rw [e1] at e2; cases e2)
  · omega
/-- Pruned by one mark behind another: as by the greater cut. -/
theorem cut_cut {l : List Ver} {a b c a' b' c' : Int} {k j i : Nat} (h : IsCut l a b c k) (h2 : IsCut l a' b' c' j) (h3 : IsCut (l.drop k) a' b' c' i) : k + i = max k j := by
  obtain ⟨m, hm, h4⟩ := h2
  obtain ⟨q, hq, h5⟩ := h3
  have h6 := cnt_one hq (cnt_drop hm (cut_le h))
  subst h6
  by_cases hmk : m ≤ k
  · have : m - k = 0 := by omega
    rcases h5 with ⟨_, e⟩ | ⟨h0, _⟩ | ⟨h0, _⟩
    · have : j ≤ k := by omega
      omega
    · omega
    · omega
  · rw [vat_drop, show k + (m - k - 1) = m - 1 by omega] at h5
    rcases h4 with ⟨_, _⟩ | ⟨_, e1, _⟩ | ⟨_, e1, _⟩ <;> rcases h5 with ⟨_, _⟩ | ⟨_, e2, _⟩ | ⟨_, e2, _⟩ <;> first | omega | (rw [e1] at e2; cases e2)
theorem cut_twice {l : List Ver} {a b c a' b' c' x y z : Int} {k i m : Nat} (h : IsCut l a b c k) (h2 : IsCut (l.drop k) a' b' c' i) (hr : rightC l = true)
    (hl : (x = a ∧ y = b ∧ z = c ∧ befB a b c a' b' c' = false) ∨ (x = a' ∧ y = b' ∧ z = c' ∧ befB a' b' c' a b c = false)) (h3 : IsCut l x y z m) : (l.drop k).drop i = l.drop m := by
  obtain ⟨j, hj⟩ := cut_ex hr a' b' c'
  rw [List.drop_drop, cut_cut h hj h2]
  congr 1
  rcases hl with ⟨rfl, rfl, rfl, hle⟩ | ⟨rfl, rfl, rfl, hle⟩
  · have h4 : IsCut l x y z k := h
    have h5 := cut_mono hj h4 hle
    have h6 := cut_mono h3 h4 (bef_irr _ _ _)
    have h7 := cut_mono h4 h3 (bef_irr _ _ _)
    omega
  · have h5 := cut_mono h hj hle
    have h6 := cut_mono h3 hj (bef_irr _ _ _)
    have h7 := cut_mono hj h3 (bef_irr _ _ _)
    omega
/-- At a moment from the mark on a pruned chain has the value that it had. -/
theorem cut_keeps {l : List Ver} {a b c x y z : Int} {k : Nat} {v u : Ver} {ok ok' : Bool} (hr : rightC l = true) (h : IsCut l a b c k) (hle : befB x y z a b c = false) (h1 : IsAt l x y z v ok) (h2 : IsAt (l.drop k) x y z u ok') :
    valV v ok = valV u ok' ∧ hasV v ok = hasV u ok' := by
  obtain ⟨n, hn, h3⟩ := h
  have hkl : k ≤ l.length := by have := hn.1; omega
  rcases h2 with ⟨e, _⟩ | ⟨_, c2, rfl, rfl⟩ | ⟨_, rfl, m2, c2, rfl⟩
  · rw [right_drop hr k] at e; cases e
  · rcases h1 with ⟨e, _⟩ | ⟨_, c1, rfl, rfl⟩ | ⟨_, rfl, m1, c1, rfl⟩
    · rw [hr] at e; cases e
    · exact ⟨rfl, rfl⟩
    · have h4 := cnt_one c2 (cnt_drop c1 hkl)
      have h5 := cnt_mono hn c1 hle
      have h6 : n = m1 + 1 ∧ (vat l (n - 1)).2.2.2.1 = true := by
        rcases h3 with ⟨_, _⟩ | ⟨_, e1, _⟩ | ⟨_, e1, _⟩
        · omega
        · exact ⟨by omega, e1⟩
        · omega
      rw [h6.1, Nat.add_sub_cancel] at h6
      simp [valV, hasV, h6.2]
  · rcases h1 with ⟨e, _⟩ | ⟨_, c1, rfl, rfl⟩ | ⟨_, rfl, m1, c1, rfl⟩
    · rw [hr] at e; cases e
    · have h4 := cnt_one c2 (cnt_drop c1 hkl)
      omega
    · have h4 := cnt_one c2 (cnt_drop c1 hkl)
      rw [vat_drop, show k + m2 = m1 by omega]
      exact ⟨rfl, rfl⟩
/-! ### A version more -/
theorem vat_snoc (l : List Ver) (v : Ver) (i : Nat) : vat (l ++ [v]) i = if i < l.length then vat l i else if i = l.length then v else ver0 := by
  unfold vat
  by_cases h : i < l.length
  · simp [h, List.getD, List.getElem?_append_left h]
  · by_cases h2 : i = l.length
    · subst h2; simp [List.getD]
    · have : l.length + 1 ≤ i := by omega
      simp [h, h2, List.getD, this]
theorem right_snoc {l : List Ver} {v : Ver} (h : rightC l = true) (h2 : oneB v = true) (h3 : l.length < 64) (h4 : l.length = 0 ∨ befV (vat l (l.length - 1)) v = true) : rightC (l ++ [v]) = true := by
  refine rightC_yes (by simp; omega) fun i hi => ?_
  simp only [List.length_append, List.length_cons, List.length_nil] at hi
  by_cases hil : i < l.length
  · have h5 := (rightC_spec h).2 i hil
    simp only [okAt, vat_snoc, hil, show i - 1 < l.length by omega, if_true] at *
    exact h5
  · obtain rfl : i = l.length := by omega
    simp only [okAt, vat_snoc, Nat.lt_irrefl, if_true, if_false, h2, Bool.true_and, Bool.or_eq_true, decide_eq_true_eq]
    rcases h4 with h4 | h4
    · exact .inl h4
    · by_cases h0 : l.length = 0
      · exact .inl h0
      · refine .inr ?_
        rw [if_pos (by omega)]
        exact h4
/-- Ahead of what was added all is as it was; from it on it is the value. -/
theorem snoc_at {l : List Ver} {v u w : Ver} {ok ok' : Bool} {a b c : Int} (h : rightC l = true) (h2 : rightC (l ++ [v]) = true) (h3 : IsAt (l ++ [v]) a b c u ok) :
    (befS a b c v = false → u = v ∧ ok = true) ∧ (befS a b c v = true → IsAt l a b c w ok' → u = w ∧ ok = ok') := by
  have hv : vat (l ++ [v]) l.length = v := by rw [vat_snoc, if_neg (Nat.lt_irrefl _), if_pos rfl]
  constructor
  · intro hb
    rcases h3 with ⟨e, _⟩ | ⟨_, c2, _, _⟩ | ⟨_, rfl, m, c2, rfl⟩
    · rw [h2] at e; cases e
    · have h5 := c2.2.2 l.length (by omega) (by simp)
      rw [hv, hb] at h5; cases h5
    · have hm : m = l.length := by
        have h6 := c2.1
        simp only [List.length_append, List.length_cons, List.length_nil] at h6
        by_cases hml : m = l.length
        · exact hml
        · have h5 := c2.2.2 l.length (by omega) (by simp)
          rw [hv, hb] at h5; cases h5
      subst hm
      exact ⟨hv, rfl⟩
  · intro hb hw
    have hcnt : ∀ {n}, IsCnt (l ++ [v]) a b c n → IsCnt l a b c n := by
      intro n hn
      have hnl : n ≤ l.length := by
        rcases Nat.lt_or_ge l.length n with hlt | hge
        · have h5 := hn.2.1 l.length hlt
          rw [hv, hb] at h5; cases h5
        · exact hge
      refine ⟨hnl, fun i hi => ?_, fun i hi hil => ?_⟩
      · have h5 := hn.2.1 i hi
        rwa [vat_snoc, if_pos (by omega)] at h5
      · have h5 := hn.2.2 i hi (by simp; omega)
        rwa [vat_snoc, if_pos hil] at h5
    rcases h3 with ⟨e, _⟩ | ⟨_, c2, rfl, rfl⟩ | ⟨_, rfl, m, c2, rfl⟩
    · rw [h2] at e; cases e
    · rcases hw with ⟨e, _⟩ | ⟨_, _, rfl, rfl⟩ | ⟨_, rfl, m1, c1, rfl⟩
      · rw [h] at e; cases e
      · exact ⟨rfl, rfl⟩
      · have := cnt_one (hcnt c2) c1; omega
    · have h7 := hcnt c2
      rcases hw with ⟨e, _⟩ | ⟨_, c1, rfl, rfl⟩ | ⟨_, rfl, m1, c1, rfl⟩
      · rw [h] at e; cases e
      · have := cnt_one h7 c1; omega
      · obtain rfl : m = m1 := by have := cnt_one h7 c1; omega
        rw [vat_snoc, if_pos (by have := h7.1; omega)]
        exact ⟨rfl, rfl⟩

end Go.Proofs.YtpmellfgmlgknaaDoor
