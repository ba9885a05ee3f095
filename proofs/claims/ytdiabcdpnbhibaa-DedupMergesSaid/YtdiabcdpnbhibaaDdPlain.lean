/-
  Plain facts on tables of what clients were told: which are right, a client's row, rows in order, putting, merging. No program, no walk.
-/
import Derived.Test.YtdiabcdpnbhibaaSmPlain
set_option linter.unusedVariables false
namespace Go.Proofs.Ytdiabcdpnbhibaa
open Go.RowKit

/-- A row: client, request, error, stamp, found, value, number of items, next, more. -/
abbrev Dn := Int × Int × Int × (Int × Int × Int) × Bool × ByteArray × Nat × ByteArray × Bool
def dn0 : Dn := (0, 0, 0, (0, 0, 0), false, { data := #[] }, 0, { data := #[] }, false)
def dC (d : Dn) : Int := d.1
def dR (d : Dn) : Int := d.2.1
def dE (d : Dn) : Int := d.2.2.1
def dS (d : Dn) : Int × Int × Int := d.2.2.2.1
def dF (d : Dn) : Bool := d.2.2.2.2.1
def dV (d : Dn) : ByteArray := d.2.2.2.2.2.1
def dN (d : Dn) : Nat := d.2.2.2.2.2.2.1
def dX (d : Dn) : ByteArray := d.2.2.2.2.2.2.2.1
def dM (d : Dn) : Bool := d.2.2.2.2.2.2.2.2
def dat (l : List Dn) (i : Nat) : Dn := l.getD i dn0
def numB (n : Int) : Bool := decide (0 < n) && decide (n ≤ 1099511627776)
/-- Is an answer plain? -/
def plainA (d : Dn) : Bool := (decide (0 ≤ dE d) && (decide (dE d ≤ 16) && (decide ((dV d).size ≤ 16) && (decide (dN d = 0) && (decide ((dX d).size = 0) && !dM d))))) && rightB (dS d).1 (dS d).2.1 (dS d).2.2
def rowB (d : Dn) : Bool := numB (dC d) && (numB (dR d) && plainA d)
def rowAt (l : List Dn) (i : Nat) : Bool := rowB (dat l i) && (decide (i = 0) || decide (dC (dat l (i - 1)) < dC (dat l i)))
/-- Is a table right? -/
def rightT (l : List Dn) : Bool := decide (l.length ≤ 8 ∧ ∀ i, i < l.length → rowAt l i = true)
theorem rightT_yes {l : List Dn} (h1 : l.length ≤ 8) (h2 : ∀ i, i < l.length → rowAt l i = true) : rightT l = true := by unfold rightT; exact decide_eq_true ⟨h1, h2⟩
theorem rightT_long {l : List Dn} (h : ¬ l.length ≤ 8) : rightT l = false := by unfold rightT; exact decide_eq_false fun h2 => h h2.1
theorem rightT_at {l : List Dn} {i : Nat} (hi : i < l.length) (h : rowAt l i = false) : rightT l = false := by
  unfold rightT; exact decide_eq_false fun h2 => by rw [h2.2 i hi] at h; cases h
theorem rightT_spec {l : List Dn} (h : rightT l = true) : l.length ≤ 8 ∧ ∀ i, i < l.length → rowAt l i = true := by unfold rightT at h; exact of_decide_eq_true h
theorem dat_get {l : List Dn} {i : Nat} (h : i < l.length) : dat l i = l[i] := by simp [dat, List.getD, h]
theorem dat_mem {l : List Dn} {e : Dn} (h : e ∈ l) : ∃ i, i < l.length ∧ dat l i = e := by
  obtain ⟨i, hi, he⟩ := List.getElem_of_mem h
  exact ⟨i, hi, by rw [dat_get hi]; exact he⟩
theorem dat_in {l : List Dn} {i : Nat} (h : i < l.length) : dat l i ∈ l := by rw [dat_get h]; exact List.getElem_mem h
/-- Rows by rising clients. -/
abbrev incT (l : List Dn) : Prop := l.Pairwise fun a b => dC a < dC b
theorem inc_iff {l : List Dn} : incT l ↔ ∀ (i j : Nat) (hi : i < l.length) (hj : j < l.length), i < j → dC l[i] < dC l[j] := List.pairwise_iff_getElem
theorem inc_cons {a : Dn} {l : List Dn} : incT (a :: l) ↔ (∀ b ∈ l, dC a < dC b) ∧ incT l := List.pairwise_cons
theorem inc_app {l m : List Dn} : incT (l ++ m) ↔ incT l ∧ incT m ∧ ∀ a ∈ l, ∀ b ∈ m, dC a < dC b := List.pairwise_append
theorem dstep_lt {l : List Dn} (h : ∀ i, 0 < i → i < l.length → dC (dat l (i - 1)) < dC (dat l i)) : ∀ (d i : Nat), i + d + 1 < l.length → dC (dat l i) < dC (dat l (i + d + 1)) := by
  intro d
  induction d with
  | zero => intro i hi; exact h (i + 1) (by omega) hi
  | succ d ih => intro i hi; exact Int.lt_trans (ih i (by omega)) (h (i + d + 1 + 1) (by omega) hi)
theorem right_parts {l : List Dn} (h : rightT l = true) : l.length ≤ 8 ∧ (∀ d ∈ l, rowB d = true) ∧ incT l := by
  obtain ⟨h1, h2⟩ := rightT_spec h
  refine ⟨h1, fun d hd => ?_, ?_⟩
  · obtain ⟨i, hi, rfl⟩ := dat_mem hd
    have h3 := h2 i hi
    unfold rowAt at h3
    rw [Bool.and_eq_true] at h3
    exact h3.1
  · rw [inc_iff]
    intro i j hi hj hij
    rw [← dat_get hi, ← dat_get hj]
    have key := dstep_lt (l := l) (fun k hk hk2 => by
      have h3 := h2 k hk2
      unfold rowAt at h3
      rw [Bool.and_eq_true, Bool.or_eq_true, decide_eq_true_eq, decide_eq_true_eq] at h3
      rcases h3.2 with h4 | h4
      · omega
      · exact h4) (j - i - 1) i (by omega)
    rwa [show i + (j - i - 1) + 1 = j by omega] at key
theorem right_whole {l : List Dn} (h1 : l.length ≤ 8) (h2 : ∀ d ∈ l, rowB d = true) (h3 : incT l) : rightT l = true := by
  refine rightT_yes h1 fun i hi => ?_
  unfold rowAt
  rw [h2 _ (dat_in hi), Bool.true_and, Bool.or_eq_true, decide_eq_true_eq, decide_eq_true_eq]
  rcases Nat.eq_zero_or_pos i with h | h
  · exact .inl h
  · refine .inr ?_
    rw [inc_iff] at h3
    have := h3 (i - 1) i (by omega) hi (by omega)
    rw [dat_get hi, dat_get (by omega : i - 1 < l.length)]
    exact this
theorem row_spec {d : Dn} (h : rowB d = true) : (0 < dC d ∧ dC d ≤ 1099511627776) ∧ (0 < dR d ∧ dR d ≤ 1099511627776) ∧ dN d = 0 := by
  unfold rowB numB plainA at h
  simp only [Bool.and_eq_true, decide_eq_true_eq] at h
  exact ⟨h.1, h.2.1, h.2.2.1.2.2.2.1⟩
theorem right_nil : rightT [] = true := rightT_yes (by simp) (fun i hi => absurd hi (Nat.not_lt_zero _))
theorem right_one {d : Dn} : rightT [d] = rowB d := by
  cases h : rowB d
  · exact rightT_at (i := 0) (by simp) (by unfold rowAt; show (rowB d && _) = false; rw [h]; rfl)
  · exact right_whole (by simp) (fun e he => by rw [List.mem_singleton] at he; rw [he]; exact h) (List.pairwise_singleton _ _)

/-! ### A client's row -/
def isC (c : Int) (d : Dn) : Bool := dC d == c
theorem isC_iff {c : Int} {d : Dn} : isC c d = true ↔ dC d = c := by unfold isC; exact beq_iff_eq
def rowT (l : List Dn) (c : Int) : Option Dn := l.find? (isC c)
def reqT (l : List Dn) (c : Int) : Int := ((rowT l c).map dR).getD 0
theorem row_at {l : List Dn} {c : Int} {k : Nat} (hk : k < l.length) (h1 : ∀ j, j < k → ¬ dC (dat l j) = c) (h2 : dC (dat l k) = c) : rowT l c = some (dat l k) := by
  unfold rowT
  rw [List.find?_eq_some_iff_getElem]
  refine ⟨isC_iff.2 h2, k, hk, (dat_get hk).symm, fun j hj => ?_⟩
  have := h1 j hj
  rw [dat_get (by omega)] at this
  cases hb : isC c l[j]
  · rfl
  · exact absurd (isC_iff.1 hb) this
theorem row_none {l : List Dn} {c : Int} (h : ∀ j, j < l.length → ¬ dC (dat l j) = c) : rowT l c = none := by
  unfold rowT
  rw [List.find?_eq_none]
  intro d hd hb
  obtain ⟨i, hi, rfl⟩ := dat_mem hd
  exact h i hi (isC_iff.1 hb)
theorem row_some {l : List Dn} {c : Int} {d : Dn} (h : rowT l c = some d) : d ∈ l ∧ dC d = c := ⟨List.mem_of_find?_eq_some h, isC_iff.1 (List.find?_some h)⟩
theorem req_at {l : List Dn} {c : Int} {d : Dn} (h : rowT l c = some d) : reqT l c = dR d := by unfold reqT; rw [h]; rfl
theorem req_none {l : List Dn} {c : Int} (h : rowT l c = none) : reqT l c = 0 := by unfold reqT; rw [h]; rfl
theorem row_ex {l : List Dn} {c : Int} : (∃ d ∈ l, dC d = c) ↔ ∃ d, rowT l c = some d := by
  constructor
  · rintro ⟨d, hd, he⟩
    cases h : rowT l c with
    | some d => exact ⟨d, rfl⟩
    | none =>
      unfold rowT at h
      rw [List.find?_eq_none] at h
      exact absurd (isC_iff.2 he) (h d hd)
  · rintro ⟨d, h⟩
    exact ⟨d, row_some h⟩
/-- In rows by rising clients each row is its client's. -/
theorem row_own {l : List Dn} (h : incT l) {d : Dn} (hd : d ∈ l) : rowT l (dC d) = some d := by
  obtain ⟨k, hk, rfl⟩ := dat_mem hd
  refine row_at hk (fun j hj => ?_) rfl
  rw [inc_iff] at h
  have := h j k (by omega) hk hj
  rw [← dat_get, ← dat_get] at this
  omega
theorem row_iff {l : List Dn} (h : incT l) {d : Dn} {c : Int} : rowT l c = some d ↔ d ∈ l ∧ dC d = c :=
  ⟨row_some, fun ⟨h1, h2⟩ => by rw [← h2]; exact row_own h h1⟩
/-- Two tables in order with the same rows are one. -/
theorem inc_ext {l m : List Dn} (hl : incT l) (hm : incT m) (h : ∀ d, d ∈ l ↔ d ∈ m) : l = m := by
  induction l generalizing m with
  | nil =>
    cases m with
    | nil => rfl
    | cons b m => exact absurd ((h b).2 List.mem_cons_self) (by simp)
  | cons a l ih =>
    cases m with
    | nil => exact absurd ((h a).1 List.mem_cons_self) (by simp)
    | cons b m =>
      rw [inc_cons] at hl hm
      have hab : a = b := by
        rcases List.mem_cons.1 ((h a).1 List.mem_cons_self) with h1 | h1
        · exact h1
        · rcases List.mem_cons.1 ((h b).2 List.mem_cons_self) with h2 | h2
          · exact h2.symm
          · have h3 := hm.1 a h1
            have h4 := hl.1 b h2
            omega
      subst hab
      rw [ih hl.2 hm.2]
      intro d
      constructor
      · intro hd
        rcases List.mem_cons.1 ((h d).1 (List.mem_cons_of_mem _ hd)) with h1 | h1
        · rw [h1] at hd
          have := hl.1 a hd
          omega
        · exact h1
      · intro hd
        rcases List.mem_cons.1 ((h d).2 (List.mem_cons_of_mem _ hd)) with h1 | h1
        · rw [h1] at hd
          have := hm.1 a hd
          omega
        · exact h1

/-! ### Rows in order, each the first one of its client -/
def IsSorted (l m : List Dn) : Prop := incT m ∧ ∀ d, d ∈ m ↔ rowT l (dC d) = some d
theorem sorted_one {l m m' : List Dn} (h : IsSorted l m) (h' : IsSorted l m') : m = m' := inc_ext h.1 h'.1 fun d => (h.2 d).trans (h'.2 d).symm
theorem sorted_self {l : List Dn} (h : incT l) : IsSorted l l := ⟨h, fun d => ⟨row_own h, fun h2 => (row_some h2).1⟩⟩
/-- While it is gone through: what is there is in order and first, the rest is behind it. -/
def SoI (l out : List Dn) : Prop := incT out ∧ (∀ d ∈ out, rowT l (dC d) = some d) ∧ ∀ x ∈ l, (∃ d ∈ out, dC d = dC x) ∨ ∀ d ∈ out, dC d < dC x
theorem soI_nil (l : List Dn) : SoI l [] := ⟨List.Pairwise.nil, by simp, fun x _ => .inr (by simp)⟩
/-- Does a row stand behind all that are there? -/
def cand (out : List Dn) (x : Dn) : Bool := decide (out.length = 0) || decide (dC (dat out (out.length - 1)) < dC x)
theorem cand_iff {out : List Dn} (h : incT out) {x : Dn} : cand out x = true ↔ ∀ d ∈ out, dC d < dC x := by
  unfold cand
  rw [Bool.or_eq_true, decide_eq_true_eq, decide_eq_true_eq]
  constructor
  · rintro (h1 | h1) d hd
    · rw [List.length_eq_zero_iff] at h1; subst h1; simp at hd
    · obtain ⟨i, hi, rfl⟩ := dat_mem hd
      rcases Nat.lt_or_ge i (out.length - 1) with h2 | h2
      · rw [inc_iff] at h
        have := h i (out.length - 1) hi (by omega) h2
        rw [← dat_get, ← dat_get] at this
        omega
      · rw [show i = out.length - 1 by omega]; exact h1
  · intro h1
    rcases Nat.eq_zero_or_pos out.length with h2 | h2
    · exact .inl h2
    · exact .inr (h1 _ (dat_in (by omega)))
theorem soI_done {l out : List Dn} (h : SoI l out) (hno : ∀ x ∈ l, cand out x = false) : IsSorted l out := by
  refine ⟨h.1, fun d => ⟨h.2.1 d, fun hd => ?_⟩⟩
  obtain ⟨hm, _⟩ := row_some hd
  rcases h.2.2 d hm with ⟨e, he, hc⟩ | h3
  · have h4 := h.2.1 e he
    rw [hc, hd] at h4
    injection h4 with h4
    rw [h4]; exact he
  · have := (cand_iff h.1).2 h3
    rw [hno d hm] at this
    cases this
/-- The best of the first k: -1 or its place. -/
def BestI (l out : List Dn) (k : Nat) (b : Int) : Prop :=
  (b = -1 ∧ ∀ j, j < k → cand out (dat l j) = false) ∨ (∃ p : Nat, b = (p : Int) ∧ p < k ∧ cand out (dat l p) = true ∧ (∀ j, j < k → cand out (dat l j) = true → dC (dat l p) ≤ dC (dat l j)) ∧ ∀ j, j < p → cand out (dat l j) = true → dC (dat l p) < dC (dat l j))
theorem best_zero (l out : List Dn) : BestI l out 0 (-1) := .inl ⟨rfl, fun j hj => absurd hj (Nat.not_lt_zero _)⟩
/-- Does the k-th row take the best's place? -/
def takes (l out : List Dn) (k : Nat) (b : Int) : Bool := cand out (dat l k) && (decide (b < 0) || decide (dC (dat l k) < dC (dat l b.toNat)))
theorem best_yes {l out : List Dn} {k : Nat} {b : Int} (h : BestI l out k b) (ht : takes l out k b = true) : BestI l out (k + 1) (k : Int) := by
  unfold takes at ht
  rw [Bool.and_eq_true, Bool.or_eq_true, decide_eq_true_eq, decide_eq_true_eq] at ht
  refine .inr ⟨k, rfl, by omega, ht.1, fun j hj hc => ?_, fun j hj hc => ?_⟩
  · rcases Nat.lt_or_ge j k with h1 | h1
    · rcases h with ⟨_, h2⟩ | ⟨p, rfl, hp, hc2, h2, h3⟩
      · rw [h2 j h1] at hc; cases hc
      · have h4 := h2 j h1 hc
        have h5 : dC (dat l k) < dC (dat l p) := by rcases ht.2 with h5 | h5; omega; simpa using h5
        omega
    · rw [show j = k by omega]; exact Int.le_refl _
  · rcases h with ⟨_, h2⟩ | ⟨p, rfl, hp, hc2, h2, h3⟩
    · rw [h2 j hj] at hc; cases hc
    · have h4 := h2 j hj hc
      have h5 : dC (dat l k) < dC (dat l p) := by rcases ht.2 with h5 | h5; omega; simpa using h5
      omega
theorem best_no {l out : List Dn} {k : Nat} {b : Int} (h : BestI l out k b) (ht : takes l out k b = false) : BestI l out (k + 1) b := by
  unfold takes at ht
  rcases h with ⟨rfl, h2⟩ | ⟨p, rfl, hp, hc2, h2, h3⟩
  · refine .inl ⟨rfl, fun j hj => ?_⟩
    rcases Nat.lt_or_ge j k with h1 | h1
    · exact h2 j h1
    · rw [show j = k by omega]
      simpa using ht
  · refine .inr ⟨p, rfl, by omega, hc2, fun j hj hc => ?_, h3⟩
    rcases Nat.lt_or_ge j k with h1 | h1
    · exact h2 j h1 hc
    · rw [show j = k by omega] at hc ⊢
      rw [hc, Bool.true_and, Bool.or_eq_false_iff, decide_eq_false_iff_not, decide_eq_false_iff_not] at ht
      have := ht.2
      simp only [Int.toNat_natCast] at this
      omega
theorem soI_next {l out : List Dn} (h : SoI l out) {p : Nat} (hb : BestI l out l.length (p : Int)) : p < l.length ∧ SoI l (out ++ [dat l p]) ∧ (l.filter (cand (out ++ [dat l p]))).length < (l.filter (cand out)).length := by
  rcases hb with ⟨h1, _⟩ | ⟨q, hq, hp, hc, h2, h3⟩
  · omega
  have hqp : q = p := by omega
  subst hqp
  have hall := (cand_iff h.1).1 hc
  have hinc : incT (out ++ [dat l q]) := by
    rw [inc_app]
    exact ⟨h.1, List.pairwise_singleton _ _, fun a ha b hb => by rw [List.mem_singleton] at hb; rw [hb]; exact hall a ha⟩
  refine ⟨hp, ⟨hinc, fun d hd => ?_, fun x hx => ?_⟩, ?_⟩
  · rcases List.mem_append.1 hd with hd | hd
    · exact h.2.1 d hd
    · rw [List.mem_singleton] at hd
      subst hd
      refine row_at hp (fun j hj he => ?_) rfl
      rcases h.2.2 _ (dat_in (show j < l.length by omega)) with ⟨e, hem, hec⟩ | h5
      · have := hall e hem
        omega
      · have := h3 j hj ((cand_iff h.1).2 h5)
        omega
  · rcases h.2.2 x hx with ⟨e, he, hec⟩ | h5
    · exact .inl ⟨e, List.mem_append.2 (.inl he), hec⟩
    · obtain ⟨j, hj, rfl⟩ := dat_mem hx
      have h6 := h2 j hj ((cand_iff h.1).2 h5)
      rcases Int.lt_or_le (dC (dat l q)) (dC (dat l j)) with h7 | h7
      · refine .inr fun d hd => ?_
        rcases List.mem_append.1 hd with hd | hd
        · exact h5 d hd
        · rw [List.mem_singleton] at hd; rw [hd]; exact h7
      · exact .inl ⟨dat l q, List.mem_append.2 (.inr (List.mem_singleton.2 rfl)), by omega⟩
  · have e : l.filter (cand (out ++ [dat l q])) = (l.filter (cand out)).filter (cand (out ++ [dat l q])) := by
      rw [List.filter_filter]
      refine List.filter_congr fun x hx => ?_
      cases hx2 : cand (out ++ [dat l q]) x
      · rfl
      · have h8 := (cand_iff hinc).1 hx2
        rw [(cand_iff h.1).2 fun d hd => h8 d (List.mem_append.2 (.inl hd))]
        rfl
    rw [e]
    refine List.length_filter_lt_length_iff_exists.2 ⟨dat l q, List.mem_filter.2 ⟨dat_in hp, hc⟩, fun h9 => ?_⟩
    have := (cand_iff hinc).1 h9 (dat l q) (List.mem_append.2 (.inr (List.mem_singleton.2 rfl)))
    omega

/-! ### Putting -/
def putT (t : List Dn) (d : Dn) : List Dn := t.filter (fun x => decide (dC x < dC d)) ++ d :: t.filter (fun x => decide (dC d < dC x))
theorem put_mem {t : List Dn} {d x : Dn} : x ∈ putT t d ↔ x = d ∨ (x ∈ t ∧ ¬ dC x = dC d) := by
  unfold putT
  simp only [List.mem_append, List.mem_cons, List.mem_filter, decide_eq_true_eq]
  constructor
  · rintro (⟨h1, h2⟩ | h1 | ⟨h1, h2⟩)
    · exact .inr ⟨h1, by omega⟩
    · exact .inl h1
    · exact .inr ⟨h1, by omega⟩
  · rintro (h1 | ⟨h1, h2⟩)
    · exact .inr (.inl h1)
    · rcases Int.lt_or_le (dC x) (dC d) with h3 | h3
      · exact .inl ⟨h1, h3⟩
      · exact .inr (.inr ⟨h1, by omega⟩)
theorem put_inc {t : List Dn} {d : Dn} (h : incT t) : incT (putT t d) := by
  unfold putT
  rw [inc_app, inc_cons]
  refine ⟨h.sublist List.filter_sublist, ⟨fun x hx => ?_, h.sublist List.filter_sublist⟩, fun a ha b hb => ?_⟩
  · have := (List.mem_filter.1 hx).2
    simpa using this
  · have h1 := (List.mem_filter.1 ha).2
    rw [decide_eq_true_eq] at h1
    rcases List.mem_cons.1 hb with h2 | h2
    · rw [h2]; exact h1
    · have h3 := (List.mem_filter.1 h2).2
      rw [decide_eq_true_eq] at h3
      omega
theorem row_cons (t : List Dn) (d : Dn) (c : Int) : rowT (d :: t) c = if dC d = c then some d else rowT t c := by
  unfold rowT
  rw [List.find?_cons]
  by_cases h : dC d = c
  · rw [if_pos h, isC_iff.2 h]
  · rw [if_neg h]
    cases hb : isC c d
    · rfl
    · exact absurd (isC_iff.1 hb) h
theorem put_sorted {t : List Dn} {d : Dn} (h : incT t) : IsSorted (d :: t) (putT t d) := by
  refine ⟨put_inc h, fun x => ?_⟩
  rw [put_mem, row_cons]
  by_cases hx : dC d = dC x
  · rw [if_pos hx]
    constructor
    · rintro (h1 | ⟨_, h2⟩)
      · rw [h1]
      · exact absurd hx.symm h2
    · intro h1
      injection h1 with h1
      exact .inl h1.symm
  · rw [if_neg hx]
    constructor
    · rintro (h1 | ⟨h1, _⟩)
      · rw [h1] at hx; exact absurd rfl hx
      · exact row_own h h1
    · intro h1
      exact .inr ⟨(row_some h1).1, fun e => hx e.symm⟩
theorem put_req {t : List Dn} {d : Dn} (h : incT t) (c : Int) : reqT (putT t d) c = if dC d = c then dR d else reqT t c := by
  have h2 := put_inc (d := d) h
  by_cases hc : dC d = c
  · rw [if_pos hc]
    exact req_at ((row_iff h2).2 ⟨put_mem.2 (.inl rfl), hc⟩)
  · rw [if_neg hc]
    cases hr : rowT t c with
    | some e =>
      obtain ⟨h3, h4⟩ := row_some hr
      rw [req_at hr]
      exact req_at ((row_iff h2).2 ⟨put_mem.2 (.inr ⟨h3, fun e2 => hc (by omega)⟩), h4⟩)
    | none =>
      rw [req_none hr]
      refine req_none ?_
      cases hp : rowT (putT t d) c with
      | none => rfl
      | some e =>
        obtain ⟨h3, h4⟩ := row_some hp
        rcases put_mem.1 h3 with h5 | ⟨h5, _⟩
        · rw [h5] at h4; exact absurd h4 hc
        · have := (row_ex (l := t) (c := c)).1 ⟨e, h5, h4⟩
          rw [hr] at this
          obtain ⟨_, h6⟩ := this
          cases h6
theorem put_rows {t : List Dn} {d : Dn} (h1 : ∀ x ∈ t, rowB x = true) (h2 : rowB d = true) : ∀ x ∈ putT t d, rowB x = true := by
  intro x hx
  rcases put_mem.1 hx with h | ⟨h, _⟩
  · rw [h]; exact h2
  · exact h1 x h
/-- How long it is. -/
theorem put_len {t : List Dn} {d : Dn} (h : incT t) : (putT t d).length = if (rowT t (dC d)).isSome then t.length else t.length + 1 := by
  have e : ∀ l : List Dn, incT l → (putT l d).length + (l.filter (isC (dC d))).length = l.length + 1 := by
    intro l hl
    unfold putT
    rw [List.length_append, List.length_cons]
    clear hl
    induction l with
    | nil => rfl
    | cons a l ih =>
      simp only [List.filter_cons]
      rcases Int.lt_trichotomy (dC a) (dC d) with h1 | h1 | h1
      · have hb : isC (dC d) a = false := by unfold isC; exact beq_eq_false_iff_ne.2 (by omega)
        rw [decide_eq_true h1, decide_eq_false (by omega : ¬ dC d < dC a), hb]
        simp
        omega
      · have hb : isC (dC d) a = true := isC_iff.2 h1
        rw [decide_eq_false (by omega : ¬ dC a < dC d), decide_eq_false (by omega : ¬ dC d < dC a), hb]
        simp
        omega
      · have hb : isC (dC d) a = false := by unfold isC; exact beq_eq_false_iff_ne.2 (by omega)
        rw [decide_eq_false (by omega : ¬ dC a < dC d), decide_eq_true h1, hb]
        simp
        omega
  have h1 := e t h
  have h2 : (t.filter (isC (dC d))).length = if (rowT t (dC d)).isSome then 1 else 0 := by
    cases hr : rowT t (dC d) with
    | none =>
      unfold rowT at hr
      rw [List.find?_eq_none] at hr
      rw [List.filter_eq_nil_iff.2 hr]
      rfl
    | some x =>
      obtain ⟨hx, hc⟩ := row_some hr
      have e2 : t.filter (isC (dC d)) = [x] := by
        refine inc_ext (h.sublist List.filter_sublist) (List.pairwise_singleton _ _) fun y => ?_
        rw [List.mem_filter, List.mem_singleton]
        constructor
        · rintro ⟨h3, h4⟩
          have h5 := (row_iff h).2 ⟨h3, isC_iff.1 h4⟩
          rw [hr] at h5
          injection h5 with h5
          exact h5.symm
        · rintro rfl
          exact ⟨hx, isC_iff.2 hc⟩
      rw [e2]
      rfl
  cases hb : (rowT t (dC d)).isSome
  · rw [hb] at h2
    simp only [Bool.false_eq_true, if_false] at h2 ⊢
    omega
  · rw [hb] at h2
    simp only [if_true] at h2 ⊢
    omega

/-! ### Merging -/
def unT (a b : List Dn) : List Dn := a.filter (fun x => decide (reqT b (dC x) ≤ dR x)) ++ b.filter (fun x => decide (reqT a (dC x) < dR x))
def IsMerged (a b m : List Dn) : Prop := incT m ∧ ∀ d, d ∈ m ↔ d ∈ unT a b
theorem merged_one {a b m m' : List Dn} (h : IsMerged a b m) (h' : IsMerged a b m') : m = m' := inc_ext h.1 h'.1 fun d => (h.2 d).trans (h'.2 d).symm
theorem un_mem {a b : List Dn} {d : Dn} : d ∈ unT a b ↔ (d ∈ a ∧ reqT b (dC d) ≤ dR d) ∨ (d ∈ b ∧ reqT a (dC d) < dR d) := by
  unfold unT
  simp only [List.mem_append, List.mem_filter, decide_eq_true_eq]
/-- No client twice. -/
theorem un_apart {a b : List Dn} (ha : incT a) (hb : incT b) {x y : Dn} (hx : x ∈ a ∧ reqT b (dC x) ≤ dR x) (hy : y ∈ b ∧ reqT a (dC y) < dR y) : ¬ dC x = dC y := by
  intro h
  have h1 : reqT a (dC y) = dR x := req_at ((row_iff ha).2 ⟨hx.1, h⟩)
  have h2 : reqT b (dC x) = dR y := req_at ((row_iff hb).2 ⟨hy.1, h.symm⟩)
  omega
theorem un_row {a b : List Dn} (ha : incT a) (hb : incT b) {d : Dn} : d ∈ unT a b ↔ rowT (unT a b) (dC d) = some d := by
  constructor
  · intro hd
    cases hr : rowT (unT a b) (dC d) with
    | none =>
      obtain ⟨_, h⟩ := (row_ex (l := unT a b) (c := dC d)).1 ⟨d, hd, rfl⟩
      rw [hr] at h; cases h
    | some e =>
      obtain ⟨he, hc⟩ := row_some hr
      rw [un_mem] at hd he
      have : e = d := by
        rcases hd with hd | hd <;> rcases he with he | he
        · have h1 := (row_iff ha).2 ⟨he.1, hc⟩
          rw [(row_iff ha).2 ⟨hd.1, rfl⟩] at h1
          injection h1 with h1
          exact h1.symm
        · exact absurd hc.symm (un_apart ha hb hd he)
        · exact absurd hc (un_apart ha hb he hd)
        · have h1 := (row_iff hb).2 ⟨he.1, hc⟩
          rw [(row_iff hb).2 ⟨hd.1, rfl⟩] at h1
          injection h1 with h1
          exact h1.symm
      rw [this]
  · intro h
    exact (row_some h).1
theorem merged_iff {a b m : List Dn} (ha : incT a) (hb : incT b) : IsMerged a b m ↔ IsSorted (unT a b) m :=
  ⟨fun h => ⟨h.1, fun d => (h.2 d).trans (un_row ha hb)⟩, fun h => ⟨h.1, fun d => (h.2 d).trans (un_row ha hb).symm⟩⟩
theorem req_pos {l : List Dn} (h : ∀ d ∈ l, rowB d = true) (c : Int) : 0 ≤ reqT l c := by
  cases hr : rowT l c with
  | none => rw [req_none hr]; exact Int.le_refl _
  | some d =>
    rw [req_at hr]
    have := (row_spec (h d (row_some hr).1)).2.1
    omega
theorem un_rows {a b : List Dn} (ha : ∀ d ∈ a, rowB d = true) (hb : ∀ d ∈ b, rowB d = true) : ∀ d ∈ unT a b, rowB d = true := by
  intro d hd
  rcases un_mem.1 hd with h | h
  · exact ha d h.1
  · exact hb d h.1
theorem merged_rows {a b m : List Dn} (ha : ∀ d ∈ a, rowB d = true) (hb : ∀ d ∈ b, rowB d = true) (h : IsMerged a b m) : ∀ d ∈ m, rowB d = true := fun d hd => un_rows ha hb d ((h.2 d).1 hd)
theorem merged_req {a b m : List Dn} (ha : incT a) (hb : incT b) (hra : ∀ d ∈ a, rowB d = true) (hrb : ∀ d ∈ b, rowB d = true) (h : IsMerged a b m) (c : Int) : reqT a c ≤ reqT m c ∧ reqT b c ≤ reqT m c := by
  have hm := req_pos (merged_rows hra hrb h) c
  constructor
  · cases hr : rowT a c with
    | none => rw [req_none hr]; exact hm
    | some d =>
      obtain ⟨hd, rfl⟩ := row_some hr
      rw [req_at hr]
      rcases Int.lt_or_le (dR d) (reqT b (dC d)) with h1 | h1
      · cases hs : rowT b (dC d) with
        | none =>
          rw [req_none hs] at h1
          have := (row_spec (hra d hd)).2.1
          omega
        | some e =>
          obtain ⟨he, hc⟩ := row_some hs
          rw [req_at hs] at h1
          have h2 : reqT m (dC d) = dR e := req_at ((row_iff h.1).2 ⟨(h.2 e).2 (un_mem.2 (.inr ⟨he, by rw [hc, req_at hr]; exact h1⟩)), hc⟩)
          omega
      · have h2 : reqT m (dC d) = dR d := req_at ((row_iff h.1).2 ⟨(h.2 d).2 (un_mem.2 (.inl ⟨hd, h1⟩)), rfl⟩)
        omega
  · cases hr : rowT b c with
    | none => rw [req_none hr]; exact hm
    | some d =>
      obtain ⟨hd, rfl⟩ := row_some hr
      rw [req_at hr]
      rcases Int.lt_or_le (reqT a (dC d)) (dR d) with h1 | h1
      · have h2 : reqT m (dC d) = dR d := req_at ((row_iff h.1).2 ⟨(h.2 d).2 (un_mem.2 (.inr ⟨hd, h1⟩)), rfl⟩)
        omega
      · cases hs : rowT a (dC d) with
        | none =>
          rw [req_none hs] at h1
          have := (row_spec (hrb d hd)).2.1
          omega
        | some e =>
          obtain ⟨he, hc⟩ := row_some hs
          rw [req_at hs] at h1
          have h2 : reqT m (dC d) = dR e := req_at ((row_iff h.1).2 ⟨(h.2 e).2 (un_mem.2 (.inl ⟨he, by rw [hc, req_at hr]; exact h1⟩)), hc⟩)
          omega

end Go.Proofs.Ytdiabcdpnbhibaa
