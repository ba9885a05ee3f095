/-
  Plain facts on spans: which are right, what they have, cutting, joining, meeting, wholes. No program, no walk.
-/
import Derived.Test.YtpmellfgmlgknaaDoorIxPlain
set_option linter.unusedVariables false
namespace Go.Proofs.YtpmellfgmlgknaaDoor
open Go.RowKit

abbrev Spn := ByteArray × ByteArray
def emp : ByteArray := { data := #[] }
theorem emp_of {s : ByteArray} (h : s.size = 0) : s = emp := by
  apply ByteArray.ext
  apply Array.eq_empty_of_size_eq_zero
  exact h
theorem codes_emp : Ky.codes emp 0 = [] := Ky.codes_end _ _ (by decide)
theorem cmp_emp (k : ByteArray) : 0 ≤ Ky.compare k emp := by
  unfold Ky.compare
  rw [codes_emp]
  cases Ky.codes k 0 <;> simp [Ky.cmpL]
/-- Does a text stand below a span's end? -/
def blw (lo hi : ByteArray) : Bool := decide (hi.size = 0) || decide (Ky.compare lo hi < 0)
/-- Is a span right? -/
def spR (s : Spn) : Bool := (decide (s.1.size = 0) || Ky.right s.1) && (decide (s.2.size = 0) || (Ky.right s.2 && decide (Ky.compare s.1 s.2 < 0)))
def spHas (s : Spn) (k : ByteArray) : Bool := spR s && (Ky.right k && inR k s.1 s.2)
theorem spR_spec {s : Spn} (h : spR s = true) : (s.1.size = 0 ∨ Ky.right s.1 = true) ∧ (s.2.size = 0 ∨ (Ky.right s.2 = true ∧ Ky.compare s.1 s.2 < 0)) := by
  simpa only [spR, Bool.and_eq_true, Bool.or_eq_true, decide_eq_true_eq] using h
theorem spR_of {s : Spn} (h : s.1.size = 0 ∨ Ky.right s.1 = true) (h2 : s.2.size = 0 ∨ (Ky.right s.2 = true ∧ Ky.compare s.1 s.2 < 0)) : spR s = true := by
  simp only [spR, Bool.and_eq_true, Bool.or_eq_true, decide_eq_true_eq]
  exact ⟨h, h2⟩
theorem right_size {k : ByteArray} (h : Ky.right k = true) : 1 ≤ k.size ∧ k.size ≤ 16 := (Ky.right_pl k h).2
theorem in_spec {k lo hi : ByteArray} : inR k lo hi = true ↔ 0 ≤ Ky.compare k lo ∧ (hi.size = 0 ∨ Ky.compare k hi < 0) := by
  simp only [inR, Bool.and_eq_true, Bool.or_eq_true, decide_eq_true_eq]
theorem has_spec {s : Spn} {k : ByteArray} : spHas s k = true ↔ spR s = true ∧ Ky.right k = true ∧ 0 ≤ Ky.compare k s.1 ∧ (s.2.size = 0 ∨ Ky.compare k s.2 < 0) := by
  unfold spHas
  rw [Bool.and_eq_true, Bool.and_eq_true, in_spec]
/-- Cutting: the error's number. -/
def cutE (s : Spn) (a : ByteArray) : Int := if spR s && Ky.right a then (if spR (s.1, a) && spR (a, s.2) then 0 else 9) else 1
def cutA (s : Spn) (a : ByteArray) : Spn := if cutE s a = 0 then (s.1, a) else (emp, emp)
def cutB (s : Spn) (a : ByteArray) : Spn := if cutE s a = 0 then (a, s.2) else (emp, emp)
/-- Joining. -/
def joinE (s t : Spn) : Int := if spR s && spR t then (if s.2.size = 0 ∨ s.2 ≠ t.1 then 9 else 0) else 1
def joinS (s t : Spn) : Spn := if joinE s t = 0 then (s.1, t.2) else (emp, emp)
/-- Meeting. -/
def meetB (s t : Spn) : Bool := spR s && (spR t && (blw s.1 t.2 && blw t.1 s.2))
theorem cut_ok {s : Spn} {a : ByteArray} (h : cutE s a = 0) : spR s = true ∧ Ky.right a = true ∧ spR (s.1, a) = true ∧ spR (a, s.2) = true := by
  unfold cutE at h
  by_cases h1 : (spR s && Ky.right a) = true
  · rw [if_pos h1] at h
    by_cases h2 : (spR (s.1, a) && spR (a, s.2)) = true
    · rw [Bool.and_eq_true] at h1 h2
      exact ⟨h1.1, h1.2, h2.1, h2.2⟩
    · rw [if_neg h2] at h; omega
  · rw [if_neg h1] at h; omega
theorem cut_zero {s : Spn} {a : ByteArray} (h : cutE s a = 0) : cutA s a = (s.1, a) ∧ cutB s a = (a, s.2) := ⟨if_pos h, if_pos h⟩
theorem cut_not {s : Spn} {a : ByteArray} (h : ¬ cutE s a = 0) : cutA s a = (emp, emp) ∧ cutB s a = (emp, emp) := ⟨if_neg h, if_neg h⟩
theorem blw_spec {lo hi : ByteArray} : blw lo hi = true ↔ hi.size = 0 ∨ Ky.compare lo hi < 0 := by
  simp only [blw, Bool.or_eq_true, decide_eq_true_eq]
theorem meet_spec {s t : Spn} : meetB s t = true ↔ spR s = true ∧ spR t = true ∧ (t.2.size = 0 ∨ Ky.compare s.1 t.2 < 0) ∧ (s.2.size = 0 ∨ Ky.compare t.1 s.2 < 0) := by
  unfold meetB
  rw [Bool.and_eq_true, Bool.and_eq_true, Bool.and_eq_true, blw_spec, blw_spec]
theorem meet_comm (s t : Spn) : meetB s t = meetB t s := by
  unfold meetB
  cases spR s <;> cases spR t <;> cases blw s.1 t.2 <;> cases blw t.1 s.2 <;> rfl
theorem meet_self (s : Spn) : meetB s s = spR s := by
  cases h : spR s
  · unfold meetB; rw [h]; rfl
  · rw [meet_spec]
    have h2 := (spR_spec h).2
    have h3 : s.2.size = 0 ∨ Ky.compare s.1 s.2 < 0 := h2.imp id fun h => h.2
    exact ⟨h, h, h3, h3⟩
theorem meet_has {s t : Spn} {k : ByteArray} (h : spHas s k = true) (h2 : spHas t k = true) : meetB s t = true := by
  obtain ⟨a1, _, a3, a4⟩ := has_spec.1 h
  obtain ⟨b1, _, b3, b4⟩ := has_spec.1 h2
  have c1 := cmp_neg' k s.1
  have c2 := cmp_neg' k t.1
  exact meet_spec.2 ⟨a1, b1, b4.imp id fun h => le_lt (by omega) h, a4.imp id fun h => le_lt (by omega) h⟩
/-- The document's way: the later beginning, the sooner end. -/
def meetS (s t : Spn) : Spn := (if 0 < Ky.compare t.1 s.1 then t.1 else s.1, if 0 < t.2.size ∧ (s.2.size = 0 ∨ Ky.compare t.2 s.2 < 0) then t.2 else s.2)
theorem meet_doc {s t : Spn} (h : spR s = true) (h2 : spR t = true) : spR (meetS s t) = meetB s t := by
  obtain ⟨a1, a2⟩ := spR_spec h
  obtain ⟨b1, b2⟩ := spR_spec h2
  have hlo : (meetS s t).1.size = 0 ∨ Ky.right (meetS s t).1 = true := by unfold meetS; dsimp only; split <;> assumption
  have key : spR (meetS s t) = true ↔ ((meetS s t).2.size = 0 ∨ Ky.compare (meetS s t).1 (meetS s t).2 < 0) := by
    constructor
    · intro h3; exact (spR_spec h3).2.imp id fun h => h.2
    · intro h3
      refine spR_of hlo (h3.imp id fun h4 => ⟨?_, h4⟩)
      unfold meetS at h4 ⊢
      dsimp only at h4 ⊢
      split
      · rcases b2 with h5 | h5
        · rename_i h6; omega
        · exact h5.1
      · rename_i h6
        rw [if_neg h6] at h4
        rcases a2 with h5 | h5
        · exfalso
          rw [emp_of h5] at h4
          have h7 := cmp_emp (if 0 < Ky.compare t.1 s.1 then t.1 else s.1)
          omega
        · exact h5.1
  have goal : ((meetS s t).2.size = 0 ∨ Ky.compare (meetS s t).1 (meetS s t).2 < 0) ↔ (t.2.size = 0 ∨ Ky.compare s.1 t.2 < 0) ∧ (s.2.size = 0 ∨ Ky.compare t.1 s.2 < 0) := by
    have a3 : s.2.size = 0 ∨ Ky.compare s.1 s.2 < 0 := a2.imp id fun h => h.2
    have b3 : t.2.size = 0 ∨ Ky.compare t.1 t.2 < 0 := b2.imp id fun h => h.2
    have n1 := cmp_neg' t.1 s.1
    have n2 := cmp_neg' t.2 s.2
    unfold meetS
    dsimp only
    by_cases hl : 0 < Ky.compare t.1 s.1
    · rw [if_pos hl]
      by_cases hh : 0 < t.2.size ∧ (s.2.size = 0 ∨ Ky.compare t.2 s.2 < 0)
      · rw [if_pos hh]
        have ht : Ky.compare t.1 t.2 < 0 := by rcases b3 with h | h <;> omega
        refine ⟨fun _ => ⟨.inr (le_lt (by omega) ht), hh.2.imp id fun h => le_lt (Int.le_of_lt ht) h⟩, fun _ => .inr ht⟩
      · rw [if_neg hh]
        constructor
        · intro h3
          refine ⟨?_, h3⟩
          by_cases ht0 : t.2.size = 0
          · exact .inl ht0
          · have h5 : ¬ (s.2.size = 0 ∨ Ky.compare t.2 s.2 < 0) := fun h6 => hh ⟨by omega, h6⟩
            refine .inr ?_
            rcases b3 with h6 | h6
            · omega
            · exact le_lt (by omega) h6
        · exact fun h3 => h3.2
    · rw [if_neg hl]
      by_cases hh : 0 < t.2.size ∧ (s.2.size = 0 ∨ Ky.compare t.2 s.2 < 0)
      · rw [if_pos hh]
        constructor
        · intro h3
          have h4 : Ky.compare s.1 t.2 < 0 := by rcases h3 with h | h <;> omega
          refine ⟨.inr h4, hh.2.imp id fun h => ?_⟩
          have ht : Ky.compare t.1 t.2 < 0 := by rcases b3 with h | h <;> omega
          exact lt_le ht (Int.le_of_lt h)
        · exact fun h3 => h3.1
      · rw [if_neg hh]
        constructor
        · intro h3
          refine ⟨?_, ?_⟩
          · by_cases ht0 : t.2.size = 0
            · exact .inl ht0
            · have h5 : ¬ (s.2.size = 0 ∨ Ky.compare t.2 s.2 < 0) := fun h6 => hh ⟨by omega, h6⟩
              refine .inr ?_
              rcases h3 with h6 | h6
              · exact absurd (.inl h6) h5
              · exact lt_le h6 (by omega)
          · exact h3.imp id fun h => le_lt (by omega) h
        · intro _; exact a3
  have hm : meetB s t = true ↔ ((t.2.size = 0 ∨ Ky.compare s.1 t.2 < 0) ∧ (s.2.size = 0 ∨ Ky.compare t.1 s.2 < 0)) := by
    rw [meet_spec]
    exact ⟨fun h3 => h3.2.2, fun h3 => ⟨h, h2, h3⟩⟩
  have hfin := key.trans (goal.trans hm.symm)
  cases e1 : spR (meetS s t) <;> cases e2 : meetB s t <;> simp_all

/-! ### What is cut -/
theorem cut_back {s : Spn} {a k : ByteArray} (h : cutE s a = 0) :
    joinE (s.1, a) (a, s.2) = 0 ∧ joinS (s.1, a) (a, s.2) = s ∧ spHas s k = (spHas (s.1, a) k || spHas (a, s.2) k) ∧ (spHas (s.1, a) k && spHas (a, s.2) k) = false ∧
    meetB (s.1, a) (a, s.2) = false ∧ meetB (s.1, a) s = true ∧ meetB s (a, s.2) = true := by
  obtain ⟨h1, h2, h3, h4⟩ := cut_ok h
  have ha := right_size h2
  have la : Ky.compare s.1 a < 0 := by
    rcases (spR_spec h3).2 with h5 | h5
    · have : a.size = 0 := h5
      omega
    · exact h5.2
  have ah : s.2.size = 0 ∨ Ky.compare a s.2 < 0 := (spR_spec h4).2.imp id fun h => h.2
  have lh : s.2.size = 0 ∨ Ky.compare s.1 s.2 < 0 := (spR_spec h1).2.imp id fun h => h.2
  have e1 : joinE (s.1, a) (a, s.2) = 0 := by
    unfold joinE
    rw [h3, h4]
    simp only [Bool.and_self, if_true]
    rw [if_neg (by simp; intro e; have h6 : a.size = 0 := by rw [e]; rfl
                   omega)]
  refine ⟨e1, if_pos e1, ?_, ?_, ?_, meet_spec.2 ⟨h3, h1, lh, .inr la⟩, meet_spec.2 ⟨h1, h4, lh, ah⟩⟩
  · have n1 := cmp_neg' k a
    have e2 : spHas s k = true ↔ (spHas (s.1, a) k = true ∨ spHas (a, s.2) k = true) := by
      rw [has_spec, has_spec, has_spec]
      constructor
      · rintro ⟨_, b2, b3, b4⟩
        rcases Int.lt_or_le (Ky.compare k a) 0 with h6 | h6
        · exact .inl ⟨h3, b2, b3, .inr h6⟩
        · exact .inr ⟨h4, b2, h6, b4⟩
      · rintro (⟨_, b2, b3, b4⟩ | ⟨_, b2, b3, b4⟩)
        · refine ⟨h1, b2, b3, ?_⟩
          have b5 : Ky.compare k a < 0 := b4.elim (fun h6 => by have h7 : a.size = 0 := h6; omega) (fun h6 => h6)
          exact ah.imp id fun h => lt_le b5 (Int.le_of_lt h)
        · refine ⟨h1, b2, ?_, b4⟩
          have b5 : 0 ≤ Ky.compare k a := b3
          have n2 := cmp_neg' k s.1
          have := lt_le la (by omega : Ky.compare a k ≤ 0)
          omega
    cases e3 : spHas s k <;> cases e4 : spHas (s.1, a) k <;> cases e5 : spHas (a, s.2) k <;> simp_all
  · cases e4 : spHas (s.1, a) k <;> cases e5 : spHas (a, s.2) k <;> try rfl
    obtain ⟨_, _, _, b4⟩ := has_spec.1 e4
    obtain ⟨_, _, b3, _⟩ := has_spec.1 e5
    have b3' : 0 ≤ Ky.compare k a := b3
    rcases b4 with h6 | h6
    · have h7 : a.size = 0 := h6
      omega
    · have h7 : Ky.compare k a < 0 := h6
      omega
  · cases e : meetB (s.1, a) (a, s.2)
    · rfl
    · obtain ⟨_, _, _, b4⟩ := meet_spec.1 e
      rcases b4 with h6 | h6
      · have h7 : a.size = 0 := h6
        omega
      · have h7 : Ky.compare a a < 0 := h6
        rw [cmp_self] at h7
        omega

/-! ### Wholes -/
def spn0 : Spn := (emp, emp)
def sat (l : List Spn) (i : Nat) : Spn := l.getD i spn0
/-- The i-th goes on from the one ahead. -/
def lnk (l : List Spn) (i : Nat) : Bool := spR (sat l i) && (decide (i = 0) || (decide (0 < (sat l i).1.size) && decide ((sat l i).1 = (sat l (i - 1)).2)))
def wholeB (l : List Spn) : Bool := decide (0 < l.length ∧ (∀ i, i < l.length → lnk l i = true) ∧ (sat l 0).1.size = 0 ∧ (sat l (l.length - 1)).2.size = 0)
theorem whole_at {l : List Spn} {i : Nat} (hi : i < l.length) (h : lnk l i = false) : wholeB l = false := by
  unfold wholeB; exact decide_eq_false fun h2 => by rw [h2.2.1 i hi] at h; cases h
theorem whole_spec {l : List Spn} (h : wholeB l = true) : 0 < l.length ∧ (∀ i, i < l.length → lnk l i = true) ∧ (sat l 0).1.size = 0 ∧ (sat l (l.length - 1)).2.size = 0 := by unfold wholeB at h; exact of_decide_eq_true h
theorem lnk_spec {l : List Spn} {i : Nat} (h : lnk l i = true) : spR (sat l i) = true ∧ (0 < i → 0 < (sat l i).1.size ∧ (sat l i).1 = (sat l (i - 1)).2) := by
  simp only [lnk, Bool.and_eq_true, Bool.or_eq_true, decide_eq_true_eq] at h
  refine ⟨h.1, fun h0 => ?_⟩
  rcases h.2 with h1 | h1
  · omega
  · exact h1
/-- How many of the first i have a key, once they are a whole's beginning. -/
def cntAt (l : List Spn) (k : ByteArray) (i : Nat) : Nat := if i = 0 then 0 else if blw k (sat l (i - 1)).2 then 1 else 0
theorem cnt_next {l : List Spn} {k : ByteArray} {i : Nat} (h : wholeB l = true) (hk : Ky.right k = true) (hi : i < l.length) : cntAt l k (i + 1) = cntAt l k i + (if spHas (sat l i) k then 1 else 0) := by
  obtain ⟨h0, h1, h2, h3⟩ := whole_spec h
  obtain ⟨hr, hl⟩ := lnk_spec (h1 i hi)
  have lh : (sat l i).2.size = 0 ∨ Ky.compare (sat l i).1 (sat l i).2 < 0 := (spR_spec hr).2.imp id fun h => h.2
  unfold cntAt
  rw [if_neg (by omega : ¬ i + 1 = 0), Nat.add_sub_cancel]
  by_cases hi0 : i = 0
  · subst hi0
    have hb : blw k (sat l 0).2 = spHas (sat l 0) k := by
      have e : spHas (sat l 0) k = true ↔ blw k (sat l 0).2 = true := by
        rw [has_spec, blw_spec]
        exact ⟨fun h => h.2.2.2, fun h => ⟨hr, hk, by rw [emp_of h2]; exact cmp_emp k, h⟩⟩
      cases e1 : spHas (sat l 0) k <;> cases e2 : blw k (sat l 0).2 <;> simp_all
    rw [hb]; simp
  · rw [if_neg hi0]
    obtain ⟨hs, he⟩ := hl (by omega)
    rw [← he]
    by_cases hb : blw k (sat l i).1 = true
    · have hlt : Ky.compare k (sat l i).1 < 0 := (blw_spec.1 hb).elim (fun h => by omega) (fun h => h)
      have e1 : blw k (sat l i).2 = true := blw_spec.2 (lh.imp id fun h => lt_le hlt (Int.le_of_lt h))
      have e2 : spHas (sat l i) k = false := by
        cases e : spHas (sat l i) k
        · rfl
        · have := (has_spec.1 e).2.2.1; omega
      rw [hb, e1, e2]; simp
    · have hge : 0 ≤ Ky.compare k (sat l i).1 := by
        rcases Int.lt_or_le (Ky.compare k (sat l i).1) 0 with h | h
        · exact absurd (blw_spec.2 (.inr h)) hb
        · exact h
      have e2 : spHas (sat l i) k = blw k (sat l i).2 := by
        have e : spHas (sat l i) k = true ↔ blw k (sat l i).2 = true := by
          rw [has_spec, blw_spec]
          exact ⟨fun h => h.2.2.2, fun h => ⟨hr, hk, hge, h⟩⟩
        cases e1 : spHas (sat l i) k <;> cases e2 : blw k (sat l i).2 <;> simp_all
      rw [e2]
      simp [hb]
theorem cnt_end {l : List Spn} {k : ByteArray} (h : wholeB l = true) : cntAt l k l.length = 1 := by
  obtain ⟨h0, _, _, h3⟩ := whole_spec h
  unfold cntAt
  rw [if_neg (by omega), show blw k (sat l (l.length - 1)).2 = true from blw_spec.2 (.inl h3)]
  rfl

end Go.Proofs.YtpmellfgmlgknaaDoor
