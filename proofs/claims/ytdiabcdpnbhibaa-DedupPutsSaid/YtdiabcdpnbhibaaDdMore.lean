/-
  Plain facts on what putting and merging tables give.
-/
import Derived.Test.YtdiabcdpnbhibaaDdRefPut
import Derived.Test.YtdiabcdpnbhibaaDdRefMerge
set_option linter.unusedVariables false
namespace Go.Proofs.Ytdiabcdpnbhibaa
open Go.RowKit

theorem dput_bare {t : List Dn} {d : Dn} {m : List Dn} {e : Int} (h : IsDPut t d m e) : ∀ x ∈ m, dN x = 0 := by
  rcases h with ⟨_, rfl, _⟩ | ⟨_, _, _, rfl, _⟩ | ⟨_, _, _, _, rfl, _⟩ | ⟨h1, h2, _, _, rfl, _⟩
  · simp
  · simp
  · simp
  · exact fun x hx => (row_spec (put_rows (right_parts h1).2.1 h2 x hx)).2.2
theorem dmerge_ex (a b : List Dn) : ∃ m e, IsDMerge a b m e := by
  cases h1 : rightT a
  · exact ⟨_, _, .inl ⟨.inl h1, rfl, rfl⟩⟩
  cases h2 : rightT b
  · exact ⟨_, _, .inl ⟨.inr h2, rfl, rfl⟩⟩
  rcases Nat.lt_or_ge 8 (unT a b).length with h4 | h4
  · exact ⟨_, _, .inr (.inl ⟨h1, h2, h4, rfl, rfl⟩)⟩
  · obtain ⟨m, hm⟩ : ∃ m, IsMerged a b m := by
      have key : ∀ l : List Dn, ∃ m, IsSorted l m := by
        intro l
        induction l with
        | nil => exact ⟨[], List.Pairwise.nil, fun d => by simp [rowT]⟩
        | cons d l ih =>
          obtain ⟨m, hm⟩ := ih
          refine ⟨putT m d, put_inc hm.1, fun x => ?_⟩
          have h5 := (put_sorted (d := d) hm.1).2 x
          rw [h5, row_cons, row_cons]
          by_cases hx : dC d = dC x
          · rw [if_pos hx, if_pos hx]
          · rw [if_neg hx, if_neg hx]
            exact ⟨fun h6 => (hm.2 x).1 (row_some h6).1, fun h6 => row_own hm.1 ((hm.2 x).2 h6)⟩
      obtain ⟨m, hm⟩ := key (unT a b)
      exact ⟨m, (merged_iff (right_parts h1).2.2 (right_parts h2).2.2).2 hm⟩
    exact ⟨m, 0, .inr (.inr ⟨h1, h2, h4, hm, rfl⟩)⟩
theorem dmerge_bare {a b m : List Dn} {e : Int} (h : IsDMerge a b m e) : ∀ x ∈ m, dN x = 0 := by
  rcases h with ⟨_, rfl, _⟩ | ⟨_, _, _, rfl, _⟩ | ⟨h1, h2, _, h3, _⟩
  · simp
  · simp
  · exact fun x hx => (row_spec (merged_rows (right_parts h1).2.1 (right_parts h2).2.1 h3 x hx)).2.2

end Go.Proofs.Ytdiabcdpnbhibaa
