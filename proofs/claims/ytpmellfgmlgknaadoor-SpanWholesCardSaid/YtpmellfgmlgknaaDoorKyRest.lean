/-
  A text's rest, and the iterator's block: plain facts.
-/
import Derived.Test.YtpmellfgmlgknaaDoorBase
import Derived.Test.YtpmellfgmlgknaaDoorKyPlain
import Derived.Lib.OthersKept
set_option linter.unusedVariables false
namespace Go.Proofs.YtpmellfgmlgknaaDoor
open Go.RowKit

/-- A text's rest from place p on, and the letter there. -/
theorem rest_facts (s t : ByteArray) (p : Nat) (hp : p < s.size) (ht : t = s.extract p s.size) :
    ∃ c m, Utf8.decode s p = (c, m) ∧ Utf8.decode t 0 = (c, m) ∧ 1 ≤ m ∧ m ≤ 4 ∧ p + m ≤ s.size ∧ c ≤ 1114111 ∧ t.size = s.size - p ∧ t.extract m t.size = s.extract (p + m) s.size := by
  have h := Ky.width s p hp
  refine ⟨(Utf8.decode s p).1, (Utf8.decode s p).2, rfl, ?_, h.1, h.2.1, h.2.2.1, h.2.2.2, ?_, ?_⟩
  · rw [ht, Ky.dec_rest s p (by omega)]
  · rw [ht, Ky.rest_size]
  · have e : t.size = s.size - p := by rw [ht, Ky.rest_size]
    rw [e, ht, Ky.rest_rest s p _ (by omega)]

theorem not_empty (s : ByteArray) (h : 0 < s.size) : s.toList.isEmpty = false := by
  rw [ByteArray.toList_eq]
  cases e : s.data.toList with
  | nil =>
    have e2 : s.size = 0 := by rw [← bytes_len, e]; rfl
    omega
  | cons _ _ => rfl

theorem is_empty (s : ByteArray) (h : s.size = 0) : s.toList.isEmpty = true := by
  rw [ByteArray.toList_eq, List.isEmpty_iff]
  exact List.eq_nil_of_length_eq_zero (by rw [bytes_len]; exact h)
theorem lt_of_iter {w : World} {k : Nat} {s : ByteArray} {p : Nat} (h : w.heap[k]? = some (.stringIter s p)) : k < w.heap.size := by
  rcases Nat.lt_or_ge k w.heap.size with h1 | h1
  · exact h1
  · rw [Array.getElem?_eq_none h1] at h; cases h

end Go.Proofs.YtpmellfgmlgknaaDoor
