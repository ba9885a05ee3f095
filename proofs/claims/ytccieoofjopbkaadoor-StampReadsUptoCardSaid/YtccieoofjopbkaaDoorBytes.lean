/-
  A text's bytes as a row of the call's own, and back.
-/
import Derived.Test.YtccieoofjopbkaaDoorBase
import Derived.StillTailTactics
import Derived.Laws.Rows
namespace Go.Proofs.YtccieoofjopbkaaDoor
open Go.RowKit

theorem bytes_at' (s : ByteArray) (i : Nat) (h : i < s.size) : s.data.toList.getD i 0 = s.data[i]'h := by
  have h2 : i < s.data.size := h
  simp [List.getD, Array.getElem?_eq_getElem h2]
/-- '[]byte(s)': a new row with the text's bytes. -/
theorem conv_bytes (w : World) (s : ByteArray) : ∃ cap w', (convert 9 60 (.string s)).run Tryd.prog w = .ok (.slice (some ⟨w.heap.size, 0, none⟩) s.size cap) w' ∧ s.size ≤ cap ∧ Below w.heap.size w w' ∧ w.heap.size < w'.heap.size ∧
    (∀ i, i < s.size → w'.cell? ⟨w.heap.size, i, none⟩ = some (.int .u8 ((s.data.toList.getD i 0).toNat : Int))) ∧ (∀ i, i < s.size → w'.frozen? ⟨w.heap.size, i, none⟩ = false) := by
  refine ⟨_, _, run_bytes_of_string w 9 60 5 s Tryd.underlying9 Tryd.underlying60 Tryd.underlying5, grownCap_ge _ _ _ _, ?_, ?_, ?_, ?_⟩
  · exact (Below.refl _ _).drew.alloc (Nat.le_refl _) _
  · simp
  · intro i hi
    rw [bytes_at' s i hi]
    exact (World.cell?_alloc_mark w.drew _ _ _ i).trans (bytesRow_at s _ i hi)
  · intro i hi
    refine (World.frozen?_alloc_mark w.drew _ _ _ _ i).trans ?_
    have h1 : s.size ≤ (bytesRow s (grownCap w s.size 0 5)).size := by simp [bytesRow]
    rw [decide_eq_false (by omega)]
    rfl
/-- 'string(b)' of a row whose cells are known. -/
theorem conv_back (w : World) (g cap : Nat) (l : List UInt8) (n : Nat) (hn : l.length = n) (h : ∀ i, i < n → w.cell? ⟨g, i, none⟩ = some (.int .u8 ((l.getD i 0).toNat : Int))) :
    (convert 60 9 (.slice (some ⟨g, 0, none⟩) n cap)).run Tryd.prog w = .ok (.string (S l)) w := by
  subst hn
  refine run_convert_bytes_back (P := Tryd.prog) _ 60 9 5 ⟨g, 0, none⟩ cap _ Tryd.underlying60 Tryd.underlying5 Tryd.underlying9 (fun j hj => ?_)
  rw [Addr.add_lit, Nat.zero_add, h j hj]
  simp [List.getD, hj]

theorem new_block (w : World) (o : Obj) : (w.alloc o).heap[w.heap.size]? = some o := by
  show (w.heap.push o)[w.heap.size]? = _
  simp
theorem lt_of_block {w : World} {h : Nat} {o : Obj} (e : w.heap[h]? = some o) : h < w.heap.size := by
  rcases Nat.lt_or_ge h w.heap.size with h1 | h1
  · exact h1
  · rw [Array.getElem?_eq_none h1] at e; cases e

theorem u8_of {n : Int} (h : (Lit.int .u8 n).wf = true) : 0 ≤ n ∧ n < 256 := by
  have x1 : IntKind.u8.min = 0 := rfl
  have x2 : IntKind.u8.max = 255 := rfl
  simp only [Lit.wf, Bool.and_eq_true, decide_eq_true_eq] at h
  omega
theorem byte_of {n : Int} (h : 0 ≤ n ∧ n < 256) : ((UInt8.ofNat n.toNat).toNat : Int) = n := by
  rw [UInt8.toNat_ofNat']; omega

end Go.Proofs.YtccieoofjopbkaaDoor
