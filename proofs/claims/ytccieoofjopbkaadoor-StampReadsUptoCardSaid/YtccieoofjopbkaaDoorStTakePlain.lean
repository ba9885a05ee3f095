/-
  What Take of a stamp answers, as a function of the bytes; arrays of three numbers in memory.
-/
import Derived.Test.YtccieoofjopbkaaDoorStBox
import Derived.Test.YtccieoofjopbkaaDoorPkRefTake
namespace Go.Proofs.YtccieoofjopbkaaDoor
open Go.RowKit

/-- What is left behind k numbers; the number there, and its error. -/
def sK (s : ByteArray) : Nat → ByteArray
  | 0 => s
  | k + 1 => S (tk (sK s k)).2.1
def vK (s : ByteArray) (k : Nat) : Int := ((tk (sK s k)).1 : Int)
def eK (s : ByteArray) (k : Nat) : Int := ((tk (sK s k)).2.2 : Int)

theorem tk_rest (s : ByteArray) : (S (tk s).2.1).size ≤ s.size := by
  rw [S_size]
  by_cases h : stopS s < s.size
  · by_cases h2 : 8 < stopS s ∨ (0 < stopS s ∧ (s[stopS s]).toNat = 0)
    · rw [tk_form h h2]; simp
    · rw [tk_good h (fun h' => h2 (.inl h')) (fun h' => h2 (.inr h'))]
      simp
  · rw [tk_short h]; simp
theorem sK_size (s : ByteArray) : ∀ k, (sK s k).size ≤ s.size
  | 0 => Nat.le_refl _
  | k + 1 => Nat.le_trans (tk_rest _) (sK_size s k)

/-- The answer. -/
def stk (s : ByteArray) : (Int × Int × Int) × ByteArray × Int :=
  if eK s 0 = 0 then
    if eK s 1 = 0 then
      if eK s 2 = 0 then
        if rightB (vK s 0) (vK s 1) (vK s 2) then ((vK s 0, vK s 1, vK s 2), sK s 3, 0)
        else ((0, 0, 0), { data := #[] }, 3)
      else ((0, 0, 0), { data := #[] }, eK s 2)
    else ((0, 0, 0), { data := #[] }, eK s 1)
  else ((0, 0, 0), { data := #[] }, eK s 0)

theorem stk_err (s : ByteArray) (k : Nat) (hk : k < 3) (hz : ∀ j, j < k → eK s j = 0) (he : eK s k ≠ 0) : stk s = ((0, 0, 0), { data := #[] }, eK s k) := by
  have : k = 0 ∨ k = 1 ∨ k = 2 := by omega
  unfold stk
  rcases this with rfl | rfl | rfl
  · rw [if_neg he]
  · rw [if_pos (hz 0 (by omega)), if_neg he]
  · rw [if_pos (hz 0 (by omega)), if_pos (hz 1 (by omega)), if_neg he]
theorem stk_bad (s : ByteArray) (hz : ∀ j, j < 3 → eK s j = 0) (h : rightB (vK s 0) (vK s 1) (vK s 2) = false) : stk s = ((0, 0, 0), { data := #[] }, 3) := by
  unfold stk
  rw [if_pos (hz 0 (by omega)), if_pos (hz 1 (by omega)), if_pos (hz 2 (by omega)), h]; rfl
theorem stk_good (s : ByteArray) (hz : ∀ j, j < 3 → eK s j = 0) (h : rightB (vK s 0) (vK s 1) (vK s 2) = true) : stk s = ((vK s 0, vK s 1, vK s 2), sK s 3, 0) := by
  unfold stk
  rw [if_pos (hz 0 (by omega)), if_pos (hz 1 (by omega)), if_pos (hz 2 (by omega)), h]; rfl

theorem pkTake_at (s : ByteArray) (hs : s.size ≤ 9223372036854775807) (k : Nat) (W : World) : Calls Tryd.prog 30 #[.string (sK s k)] W fun e w' => e = .returned (.tuple #[.int .i64 (vK s k), .string (sK s (k + 1)), .int .i64 (eK s k)]) ∧ Below W.heap.size W w' :=
  Take_any (sK s k) W (Nat.le_trans (sK_size s k) hs)
theorem refTake_at (s : ByteArray) (hs : s.size ≤ 9223372036854775807) (k : Nat) (W : World) : Calls Tryd.prog 33 #[.string (sK s k)] W fun e w' => e = .returned (.tuple #[.int .i64 (vK s k), .string (sK s (k + 1)), .int .i64 (eK s k)]) ∧ Below W.heap.size W w' :=
  refTake_any (sK s k) W (Nat.le_trans (sK_size s k) hs)

/-! ### Arrays of three numbers -/
def Arr (w : World) (h : Nat) (x y z : Int) : Prop := w.heap[h]? = some (.cells #[.int .i64 x, .int .i64 y, .int .i64 z] 48 (0, 0))
theorem Arr.lt {w : World} {h : Nat} {a b c : Int} (H : Arr w h a b c) : h < w.heap.size := by
  rcases Nat.lt_or_ge h w.heap.size with h1 | h1
  · exact h1
  · unfold Arr at H; rw [Array.getElem?_eq_none h1] at H; cases H
theorem Arr.new (w : World) (a b c : Int) : Arr (w.alloc (.cells #[.int .i64 a, .int .i64 b, .int .i64 c] 48)) w.heap.size a b c := by
  show (w.heap.push _)[w.heap.size]? = _
  simp
theorem Arr.over {w w' : World} {h : Nat} {a b c : Int} (H : Arr w h a b c) (hb : Below w.heap.size w w') : Arr w' h a b c := (hb.block h H.lt).trans H
theorem Arr.cell {w : World} {h : Nat} {a b c : Int} (H : Arr w h a b c) (i : Nat) (hi : i < 3) : w.cell? ⟨h, i, none⟩ = some (.int .i64 ([a, b, c].getD i 0)) := by
  unfold Arr at H
  have : i = 0 ∨ i = 1 ∨ i = 2 := by omega
  rcases this with rfl | rfl | rfl <;> simp [World.cell?, H]
theorem Arr.frozen {w : World} {h : Nat} {a b c : Int} (H : Arr w h a b c) (i : Nat) : w.frozen? ⟨h, i, none⟩ = false := by
  unfold Arr at H
  simp [World.frozen?, H]
theorem block_set {w : World} {h : Nat} {cs : Array Value} {t : TypeId} {fr : Nat × Nat} (H : w.heap[h]? = some (.cells cs t fr)) (i : Nat) (v : Value) : (w.setCell ⟨h, i, none⟩ v).heap[h]? = some (.cells (cs.setIfInBounds i v) t fr) := by
  simp [World.setCell, Array.getElem?_modify, H]
/-- The first k of three. -/
def upto (v : Nat → Int) (k i : Nat) : Int := if i < k then v i else 0
theorem Arr.set {w : World} {h : Nat} {v : Nat → Int} {k : Nat} (H : Arr w h (upto v k 0) (upto v k 1) (upto v k 2)) (hk : k < 3) : Arr (w.setCell ⟨h, k, none⟩ (.int .i64 (v k))) h (upto v (k + 1) 0) (upto v (k + 1) 1) (upto v (k + 1) 2) := by
  have h1 := block_set H k (.int .i64 (v k))
  unfold Arr
  rw [h1]
  have : k = 0 ∨ k = 1 ∨ k = 2 := by omega
  rcases this with rfl | rfl | rfl <;> rfl

end Go.Proofs.YtccieoofjopbkaaDoor
