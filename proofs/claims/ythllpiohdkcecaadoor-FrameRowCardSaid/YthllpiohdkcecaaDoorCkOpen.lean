/-
  Contracts of check.Seal, check.Open, of the document's Open, and the fixed answer.
-/
import Derived.Test.YthllpiohdkcecaaDoorCkWalks
namespace Go.Proofs.YthllpiohdkcecaaDoor
open Go.RowKit

theorem TabAt.lt {w : World} (h : TabAt w) : 0 < w.heap.size := by
  have h0 := h 0 (by omega)
  rcases Nat.lt_or_ge 0 w.heap.size with h1 | h1
  · exact h1
  · have : w.heap[0]? = none := Array.getElem?_eq_none h1
    simp [World.cell?, this] at h0
theorem TabAt.below {B : Nat} {w w' : World} (h : TabAt w) (hb : Below B w w') (hB : w.heap.size ≤ B) : TabAt w' := by
  intro i hi
  rw [← h i hi]
  exact hb.cell (p := ⟨0, i, none⟩) (Nat.lt_of_lt_of_le h.lt hB)
theorem TabAt.next {w w' : World} (h : TabAt w) (hb : Below w.heap.size w w') : TabAt w' := h.below hb (Nat.le_refl _)

theorem sumS_size (s : ByteArray) : (sumS s).size = 4 := by unfold sumS; rw [S_size, Ck.four_length]

/-- A text, sealed. -/
def sealS (s : ByteArray) : ByteArray := s ++ sumS s
theorem sealS_size (s : ByteArray) : (sealS s).size = s.size + 4 := by unfold sealS; rw [ByteArray.size_append, sumS_size]

set_option maxRecDepth 100000 in
set_option maxHeartbeats 400000 in
theorem Seal_any (s : ByteArray) (w : World) (hs : s.size ≤ 140737488351240) (hT : TabAt w) :
    Calls Tryd.prog 19 #[.string s] w fun e w' => e = .returned (.string (sealS s)) ∧ Below w.heap.size w w' := by
  have HT := Lib.hid hT
  clear hT
  have h4 : (s.size + (sumS s).size : Int) ≤ 9223372036854775807 := by rw [sumS_size]; omega
  have HE : Hid (sealS s = s ++ sumS s) := rfl
  go_enter Tryd.func19, Tryd.ntmps19
  go_wp2_with fail
  refine (sumText_any s _ (by omega) HT.out).mono ?_
  rintro e w1 ⟨rfl, hb⟩
  generalize sumS s = x at *
  have h5 : ¬ (s.size + x.size > 9223372036854775807) := by omega
  clear h4
  go_wp2_with fail
  go_ret
  exact ⟨by rw [HE.out]; rfl, hb⟩

/-- What is opened, and the error's number. -/
def op (s : ByteArray) : ByteArray × Nat :=
  if s.size < 4 then ({ data := #[] }, 2) else if s.extract (s.size - 4) s.size = sumS (s.extract 0 (s.size - 4)) then (s.extract 0 (s.size - 4), 0) else ({ data := #[] }, 4)
theorem op_short {s : ByteArray} (h : s.size < 4) : op s = ({ data := #[] }, 2) := by unfold op; rw [if_pos h]
theorem op_good {s : ByteArray} (h : ¬ s.size < 4) (h2 : s.extract (s.size - 4) s.size = sumS (s.extract 0 (s.size - 4))) : op s = (s.extract 0 (s.size - 4), 0) := by unfold op; rw [if_neg h, if_pos h2]
theorem op_bad {s : ByteArray} (h : ¬ s.size < 4) (h2 : s.extract (s.size - 4) s.size ≠ sumS (s.extract 0 (s.size - 4))) : op s = ({ data := #[] }, 4) := by unfold op; rw [if_neg h, if_neg h2]

def OpenPost (s : ByteArray) (w : World) (e : Ending) (w' : World) : Prop := e = .returned (.tuple #[.string (op s).1, .int .i64 ((op s).2 : Int)]) ∧ Below w.heap.size w w'

set_option maxRecDepth 100000 in
set_option maxHeartbeats 400000 in
theorem Open_any (s : ByteArray) (w : World) (hs : s.size ≤ 9223372036854775807) (hT : TabAt w) :
    Calls Tryd.prog 25 #[.string s] w (OpenPost s w) := by
  by_cases h : s.size < 4
  · have HT := Lib.hid (op_short h)
    go_enter Tryd.func25, Tryd.ntmps25
    go_wp2_with fail
    go_ret2
    exact ⟨by rw [HT.out]; rfl, Below.refl _ _⟩
  · have HT := Lib.hid hT
    clear hT
    go_enter Tryd.func25, Tryd.ntmps25
    go_wp2_with fail
    have h4 : 4 ≤ s.size := by omega
    have hxs : (s.extract 0 (s.size - 4)).size + 4 = s.size := by rw [ByteArray.size_extract]; omega
    have HX : Hid ((s.extract 0 (s.size - 4)).size = s.size - 4) := by show _ = _; omega
    generalize hx : s.extract 0 (s.size - 4) = x at *
    have HX2 := Lib.hid hx
    clear hx
    have hxi : (x.size : Int) ≤ (s.size : Int) := by omega
    go_region_held3 (fun _ => True) (trivial) (first | (go_at_call 27; refine (sumText_any _ _ ?_ ?_).mono ?_; (omega); (exact HT.out); rintro e w1 ⟨rfl, hb1⟩))
    have hbl : Below w.heap.size w w1 := ⟨hb1.os, hb1.tape, hb1.output, hb1.size, hb1.block⟩
    clear hb1
    go_wp2_with fail
    · have ht : (!(s.extract x.size s.size).toList == (sumS x).toList) = true := by assumption
      have hq : s.extract x.size s.size ≠ sumS x := fun e => by rw [e] at ht; simp at ht
      rw [HX.out, ← HX2.out] at hq
      have HE := op_bad h hq
      clear ht hq
      go_ret2
      exact ⟨by rw [HE]; rfl, hbl⟩
    · have ht : (!(s.extract x.size s.size).toList == (sumS x).toList) = false := by assumption
      have hq : s.extract x.size s.size = sumS x := list_inj (by simpa using ht)
      rw [HX.out, ← HX2.out] at hq
      have HE := op_good h hq
      rw [HX2.out] at HE
      clear ht hq
      go_ret2
      exact ⟨by rw [HE]; rfl, hbl⟩

end Go.Proofs.YthllpiohdkcecaaDoor
