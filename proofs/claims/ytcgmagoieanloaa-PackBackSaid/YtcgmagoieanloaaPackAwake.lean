/-
  The fixed answer at the end of each statement of layer 1.
-/
import Derived.Test.YtcgmagoieanloaaPackRefTake
namespace Go.Proofs.Ytcgmagoieanloaa
open Go.RowKit

theorem put300 (w : World) : Calls Try.prog 11 #[.int .i64 300] w fun e w' => e = .returned (.tuple #[.string { data := #[172, 2] }, .int .i64 0]) ∧ Below w.heap.size w w' := by
  have h := Put_any 300 w (by omega) (by omega)
  have e : S (Pk.enc (300 : Int).toNat) = { data := #[172, 2] } := by decide
  rw [e] at h
  exact h

theorem take300 (w : World) : Calls Try.prog 14 #[.string { data := #[172, 2, 120] }] w fun e w' => e = .returned (.tuple #[.int .i64 300, .string { data := #[120] }, .int .i64 0]) ∧ Below w.heap.size w w' := by
  have h := Take_any { data := #[172, 2, 120] } w (by decide)
  unfold TakePost at h
  have e : tk { data := #[172, 2, 120] } = (300, [120], 0) := by decide
  rw [e] at h
  exact h

set_option maxRecDepth 100000 in
set_option maxHeartbeats 400000 in
theorem awake_any (w : World) : Calls Try.prog 13 #[] w fun e w' => e = .returned (.bool true) ∧ Below w.heap.size w w' := by
  go_enter Try.func13, Try.ntmps13
  go_wp2_with fail
  refine (put300 _).mono ?_
  rintro e w1 ⟨rfl, hb1⟩
  go_wp2_with fail
  refine (take300 _).mono ?_
  rintro e w2 ⟨rfl, hb2⟩
  have hb := hb1.trans (hb2.mono hb1.size)
  clear hb1 hb2
  go_wp2_with fail
  go_ret
  exact ⟨rfl, hb⟩

end Go.Proofs.Ytcgmagoieanloaa
