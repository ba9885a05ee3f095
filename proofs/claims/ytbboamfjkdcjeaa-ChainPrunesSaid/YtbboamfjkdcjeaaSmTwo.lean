/-
  The blocks that a function on two stamps lays first.
-/
import Derived.Test.YtbboamfjkdcjeaaSmBox
set_option linter.unusedVariables false
namespace Go.Proofs.Ytbboamfjkdcjeaa
open Go.RowKit

/-- The three blocks that a function on two stamps lays first: both, and the result's. -/
def W3 (w : World) (a1 a2 a3 b1 b2 b3 : Int) : World := ((w.alloc (.cells #[.int .i64 a1, .int .i64 a2, .int .i64 a3] 24)).alloc (.cells #[.int .i64 b1, .int .i64 b2, .int .i64 b3] 24)).alloc (.cells #[.int .i64 0, .int .i64 0, .int .i64 0] 24)
theorem W3_size (w : World) (a1 a2 a3 b1 b2 b3 : Int) : (W3 w a1 a2 a3 b1 b2 b3).heap.size = w.heap.size + 3 := by simp [W3]
theorem W3_boxes (w : World) (a1 a2 a3 b1 b2 b3 : Int) : Box (W3 w a1 a2 a3 b1 b2 b3) w.heap.size a1 a2 a3 ∧ Box (W3 w a1 a2 a3 b1 b2 b3) (w.heap.size + 1) b1 b2 b3 ∧ Box (W3 w a1 a2 a3 b1 b2 b3) (w.heap.size + 1 + 1) 0 0 0 := by
  refine ⟨((Box.new w a1 a2 a3).alloc _).alloc _, ?_, ?_⟩
  · have := (Box.new (w.alloc (.cells #[.int .i64 a1, .int .i64 a2, .int .i64 a3] 24)) b1 b2 b3).alloc (.cells #[.int .i64 0, .int .i64 0, .int .i64 0] 24)
    simpa [W3] using this
  · have := Box.new ((w.alloc (.cells #[.int .i64 a1, .int .i64 a2, .int .i64 a3] 24)).alloc (.cells #[.int .i64 b1, .int .i64 b2, .int .i64 b3] 24)) 0 0 0
    simpa [W3] using this
theorem W3_below (w : World) (a1 a2 a3 b1 b2 b3 : Int) : Below w.heap.size w (W3 w a1 a2 a3 b1 b2 b3) := (((Below.refl w.heap.size w).alloc (Nat.le_refl _) _).alloc (by simp) _).alloc (by simp; omega) _
/-- What holds behind a call in a function on two stamps. -/
theorem W3_next {w w1 : World} {a1 a2 a3 b1 b2 b3 : Int} (hb : Below (W3 w a1 a2 a3 b1 b2 b3).heap.size (W3 w a1 a2 a3 b1 b2 b3) w1) :
    Box w1 w.heap.size a1 a2 a3 ∧ Box w1 (w.heap.size + 1) b1 b2 b3 ∧ Box w1 (w.heap.size + 1 + 1) 0 0 0 ∧ Below w.heap.size w w1 := by
  obtain ⟨h0, h1, h2⟩ := W3_boxes w a1 a2 a3 b1 b2 b3
  exact ⟨h0.over hb, h1.over hb, h2.over hb, (W3_below w a1 a2 a3 b1 b2 b3).trans (hb.mono (by rw [W3_size]; omega))⟩

end Go.Proofs.Ytbboamfjkdcjeaa
