/-
  The listed table: what the rows' condition gives the walks, and a world that meets it.
-/
import Derived.Test.YthllpiohdkcecaaDoorCkWalks
import Derived.Test.YthllpiohdkcecaaDoorCards
import Derived.Test.YthllpiohdkcecaaDoorTie
import Derived.Deep.DeepHandedRow
import Derived.Lib.LaidTab
namespace Go.Proofs.YthllpiohdkcecaaDoor
open Go.RowKit

theorem gSteps : Tryd.prog.globalNamed "stratigraph/check.fourSteps" = some 0 := by kernel_rfl
theorem gStepsType : (Tryd.prog.globals[0]?).map (·.type) = some 57 := by kernel_rfl
theorem cellsSteps : Tryd.prog.cellsOf 57 = 16 := by kernel_rfl
theorem cellsU32 : Tryd.prog.cellsOf 44 = 1 := by kernel_rfl

def tabsI : List Int := [0, 274646895, 549293790, 820201905, 1098587580, 1361435347, 1640403810, 1905808397, 2197175160, 2460548119, 2722870694, 2987750089, 3280807620, 3553878443, 3811616794, 4084100981]

/-- What the rows' list gives: the table's cells hold its sixteen numbers. -/
theorem tabAt_of {W : World} (h : laidMetH Tryd.prog [("stratigraph/check.fourSteps", Rows.laid_stratigraph_check_fourSteps)] W) : TabAt W := by
  have ht : Lib.TabIs Tryd.prog W "stratigraph/check.fourSteps" .u32 tabsI :=
    Lib.tabIs_of_head (rest := []) gSteps gStepsType Tryd.underlying57 Tryd.underlying44 cellsU32 cellsSteps h
  intro i hi
  have hc := ht.cell gSteps i (by simpa [tabsI] using hi)
  have e : tabsI.getD i 0 = ((Ck.tab i : Nat) : Int) := by
    have : ∀ i < 16, tabsI.getD i 0 = ((Ck.tab i : Nat) : Int) := by decide
    exact this i hi
  rw [e] at hc
  exact hc

/-- A world in which the table holds what its initialiser lays. -/
noncomputable def laidWorld (os : Os) : World :=
  { World.holding Tryd.prog os ⟨#[], #[], []⟩ with heap := (World.holding Tryd.prog os ⟨#[], #[], []⟩).heap.modify 0 fun
      | .cells _ t frozen => .cells #[.int .u32 0, .int .u32 274646895, .int .u32 549293790, .int .u32 820201905, .int .u32 1098587580, .int .u32 1361435347, .int .u32 1640403810, .int .u32 1905808397, .int .u32 2197175160, .int .u32 2460548119, .int .u32 2722870694, .int .u32 2987750089, .int .u32 3280807620, .int .u32 3553878443, .int .u32 3811616794, .int .u32 4084100981] t frozen
      | o => o }

end Go.Proofs.YthllpiohdkcecaaDoor
