/-
  NARROWER THAN 'FOR EVERY INPUT', by the rows' own cells (each row's printed sentence says how): FrameWraps: laid · FrameLong: laid · FrameTakes: laid · FrameAll: laid · FrameRow: laid · FrameTurned: laid · FrameApart: laid.
  DERIVED. THE GIVEN ROWS OF THIS SEAT. 7 by the template 'for every input the law returns true; each argument reads behind the call as it read before'; 0 by the template 'total and deterministic' (their statements: YthllpiohdkcecaaDoorTotals.lean).
  GIVEN WITH THE SEED: the statements are not yours to turn. If you find one false, say at which input.
  Laid BY PROGRAM, IN A SANDBOX (cutbox-rows.mjs): the forced cells as the released guide's own fill.sh prints them over the translation bf88a4da749a6ff4… (all of the seat's roots in one cut). By AI agents, Wed Nov 11 2026. No macro, syntax, notation, axiom, sorry.
-/
import Derived.Test.YthllpiohdkcecaaDoorChecked
import GoSem.Claim
import GoSem.ClaimJoined
import GoSem.ClaimMapViews
import Derived.JoinedTies
import Derived.KernelRfl
namespace Go.Proofs.YthllpiohdkcecaaDoor
/- THE CELL 'sum', in the pinned program and in every row, IS THE sha256 OF THE DUMP (.gsa) THAT YthllpiohdkcecaaDoorProg.lean LOADS. Nothing in Lean hashes anything: it is a label: what it is worth is what the hold of that sum in a sandbox is worth. -/
noncomputable def Tryd.pinned : Pinned := { name := "ythllpiohdkcecaadoor", sum := "bf88a4da749a6ff4975a2d7414e375d60199ad382c3cb7da47eac78cc4a3400f", checked := Tryd.checked }
namespace Rows
def none {H : Type} : Left H := { results := [], args := [] }

/- WHAT THE LISTED PACKAGE-LEVEL VARIABLES READ AS WHEN THE CALL BEGINS. Each datum BY PROGRAM (the guide's laid-datum.mjs) off the statement by which the dump's own 'gosem.cut.vars' lays the variable. In a bare row this is a premise. The card (YthllpiohdkcecaaDoorCards.lean) ties it to the program's text. -/
def laid_stratigraph_check_fourSteps {H : Type} : DataW H := .agg [.lit (.int .u32 0), .lit (.int .u32 274646895), .lit (.int .u32 549293790), .lit (.int .u32 820201905), .lit (.int .u32 1098587580), .lit (.int .u32 1361435347), .lit (.int .u32 1640403810), .lit (.int .u32 1905808397), .lit (.int .u32 2197175160), .lit (.int .u32 2460548119), .lit (.int .u32 2722870694), .lit (.int .u32 2987750089), .lit (.int .u32 3280807620), .lit (.int .u32 3553878443), .lit (.int .u32 3811616794), .lit (.int .u32 4084100981)]

/-- 'stratigraphlaw03.FrameWraps': WHATEVER THE INPUT: true; the input reads as it did. -/
def frameWrapsSpec : ChangeSpec := { name := "frameWraps", fn := fun _ => fun
  | [d] => { results := [.lit (.bool true)], args := [d] }
  | _ => none }
def frameWrapsRow : OpenClaim := { program := "ythllpiohdkcecaadoor", sum := "bf88a4da749a6ff4975a2d7414e375d60199ad382c3cb7da47eac78cc4a3400f", func := "stratigraph/stratigraphlaw03.FrameWraps", spec := "frameWraps", named := ["stratigraph/check.fourSteps"], apart := false, laid := [("stratigraph/check.fourSteps", laid_stratigraph_check_fourSteps)] }
def FrameWrapsSaid : Prop := frameWrapsRow.holds Tryd.pinned (OpenSpec.ofChange frameWrapsSpec)

/-- ITS FALSE NEIGHBOUR: 'it returns false'. Refute it at one input. -/
def frameWrapsWrong : ChangeSpec := { name := "frameWraps", fn := fun _ => fun
  | [d] => { results := [.lit (.bool false)], args := [d] }
  | _ => none }
def FrameWrapsWrongFalsely : Prop := frameWrapsRow.holds Tryd.pinned (OpenSpec.ofChange frameWrapsWrong)

/-- 'stratigraphlaw03.FrameLong': WHATEVER THE INPUT: true; the input reads as it did. -/
def frameLongSpec : ChangeSpec := { name := "frameLong", fn := fun _ => fun
  | [d] => { results := [.lit (.bool true)], args := [d] }
  | _ => none }
def frameLongRow : OpenClaim := { program := "ythllpiohdkcecaadoor", sum := "bf88a4da749a6ff4975a2d7414e375d60199ad382c3cb7da47eac78cc4a3400f", func := "stratigraph/stratigraphlaw03.FrameLong", spec := "frameLong", named := ["stratigraph/check.fourSteps"], apart := false, laid := [("stratigraph/check.fourSteps", laid_stratigraph_check_fourSteps)] }
def FrameLongSaid : Prop := frameLongRow.holds Tryd.pinned (OpenSpec.ofChange frameLongSpec)

/-- ITS FALSE NEIGHBOUR: 'it returns false'. Refute it at one input. -/
def frameLongWrong : ChangeSpec := { name := "frameLong", fn := fun _ => fun
  | [d] => { results := [.lit (.bool false)], args := [d] }
  | _ => none }
def FrameLongWrongFalsely : Prop := frameLongRow.holds Tryd.pinned (OpenSpec.ofChange frameLongWrong)

/-- 'stratigraphlaw03.FrameTakes': WHATEVER THE INPUT: true; the input reads as it did. -/
def frameTakesSpec : ChangeSpec := { name := "frameTakes", fn := fun _ => fun
  | [d] => { results := [.lit (.bool true)], args := [d] }
  | _ => none }
def frameTakesRow : OpenClaim := { program := "ythllpiohdkcecaadoor", sum := "bf88a4da749a6ff4975a2d7414e375d60199ad382c3cb7da47eac78cc4a3400f", func := "stratigraph/stratigraphlaw03.FrameTakes", spec := "frameTakes", named := ["stratigraph/check.fourSteps"], apart := false, laid := [("stratigraph/check.fourSteps", laid_stratigraph_check_fourSteps)] }
def FrameTakesSaid : Prop := frameTakesRow.holds Tryd.pinned (OpenSpec.ofChange frameTakesSpec)

/-- ITS FALSE NEIGHBOUR: 'it returns false'. Refute it at one input. -/
def frameTakesWrong : ChangeSpec := { name := "frameTakes", fn := fun _ => fun
  | [d] => { results := [.lit (.bool false)], args := [d] }
  | _ => none }
def FrameTakesWrongFalsely : Prop := frameTakesRow.holds Tryd.pinned (OpenSpec.ofChange frameTakesWrong)

/-- 'stratigraphlaw03.FrameAll': WHATEVER THE INPUT: true; the input reads as it did. -/
def frameAllSpec : ChangeSpec := { name := "frameAll", fn := fun _ => fun
  | [d] => { results := [.lit (.bool true)], args := [d] }
  | _ => none }
def frameAllRow : OpenClaim := { program := "ythllpiohdkcecaadoor", sum := "bf88a4da749a6ff4975a2d7414e375d60199ad382c3cb7da47eac78cc4a3400f", func := "stratigraph/stratigraphlaw03.FrameAll", spec := "frameAll", named := ["stratigraph/check.fourSteps"], apart := false, laid := [("stratigraph/check.fourSteps", laid_stratigraph_check_fourSteps)] }
def FrameAllSaid : Prop := frameAllRow.holds Tryd.pinned (OpenSpec.ofChange frameAllSpec)

/-- ITS FALSE NEIGHBOUR: 'it returns false'. Refute it at one input. -/
def frameAllWrong : ChangeSpec := { name := "frameAll", fn := fun _ => fun
  | [d] => { results := [.lit (.bool false)], args := [d] }
  | _ => none }
def FrameAllWrongFalsely : Prop := frameAllRow.holds Tryd.pinned (OpenSpec.ofChange frameAllWrong)

/-- 'stratigraphlaw03.FrameRow': WHATEVER THE INPUT: true; the input reads as it did. -/
def frameRowSpec : ChangeSpec := { name := "frameRow", fn := fun _ => fun
  | [d1, d2] => { results := [.lit (.bool true)], args := [d1, d2] }
  | _ => none }
def frameRowRow : OpenClaim := { program := "ythllpiohdkcecaadoor", sum := "bf88a4da749a6ff4975a2d7414e375d60199ad382c3cb7da47eac78cc4a3400f", func := "stratigraph/stratigraphlaw03.FrameRow", spec := "frameRow", named := ["stratigraph/check.fourSteps"], apart := false, laid := [("stratigraph/check.fourSteps", laid_stratigraph_check_fourSteps)] }
def FrameRowSaid : Prop := frameRowRow.holds Tryd.pinned (OpenSpec.ofChange frameRowSpec)

/-- ITS FALSE NEIGHBOUR: 'it returns false'. Refute it at one input. -/
def frameRowWrong : ChangeSpec := { name := "frameRow", fn := fun _ => fun
  | [d1, d2] => { results := [.lit (.bool false)], args := [d1, d2] }
  | _ => none }
def FrameRowWrongFalsely : Prop := frameRowRow.holds Tryd.pinned (OpenSpec.ofChange frameRowWrong)

/-- 'stratigraphlaw03.FrameTurned': WHATEVER THE INPUT: true; the input reads as it did. -/
def frameTurnedSpec : ChangeSpec := { name := "frameTurned", fn := fun _ => fun
  | [d1, d2, d3, d4] => { results := [.lit (.bool true)], args := [d1, d2, d3, d4] }
  | _ => none }
def frameTurnedRow : OpenClaim := { program := "ythllpiohdkcecaadoor", sum := "bf88a4da749a6ff4975a2d7414e375d60199ad382c3cb7da47eac78cc4a3400f", func := "stratigraph/stratigraphlaw03.FrameTurned", spec := "frameTurned", named := ["stratigraph/check.fourSteps"], apart := false, laid := [("stratigraph/check.fourSteps", laid_stratigraph_check_fourSteps)] }
def FrameTurnedSaid : Prop := frameTurnedRow.holds Tryd.pinned (OpenSpec.ofChange frameTurnedSpec)

/-- ITS FALSE NEIGHBOUR: 'it returns false'. Refute it at one input. -/
def frameTurnedWrong : ChangeSpec := { name := "frameTurned", fn := fun _ => fun
  | [d1, d2, d3, d4] => { results := [.lit (.bool false)], args := [d1, d2, d3, d4] }
  | _ => none }
def FrameTurnedWrongFalsely : Prop := frameTurnedRow.holds Tryd.pinned (OpenSpec.ofChange frameTurnedWrong)

/-- 'stratigraphlaw03.FrameApart': WHATEVER THE INPUT: true; the input reads as it did. -/
def frameApartSpec : ChangeSpec := { name := "frameApart", fn := fun _ => fun
  | [d1, d2] => { results := [.lit (.bool true)], args := [d1, d2] }
  | _ => none }
def frameApartRow : OpenClaim := { program := "ythllpiohdkcecaadoor", sum := "bf88a4da749a6ff4975a2d7414e375d60199ad382c3cb7da47eac78cc4a3400f", func := "stratigraph/stratigraphlaw03.FrameApart", spec := "frameApart", named := ["stratigraph/check.fourSteps"], apart := false, laid := [("stratigraph/check.fourSteps", laid_stratigraph_check_fourSteps)] }
def FrameApartSaid : Prop := frameApartRow.holds Tryd.pinned (OpenSpec.ofChange frameApartSpec)

/-- ITS FALSE NEIGHBOUR: 'it returns false'. Refute it at one input. -/
def frameApartWrong : ChangeSpec := { name := "frameApart", fn := fun _ => fun
  | [d1, d2] => { results := [.lit (.bool false)], args := [d1, d2] }
  | _ => none }
def FrameApartWrongFalsely : Prop := frameApartRow.holds Tryd.pinned (OpenSpec.ofChange frameApartWrong)

/- THE SECOND FORM. 'bulk': how many values and letters a reading holds, each counted each time it is reached (what is shared counts as often as it is met; a slice's spare places count too). A statement '..UptoSaid' is the law's where the arguments, and the package variables that the reading takes, are together of bulk at most 1048576: NARROWER than '..Said'. Prove '..Said' where nothing that the law and all that it calls make is longer than what came in: it says more and counts as full. Else prove '..UptoSaid'. A law counts once. -/
mutual
def uptoBulk {H : Type} : DataW H → Nat
  | .lit (.string bytes) => bytes.length + 1
  | .lit _ => 1
  | .nil => 1
  | .ptr d => uptoBulk d + 1
  | .slice elems spare => uptoBulkAll elems + uptoBulkAll spare + 1
  | .agg parts => uptoBulkAll parts + 1
  | .iface _ d => uptoBulk d + 1
  | .map entries => uptoBulkEntries entries + 1
  | .held _ => 1
def uptoBulkAll {H : Type} : List (DataW H) → Nat
  | [] => 0
  | d :: r => uptoBulk d + uptoBulkAll r
def uptoBulkEntries {H : Type} : List (Lit × DataW H) → Nat
  | [] => 0
  | x :: r => uptoBulkEntry x + uptoBulkEntries r
def uptoBulkEntry {H : Type} : Lit × DataW H → Nat
  | (.string bytes, d) => bytes.length + uptoBulk d + 1
  | (_, d) => uptoBulk d + 1
 end
def uptoSmall : (H : Type) → List (DataW H) → Bool := fun _ ds => decide (uptoBulkAll ds ≤ 1048576)
def OpenSpec.upto (s : _root_.Go.ChangeSpec) : _root_.Go.OpenSpec := { _root_.Go.OpenSpec.ofChange s with cond := some uptoSmall }

/-- 'stratigraphlaw03.FrameWraps', WHERE WHAT IT READS IS OF BULK AT MOST 1048576: true; the input reads as it did. -/
def frameWrapsUptoRow : OpenClaim := { program := "ythllpiohdkcecaadoor", sum := "bf88a4da749a6ff4975a2d7414e375d60199ad382c3cb7da47eac78cc4a3400f", func := "stratigraph/stratigraphlaw03.FrameWraps", spec := "frameWraps", named := ["stratigraph/check.fourSteps"], apart := false, laid := [("stratigraph/check.fourSteps", laid_stratigraph_check_fourSteps)], narrowed := true }
def FrameWrapsUptoSaid : Prop := frameWrapsUptoRow.holds Tryd.pinned (OpenSpec.upto frameWrapsSpec)

/-- 'stratigraphlaw03.FrameLong', WHERE WHAT IT READS IS OF BULK AT MOST 1048576: true; the input reads as it did. -/
def frameLongUptoRow : OpenClaim := { program := "ythllpiohdkcecaadoor", sum := "bf88a4da749a6ff4975a2d7414e375d60199ad382c3cb7da47eac78cc4a3400f", func := "stratigraph/stratigraphlaw03.FrameLong", spec := "frameLong", named := ["stratigraph/check.fourSteps"], apart := false, laid := [("stratigraph/check.fourSteps", laid_stratigraph_check_fourSteps)], narrowed := true }
def FrameLongUptoSaid : Prop := frameLongUptoRow.holds Tryd.pinned (OpenSpec.upto frameLongSpec)

/-- 'stratigraphlaw03.FrameTakes', WHERE WHAT IT READS IS OF BULK AT MOST 1048576: true; the input reads as it did. -/
def frameTakesUptoRow : OpenClaim := { program := "ythllpiohdkcecaadoor", sum := "bf88a4da749a6ff4975a2d7414e375d60199ad382c3cb7da47eac78cc4a3400f", func := "stratigraph/stratigraphlaw03.FrameTakes", spec := "frameTakes", named := ["stratigraph/check.fourSteps"], apart := false, laid := [("stratigraph/check.fourSteps", laid_stratigraph_check_fourSteps)], narrowed := true }
def FrameTakesUptoSaid : Prop := frameTakesUptoRow.holds Tryd.pinned (OpenSpec.upto frameTakesSpec)

/-- 'stratigraphlaw03.FrameAll', WHERE WHAT IT READS IS OF BULK AT MOST 1048576: true; the input reads as it did. -/
def frameAllUptoRow : OpenClaim := { program := "ythllpiohdkcecaadoor", sum := "bf88a4da749a6ff4975a2d7414e375d60199ad382c3cb7da47eac78cc4a3400f", func := "stratigraph/stratigraphlaw03.FrameAll", spec := "frameAll", named := ["stratigraph/check.fourSteps"], apart := false, laid := [("stratigraph/check.fourSteps", laid_stratigraph_check_fourSteps)], narrowed := true }
def FrameAllUptoSaid : Prop := frameAllUptoRow.holds Tryd.pinned (OpenSpec.upto frameAllSpec)

/-- 'stratigraphlaw03.FrameRow', WHERE WHAT IT READS IS OF BULK AT MOST 1048576: true; the input reads as it did. -/
def frameRowUptoRow : OpenClaim := { program := "ythllpiohdkcecaadoor", sum := "bf88a4da749a6ff4975a2d7414e375d60199ad382c3cb7da47eac78cc4a3400f", func := "stratigraph/stratigraphlaw03.FrameRow", spec := "frameRow", named := ["stratigraph/check.fourSteps"], apart := false, laid := [("stratigraph/check.fourSteps", laid_stratigraph_check_fourSteps)], narrowed := true }
def FrameRowUptoSaid : Prop := frameRowUptoRow.holds Tryd.pinned (OpenSpec.upto frameRowSpec)

/-- 'stratigraphlaw03.FrameTurned', WHERE WHAT IT READS IS OF BULK AT MOST 1048576: true; the input reads as it did. -/
def frameTurnedUptoRow : OpenClaim := { program := "ythllpiohdkcecaadoor", sum := "bf88a4da749a6ff4975a2d7414e375d60199ad382c3cb7da47eac78cc4a3400f", func := "stratigraph/stratigraphlaw03.FrameTurned", spec := "frameTurned", named := ["stratigraph/check.fourSteps"], apart := false, laid := [("stratigraph/check.fourSteps", laid_stratigraph_check_fourSteps)], narrowed := true }
def FrameTurnedUptoSaid : Prop := frameTurnedUptoRow.holds Tryd.pinned (OpenSpec.upto frameTurnedSpec)

/-- 'stratigraphlaw03.FrameApart', WHERE WHAT IT READS IS OF BULK AT MOST 1048576: true; the input reads as it did. -/
def frameApartUptoRow : OpenClaim := { program := "ythllpiohdkcecaadoor", sum := "bf88a4da749a6ff4975a2d7414e375d60199ad382c3cb7da47eac78cc4a3400f", func := "stratigraph/stratigraphlaw03.FrameApart", spec := "frameApart", named := ["stratigraph/check.fourSteps"], apart := false, laid := [("stratigraph/check.fourSteps", laid_stratigraph_check_fourSteps)], narrowed := true }
def FrameApartUptoSaid : Prop := frameApartUptoRow.holds Tryd.pinned (OpenSpec.upto frameApartSpec)

end Rows
end Go.Proofs.YthllpiohdkcecaaDoor
