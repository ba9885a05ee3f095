/-
  The two tables of the library's decoder, out of a row's list; their cells, for a witness's world.
-/
import Derived.Test.YtpmellfgmlgknaaDoorKyCompare
import Derived.Test.YtpmellfgmlgknaaDoorRows
import Derived.Lib.LaidU8
import Derived.PinnedBridge
import Derived.MakeChecks
namespace Go.Proofs.YtpmellfgmlgknaaDoor
open Go.RowKit

/-- What a row's list gives that bears both tables, wherever they stand on it (the list without handles: the first premise by kernel_rfl). -/
theorem utfAt_of {W : World} {l : List (String × DataW Unit)} (hl : (l.all fun x => x.2.handleName?.isNone) = true) (h : laidMetH Tryd.prog l W)
    (m3 : ("unicode/utf8.first", Rows.laid_unicode_utf8_first) ∈ l) (m4 : ("unicode/utf8.acceptRanges", Rows.laid_unicode_utf8_acceptRanges) ∈ l) : UtfAt W := by
  rw [MakeChecks.laidMetH_plain _ _ _ hl] at h
  have h3 := Lib.laidMet.reads h m3
  have h4 := Lib.laidMet.reads h m4
  rw [show Rows.laid_unicode_utf8_first = Lib.firstData from Pinned.utf8First_eq] at h3
  rw [show Rows.laid_unicode_utf8_acceptRanges = Lib.acceptData by kernel_rfl] at h4
  exact utf8Tabs_of_reads Tryd.lays260 ⟨by kernel_rfl, by kernel_rfl, by kernel_rfl, by kernel_rfl, by kernel_rfl, by kernel_rfl, by kernel_rfl⟩ h3 h4

def firstCells : Array Value := (Lib.firstTab.map (Value.int .u8)).toArray
def acceptCells : Array Value := ((List.range 16).flatMap fun i => [Value.int .u8 (Lib.accLo i), Value.int .u8 (Lib.accHi i)]).toArray
/-- A variable's cells, laid anew (the witness's world: heap.modify g (putCells cells), a variable behind the other). -/
def putCells (cs : Array Value) (o : Obj) : Obj :=
  match o with
  | .cells _ t frozen => .cells cs t frozen
  | o => o

end Go.Proofs.YtpmellfgmlgknaaDoor
