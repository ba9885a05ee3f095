/-
  What the rows' list gives: the decoder's two tables; a world that holds them.
-/
import Derived.Test.YtpmellfgmlgknaaDoorKyTie
import Derived.Test.YtpmellfgmlgknaaDoorRows
import Derived.Test.YtpmellfgmlgknaaDoorCards
import Derived.Test.YtpmellfgmlgknaaDoorTie
namespace Go.Proofs.YtpmellfgmlgknaaDoor
open Go.RowKit

theorem tabs_of {W : World} (h : laidMetH Tryd.prog [("unicode/utf8.acceptRanges", Rows.laid_unicode_utf8_acceptRanges), ("unicode/utf8.first", Rows.laid_unicode_utf8_first)] W) : UtfAt W :=
  utfAt_of (by kernel_rfl) h (.tail _ (.head _)) (.head _)
/-- A world in which the tables hold what their initialisers lay. -/
noncomputable def laidWorld (os : Os) : World :=
  { World.holding Tryd.prog os ⟨#[], #[], []⟩ with heap := (Array.modify (World.holding Tryd.prog os ⟨#[], #[], []⟩).heap 0 (putCells firstCells)).modify 1 (putCells acceptCells) }

end Go.Proofs.YtpmellfgmlgknaaDoor
