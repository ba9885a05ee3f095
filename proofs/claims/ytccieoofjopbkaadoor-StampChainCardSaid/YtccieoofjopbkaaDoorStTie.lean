/-
  The listed variables, out of a row's list, and a world that meets the lists.
-/
import Derived.Test.YtccieoofjopbkaaDoorStTab
import Derived.Test.YtccieoofjopbkaaDoorCards
import Derived.Test.YtccieoofjopbkaaDoorTie
import Derived.Test.YtccieoofjopbkaaDoorShelf
import Derived.Deep.DeepHandedRow
import Derived.Lib.LaidTab
import Derived.Lib.LaidU8
import Derived.PinnedBridge
import Derived.MakeChecks
import Derived.Stop.LaidErr
set_option linter.unusedVariables false
namespace Go.Proofs.YtccieoofjopbkaaDoor
open Go.RowKit

theorem tiePow : Tryd.prog.globalNamed "internal/strconv.uint64pow10" = some 0 := by kernel_rfl
theorem tiePowType : (Tryd.prog.globals[0]?).map (·.type) = some 88 := by kernel_rfl
theorem tieU64 : Tryd.prog.cellsOf 73 = 1 := by kernel_rfl
theorem tie20 : Tryd.prog.cellsOf 88 = 20 := by kernel_rfl
theorem tieES : Tryd.prog.globalNamed "strconv.ErrSyntax" = some 1 := by kernel_rfl
theorem tieESType : (Tryd.prog.globals[1]?).map (·.type) = some 66 := by kernel_rfl
theorem tieER : Tryd.prog.globalNamed "strconv.ErrRange" = some 2 := by kernel_rfl
theorem tieERType : (Tryd.prog.globals[2]?).map (·.type) = some 66 := by kernel_rfl
theorem tieStr : Tryd.prog.cellsOf 9 = 1 := by kernel_rfl
theorem tieErrS : Tryd.prog.cellsOf 107 = 1 := by kernel_rfl
theorem star : "*" ++ "errors.errorString" = "*errors.errorString" := by decide
theorem rowES (u : TypeId) (h : Tryd.prog.typeName? 3 u = some "*errors.errorString") : u = 105 :=
  typeName_ptr_named (nm := "errors.errorString") (by rw [star]; kernel_rfl) (by kernel_rfl) (by decide) u (by rw [star]; exact h)

/-- What the long list gives, together with the world's shape. -/
theorem stTab_of {W : World} (h : laidMetH Tryd.prog Rows.stampShowsRow.laid W) (ho : W.ShapedOpen Tryd.prog) : StTab W := by
  rw [MakeChecks.laidMetH_plain _ _ _ (by kernel_rfl)] at h
  have h3 := h.tail.tail
  have h5 := h3.tail.tail
  have h6 := h5.tail
  refine ⟨?_, ?_, ?_, Tryd.laysM147.s1_3 W ho⟩
  · have e : Rows.laid_internal_strconv_uint64pow10 (H := Unit) = Lib.tabData .u64 Lib.pow10Tab := by kernel_rfl
    rw [e] at h3
    exact Lib.tabIs_of_head tiePow tiePowType Tryd.underlying88 Tryd.underlying73 tieU64 tie20 h3
  · obtain ⟨a, s, hv, _⟩ := laid_sentinel h6 tieES tieESType Tryd.underlying66 rowES Tryd.underlying105 Tryd.underlying107 rfl rfl Tryd.underlying9 tieErrS tieStr
    exact ⟨_, _, hv⟩
  · obtain ⟨a, s, hv, _⟩ := laid_sentinel h5 tieER tieERType Tryd.underlying66 rowES Tryd.underlying105 Tryd.underlying107 rfl rfl Tryd.underlying9 tieErrS tieStr
    exact ⟨_, _, hv⟩
theorem stTab_of_reads {W : World} (h : laidMetH Tryd.prog Rows.stampReadsUptoRow.laid W) (ho : W.ShapedOpen Tryd.prog) : StTab W := stTab_of h ho
/-- The short lists: nothing is asked. -/
theorem noTab_of {W : World} {l : List (String × DataW Unit)} (h : laidMetH Tryd.prog l W) : True := trivial

end Go.Proofs.YtccieoofjopbkaaDoor
