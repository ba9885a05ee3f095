/-
  Common ground of the walks: what they import, and lists of bytes as strings.
-/
import Derived.Test.YtdiabcdpnbhibaaRows
import Derived.WalkKit
import Derived.WalkSpells
import Derived.WalkLawsBesides
import Derived.Lib.Hide
import Derived.Lib.SmallJoins
import Derived.Deep.QuietTactic
import Derived.Deep.RegionHeld3
import Derived.BigQuiet
import Derived.Laws.BytesArg
import Derived.Laws.BitsAllLaws
import Derived.Outline
import Derived.IntWalk
namespace Go.Proofs.Ytdiabcdpnbhibaa
open Go.RowKit

theorem bytes_at (s : ByteArray) (k : Nat) (h : k < s.size) : s.data.toList[k]'(by simpa using h) = s[k] := rfl
theorem bytes_len (s : ByteArray) : s.data.toList.length = s.size := by simp

/-- A list of bytes as a string. -/
def S (l : List UInt8) : ByteArray := ⟨l.toArray⟩
theorem S_list (l : List UInt8) : (S l).data.toList = l := rfl
theorem S_size (l : List UInt8) : (S l).size = l.length := by simp [S, ByteArray.size]
theorem S_append (a b : List UInt8) : S a ++ S b = S (a ++ b) := ByteArray.mk_append_mk a b
theorem S_of (s : ByteArray) : S s.data.toList = s := rfl
theorem S_nil : S [] = { data := #[] } := rfl
theorem S_inj {a b : List UInt8} (h : S a = S b) : a = b := by
  have := congrArg (fun b : ByteArray => b.data.toList) h
  exact this
theorem bytes_inj {a b : ByteArray} (h : a.data.toList = b.data.toList) : a = b := ByteArray.ext (Array.toList_inj.1 h)
theorem list_inj {a b : ByteArray} (h : a.toList = b.toList) : a = b := by
  rw [ByteArray.toList_eq, ByteArray.toList_eq] at h
  exact bytes_inj h
theorem app_list (a b : ByteArray) : (a ++ b).data.toList = a.data.toList ++ b.data.toList := by rw [ByteArray.data_append]; simp
theorem extract_list (s : ByteArray) (a b : Nat) : (s.extract a b).data.toList = (s.data.toList.drop a).take (b - a) := by rw [Lib.extract_data]
theorem extract_front (s : ByteArray) (k : Nat) : (s.extract 0 k) = S (s.data.toList.take k) := by
  apply ByteArray.ext; apply Array.toList_inj.1; rw [Lib.extract_data]; simp [S]
theorem extract_back (s : ByteArray) (k : Nat) : (s.extract k s.size) = S (s.data.toList.drop k) := by
  apply ByteArray.ext; apply Array.toList_inj.1; rw [Lib.extract_data]; simp only [S]
  rw [List.take_of_length_le (by simp)]
theorem front_snoc (s : ByteArray) (k : Nat) (h : k < s.size) : s.data.toList.take (k + 1) = s.data.toList.take k ++ [s[k]] := by
  rw [List.take_succ_eq_append_getElem (by simpa using h)]; rfl

end Go.Proofs.Ytdiabcdpnbhibaa
