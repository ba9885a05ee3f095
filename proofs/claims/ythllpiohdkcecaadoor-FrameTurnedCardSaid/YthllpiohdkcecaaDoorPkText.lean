/-
  Contracts of pack.Text and of the document's Text.
-/
import Derived.Test.YthllpiohdkcecaaDoorPkRef
namespace Go.Proofs.YthllpiohdkcecaaDoor
open Go.RowKit

/-- A text's bytes. -/
def textS (s : ByteArray) : ByteArray := S (Pk.enc s.size) ++ s

set_option maxRecDepth 100000 in
set_option maxHeartbeats 400000 in
theorem Text_any (s : ByteArray) (w : World) (hs : s.size ≤ 140737488351232) :
    Calls Tryd.prog 20 #[.string s] w fun e w' => e = .returned (.string (textS s)) ∧ Below w.heap.size w w' := by
  have hl := Pk.enc_len9 (n := s.size) (by omega)
  rw [← S_size] at hl
  go_enter Tryd.func20, Tryd.ntmps20
  go_wp2_with fail
  refine (appendNumber_any w.heap.size (.slice none 0 0) [] s.size w (Nat.le_refl _) (by omega) (by simp) (World.ownsRow_nil _ _ _ _)).mono ?_
  rintro e w1 ⟨v1, rfl, ho, hb⟩
  have hcv := convert_owns ho
  rw [List.nil_append] at hcv
  clear ho
  go_wp2_with fail
  go_ret
  exact ⟨rfl, hb⟩

set_option maxRecDepth 100000 in
set_option maxHeartbeats 400000 in
theorem refText_any (s : ByteArray) (w : World) (hs : s.size ≤ 140737488351232) :
    Calls Tryd.prog 21 #[.string s] w fun e w' => e = .returned (.string (textS s)) ∧ Below w.heap.size w w' := by
  have hl := Pk.enc_len9 (n := s.size) (by omega)
  rw [← S_size] at hl
  go_enter Tryd.func21, Tryd.ntmps21
  go_wp2_with fail
  refine (refPut_any s.size w (by omega)).mono ?_
  rintro e w1 ⟨rfl, hb⟩
  go_wp2_with fail
  go_ret
  exact ⟨rfl, hb⟩

theorem tk_back {m : Nat} (h : m < 9223372036854775808) (more : ByteArray) : tk (S (Pk.enc m) ++ more) = (m, more.data.toList, 0) := by
  unfold tk
  rw [app_list]
  exact Pk.take_back h _

theorem extract_app_front (a b : ByteArray) : (a ++ b).extract 0 a.size = a := by
  rw [extract_front, app_list]
  have : (a.data.toList ++ b.data.toList).take a.size = a.data.toList := by
    rw [← bytes_len a]; exact List.take_left
  rw [this]; rfl
theorem extract_app_back (a b : ByteArray) : (a ++ b).extract a.size (a ++ b).size = b := by
  rw [extract_back, app_list]
  have : (a.data.toList ++ b.data.toList).drop a.size = b.data.toList := by
    rw [← bytes_len a]; exact List.drop_left
  rw [this]; rfl

theorem textS_size (s : ByteArray) (h : s.size ≤ 140737488351232) : (textS s).size ≤ s.size + 9 := by
  have hl := Pk.enc_len9 (n := s.size) (by omega)
  unfold textS
  rw [ByteArray.size_append, S_size]; omega

end Go.Proofs.YthllpiohdkcecaaDoor
