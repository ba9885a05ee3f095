/-
  The walks of FrameWraps, FrameTakes, FrameApart: each call returns true, whatever it is handed, and writes nothing that was there.
-/
import Derived.Test.YthllpiohdkcecaaDoorFrameRef
namespace Go.Proofs.YthllpiohdkcecaaDoor
open Go.RowKit

set_option maxRecDepth 100000 in
set_option maxHeartbeats 400000 in
theorem frameWraps_walk (w : World) (hT : TabAt w) (s : ByteArray) (hs : s.size ≤ 140737488351232) :
    Calls Tryd.prog 3 #[.string s] w fun e w' => e = .returned (.bool true) ∧ Below w.heap.size w w' := by
  have HT := Lib.hid hT
  clear hT
  by_cases h : 4096 < s.size
  · go_enter Tryd.func3, Tryd.ntmps3
    go_wp2_with fail
    refine (frameAwake_any _ HT.out).mono ?_
    rintro e w1 ⟨rfl, hb1⟩
    go_wp2_with fail
    go_ret
    exact ⟨rfl, hb1⟩
  · go_enter Tryd.func3, Tryd.ntmps3
    go_wp2_with fail
    refine (Wrap_any s _ (by omega) HT.out).mono ?_
    rintro e w1 ⟨rfl, hb1⟩
    go_wp2_with fail
    refine (refWrap_any s _ (by omega)).mono ?_
    rintro e w2 ⟨rfl, hb2⟩
    have HT2 := Lib.hid ((HT.out.next hb1).next hb2)
    have hb := hb1.trans (hb2.mono hb1.size)
    clear hb1 hb2
    generalize frS s = x
    go_wp2_with fail
    refine (frameAwake_any _ HT2.out).mono ?_
    rintro e w3 ⟨rfl, hb3⟩
    have hbb := hb.trans (hb3.mono hb.size)
    clear hb hb3
    go_wp2_with fail
    go_ret
    exact ⟨rfl, hbb⟩

set_option maxRecDepth 100000 in
set_option maxHeartbeats 400000 in
theorem frameTakes_walk (w : World) (hT : TabAt w) (s : ByteArray) (hs : s.size ≤ 140737488351232) :
    Calls Tryd.prog 5 #[.string s] w fun e w' => e = .returned (.bool true) ∧ Below w.heap.size w w' := by
  have HT := Lib.hid hT
  clear hT
  go_enter Tryd.func5, Tryd.ntmps5
  go_wp2_with fail
  refine (FTake_any s _ (by omega) HT.out).mono ?_
  rintro e w1 ⟨rfl, hb1⟩
  go_wp2_with fail
  refine (refFTake_any s _ (by omega)).mono ?_
  rintro e w2 ⟨rfl, hb2⟩
  have HT2 := Lib.hid ((HT.out.next hb1).next hb2)
  have hb := hb1.trans (hb2.mono hb1.size)
  clear hb1 hb2
  generalize (tkF s).1 = a
  generalize (tkF s).2.1 = b
  generalize (tkF s).2.2 = q
  go_wp2_with fail
  refine (frameAwake_any _ HT2.out).mono ?_
  rintro e w3 ⟨rfl, hb3⟩
  have hbb := hb.trans (hb3.mono hb.size)
  clear hb hb3
  go_wp2_with fail
  go_ret
  exact ⟨rfl, hbb⟩

theorem frS_prefix {a b : ByteArray} (ha : a.size ≤ 1048576) (hb : b.size ≤ 1048576) (h : (frS b).extract 0 (frS a).size = frS a) : a = b := by
  have h1 : frS b = S (Fm.fr b.data.toList) := by rw [← frS_S]; rfl
  have h2 : frS a = S (Fm.fr a.data.toList) := by rw [← frS_S]; rfl
  rw [extract_front, h1, h2, S_list, S_size] at h
  have h3 := S_inj h
  have h4 := List.take_append_drop (Fm.fr a.data.toList).length (Fm.fr b.data.toList)
  rw [h3] at h4
  exact bytes_inj (Fm.fr_prefix (by rw [bytes_len]; exact ha) (by rw [bytes_len]; exact hb) h4.symm).1

theorem extract_self (s : ByteArray) : s.extract 0 s.size = s := by
  rw [extract_front, List.take_of_length_le (by simp)]; rfl

set_option maxRecDepth 100000 in
set_option maxHeartbeats 400000 in
theorem frameApart_walk (w : World) (hT : TabAt w) (a : ByteArray) (ha : a.size ≤ 140737488351232) (b : ByteArray) (hb : b.size ≤ 140737488351232) :
    Calls Tryd.prog 9 #[.string a, .string b] w fun e w' => e = .returned (.bool true) ∧ Below w.heap.size w w' := by
  have HT := Lib.hid hT
  clear hT
  by_cases h4a : 4096 < a.size
  · go_enter Tryd.func9, Tryd.ntmps9
    go_wp2_with fail
    refine (frameAwake_any _ HT.out).mono ?_
    rintro e w1 ⟨rfl, hb1⟩
    go_wp2_with fail
    go_ret
    exact ⟨rfl, hb1⟩
  by_cases h4b : 4096 < b.size
  · go_enter Tryd.func9, Tryd.ntmps9
    go_wp2_with fail
    refine (frameAwake_any _ HT.out).mono ?_
    rintro e w1 ⟨rfl, hb1⟩
    go_wp2_with fail
    go_ret
    exact ⟨rfl, hb1⟩
  by_cases h : a = b
  · subst h
    have hx := extract_self (frS a)
    go_enter Tryd.func9, Tryd.ntmps9
    go_wp2_with fail
    refine (Wrap_any a _ (by omega) HT.out).mono ?_
    rintro e w1 ⟨rfl, hb1⟩
    have HT1 := Lib.hid (HT.out.next hb1)
    go_wp2_with fail
    refine (Wrap_any a _ (by omega) HT1.out).mono ?_
    rintro e w2 ⟨rfl, hb2⟩
    have HT2 := Lib.hid (HT1.out.next hb2)
    have hb := hb1.trans (hb2.mono hb1.size)
    clear hb1 hb2
    generalize frS a = x at *
    have hx2 : (x.extract 0 x.size).toList = x.toList := by rw [hx]
    clear hx
    go_wp2_with fail
    refine (frameAwake_any _ HT2.out).mono ?_
    rintro e w3 ⟨rfl, hb3⟩
    have hbb := hb.trans (hb3.mono hb.size)
    clear hb hb3
    go_wp2_with fail
    go_ret
    exact ⟨rfl, hbb⟩
  · have h1 : (a.toList == b.toList) = false := by rw [beq_eq_false_iff_ne]; intro e; exact h (list_inj e)
    have h3 : ¬ a.toList = b.toList := fun e => h (list_inj e)
    have h5 : ¬ ((frS b).extract 0 (frS a).size).toList = (frS a).toList := fun e => h (frS_prefix (by omega) (by omega) (list_inj e))
    have h6 : (((frS b).extract 0 (frS a).size).toList == (frS a).toList) = false := by rw [beq_eq_false_iff_ne]; exact h5
    clear h
    have HA : Hid (∀ W, TabAt W → Calls Tryd.prog 11 #[.string a] W fun e w' => e = .returned (.tuple #[.string (frS a), .int .i64 0]) ∧ Below W.heap.size W w') := fun W h => Wrap_any a W (by omega) h
    have HB : Hid (∀ W, TabAt W → Calls Tryd.prog 11 #[.string b] W fun e w' => e = .returned (.tuple #[.string (frS b), .int .i64 0]) ∧ Below W.heap.size W w') := fun W h => Wrap_any b W (by omega) h
    generalize frS a = x at *
    generalize frS b = y at *
    by_cases hl : x.size ≤ y.size
    · skip
      go_enter Tryd.func9, Tryd.ntmps9
      go_wp2_with fail
      refine (HA.out _ HT.out).mono ?_
      rintro e w1 ⟨rfl, hb1⟩
      have HT1 := Lib.hid (HT.out.next hb1)
      go_wp2_with fail
      refine (HB.out _ HT1.out).mono ?_
      rintro e w2 ⟨rfl, hb2⟩
      have HT2 := Lib.hid (HT1.out.next hb2)
      have hb := hb1.trans (hb2.mono hb1.size)
      clear hb1 hb2
      go_wp2_with fail
      refine (frameAwake_any _ HT2.out).mono ?_
      rintro e w3 ⟨rfl, hb3⟩
      have hbb := hb.trans (hb3.mono hb.size)
      clear hb hb3
      go_wp2_with fail
      go_ret
      exact ⟨rfl, hbb⟩
    · clear h5 h6
      go_enter Tryd.func9, Tryd.ntmps9
      go_wp2_with fail
      refine (HA.out _ HT.out).mono ?_
      rintro e w1 ⟨rfl, hb1⟩
      have HT1 := Lib.hid (HT.out.next hb1)
      go_wp2_with fail
      refine (HB.out _ HT1.out).mono ?_
      rintro e w2 ⟨rfl, hb2⟩
      have HT2 := Lib.hid (HT1.out.next hb2)
      have hb := hb1.trans (hb2.mono hb1.size)
      clear hb1 hb2
      go_wp2_with fail
      refine (frameAwake_any _ HT2.out).mono ?_
      rintro e w3 ⟨rfl, hb3⟩
      have hbb := hb.trans (hb3.mono hb.size)
      clear hb hb3
      go_wp2_with fail
      go_ret
      exact ⟨rfl, hbb⟩

end Go.Proofs.YthllpiohdkcecaaDoor
