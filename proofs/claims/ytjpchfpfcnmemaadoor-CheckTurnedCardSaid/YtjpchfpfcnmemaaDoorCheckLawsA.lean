/-
  The walks of CheckSums, CheckOpens, CheckBack, CheckApart: each call returns true, whatever it is handed, and writes nothing that was there.
-/
import Derived.Test.YtjpchfpfcnmemaaDoorCheckOpen
namespace Go.Proofs.YtjpchfpfcnmemaaDoor
open Go.RowKit

set_option maxRecDepth 100000 in
set_option maxHeartbeats 400000 in
theorem checkSums_walk (w : World) (hT : TabAt w) (s : ByteArray) (hs : s.size ≤ 140737488351232) :
    Calls Tryd.prog 3 #[.string s] w fun e w' => e = .returned (.bool true) ∧ Below w.heap.size w w' := by
  have HT := Lib.hid hT
  clear hT
  have h4 : (s.size + (sumS s).size : Int) ≤ 9223372036854775807 := by rw [sumS_size]; omega
  have HE : Hid (sealS s = s ++ sumS s) := rfl
  have HF : Hid (sumS s = S (Ck.four (sumN s))) := rfl
  have hl := sumN_lt s
  go_enter Tryd.func3, Tryd.ntmps3
  go_wp2_with fail
  refine (refOf_any _ _ (by omega)).mono ?_
  rintro e w1 ⟨rfl, rfl⟩
  go_wp2_with fail
  refine (Of_any _ _ (by omega) HT.out).mono ?_
  rintro e w1 ⟨rfl, rfl⟩
  go_wp2_with fail
  refine (Seal_any _ _ (by omega) HT.out).mono ?_
  rintro e w1 ⟨rfl, hb1⟩
  rw [HE.out]
  go_wp2_with fail
  refine (refFour_any _ _ hl).mono ?_
  rintro e w2 ⟨rfl, hb2⟩
  rw [← HF.out]
  have HT2 := Lib.hid ((HT.out.next hb1).next hb2)
  have hb := hb1.trans (hb2.mono hb1.size)
  clear hb1 hb2
  generalize sumS s = x at *
  have h5 : ¬ (s.size + x.size > 9223372036854775807) := by omega
  clear h4
  go_wp2_with fail
  refine (awake_any _ HT2.out).mono ?_
  rintro e w3 ⟨rfl, rfl⟩
  go_wp2_with fail
  go_ret
  exact ⟨rfl, hb⟩

set_option maxRecDepth 100000 in
set_option maxHeartbeats 400000 in
theorem checkOpens_walk (w : World) (hT : TabAt w) (s : ByteArray) (hs : s.size ≤ 140737488351232) :
    Calls Tryd.prog 4 #[.string s] w fun e w' => e = .returned (.bool true) ∧ Below w.heap.size w w' := by
  have HT := Lib.hid hT
  clear hT
  go_enter Tryd.func4, Tryd.ntmps4
  go_wp2_with fail
  refine (Open_any _ _ (by omega) HT.out).mono ?_
  rintro e w1 ⟨rfl, hb1⟩
  go_wp2_with fail
  refine (refOpen_any _ _ (by omega)).mono ?_
  rintro e w2 ⟨rfl, hb2⟩
  have HT2 := Lib.hid ((HT.out.next hb1).next hb2)
  have hb := hb1.trans (hb2.mono hb1.size)
  clear hb1 hb2
  generalize (op s).1 = a
  generalize (op s).2 = q
  go_wp2_with fail
  refine (awake_any _ HT2.out).mono ?_
  rintro e w3 ⟨rfl, rfl⟩
  go_wp2_with fail
  go_ret
  exact ⟨rfl, hb⟩

theorem seal_front (s : ByteArray) : (sealS s).extract 0 ((sealS s).size - 4) = s := by
  rw [sealS_size]
  unfold sealS
  apply ByteArray.ext
  simp
theorem seal_back (s : ByteArray) : (sealS s).extract ((sealS s).size - 4) (sealS s).size = sumS s := by
  have h4 := sumS_size s
  rw [sealS_size]
  unfold sealS
  apply ByteArray.ext
  have h5 : (sumS s).data.size = 4 := h4
  have h6 : s.data.size = s.size := rfl
  rw [show s.size + 4 - 4 = s.size by omega]
  simp only [ByteArray.data_extract, ByteArray.data_append]
  rw [Array.extract_append]
  rw [h6]
  have e1 : s.data.extract s.size s.size = #[] := by simp
  have e2 : (sumS s).data.extract 0 4 = (sumS s).data := by rw [← h5, Array.extract_size]
  simp [e1, e2]
theorem op_seal (s : ByteArray) : op (sealS s) = (s, 0) := by
  have h := op_good (s := sealS s) (by rw [sealS_size]; omega) (by rw [seal_front, seal_back])
  rw [seal_front] at h
  exact h
theorem seal_inj {a b : ByteArray} (h : sealS a = sealS b) : a = b := by
  rw [← seal_front a, ← seal_front b, h]

set_option maxRecDepth 100000 in
set_option maxHeartbeats 400000 in
theorem checkBack_walk (w : World) (hT : TabAt w) (s : ByteArray) (hs : s.size ≤ 140737488351232) :
    Calls Tryd.prog 5 #[.string s] w fun e w' => e = .returned (.bool true) ∧ Below w.heap.size w w' := by
  have HT := Lib.hid hT
  clear hT
  have HO := Lib.hid (op_seal s)
  have hz : ((sealS s).size : Int) = (s.size : Int) + 4 := by rw [sealS_size]; omega
  have hz2 : (sealS s).size ≤ 9223372036854775807 := by omega
  have HZ := Lib.hid hz
  clear hz
  go_enter Tryd.func5, Tryd.ntmps5
  go_wp2_with fail
  refine (Seal_any _ _ (by omega) HT.out).mono ?_
  rintro e w1 ⟨rfl, hb1⟩
  have HT1 := Lib.hid (HT.out.next hb1)
  go_wp2_with fail
  refine (Open_any _ _ (by omega) HT1.out).mono ?_
  rintro e w2 ⟨rfl, hb2⟩
  have HT2 := Lib.hid (HT1.out.next hb2)
  rw [HO.out]
  have hb := hb1.trans (hb2.mono hb1.size)
  clear hb1 hb2
  go_wp2_with fail
  refine (Seal_any _ _ (by omega) HT2.out).mono ?_
  rintro e w3 ⟨rfl, hb3⟩
  have HT3 := Lib.hid (HT2.out.next hb3)
  have hbb := hb.trans (hb3.mono hb.size)
  clear hb hb3
  have hzb : (((sealS s).size : Int) == (s.size : Int) + 4) = true := by rw [beq_iff_eq]; exact HZ.out
  go_wp2_with fail
  refine (awake_any _ HT3.out).mono ?_
  rintro e w4 ⟨rfl, rfl⟩
  go_wp2_with fail
  go_ret
  exact ⟨rfl, hbb⟩

set_option maxRecDepth 100000 in
set_option maxHeartbeats 400000 in
theorem checkApart_walk (w : World) (hT : TabAt w) (a : ByteArray) (ha : a.size ≤ 140737488351232) (b : ByteArray) (hb : b.size ≤ 140737488351232) :
    Calls Tryd.prog 7 #[.string a, .string b] w fun e w' => e = .returned (.bool true) ∧ Below w.heap.size w w' := by
  have HT := Lib.hid hT
  clear hT
  by_cases h : a = b
  · subst h
    go_enter Tryd.func7, Tryd.ntmps7
    go_wp2_with fail
    refine (Seal_any _ _ (by omega) HT.out).mono ?_
    rintro e w1 ⟨rfl, hb1⟩
    have HT1 := Lib.hid (HT.out.next hb1)
    go_wp2_with fail
    refine (Seal_any _ _ (by omega) HT1.out).mono ?_
    rintro e w2 ⟨rfl, hb2⟩
    have HT2 := Lib.hid (HT1.out.next hb2)
    have hb := hb1.trans (hb2.mono hb1.size)
    clear hb1 hb2
    generalize sealS a = x
    go_wp2_with fail
    refine (awake_any _ HT2.out).mono ?_
    rintro e w3 ⟨rfl, rfl⟩
    go_wp2_with fail
    go_ret
    exact ⟨rfl, hb⟩
  · have h1 : (a.toList == b.toList) = false := by rw [beq_eq_false_iff_ne]; intro e; exact h (list_inj e)
    have h2 : ((sealS a).toList == (sealS b).toList) = false := by rw [beq_eq_false_iff_ne]; intro e; exact h (seal_inj (list_inj e))
    have h3 : ¬ a.toList = b.toList := fun e => h (list_inj e)
    have h4 : ¬ (sealS a).toList = (sealS b).toList := fun e => h (seal_inj (list_inj e))
    clear h
    go_enter Tryd.func7, Tryd.ntmps7
    go_wp2_with fail
    refine (Seal_any _ _ (by omega) HT.out).mono ?_
    rintro e w1 ⟨rfl, hb1⟩
    have HT1 := Lib.hid (HT.out.next hb1)
    go_wp2_with fail
    refine (Seal_any _ _ (by omega) HT1.out).mono ?_
    rintro e w2 ⟨rfl, hb2⟩
    have HT2 := Lib.hid (HT1.out.next hb2)
    have hb := hb1.trans (hb2.mono hb1.size)
    clear hb1 hb2
    generalize sealS a = x at *
    generalize sealS b = y at *
    go_wp2_with fail
    refine (awake_any _ HT2.out).mono ?_
    rintro e w3 ⟨rfl, rfl⟩
    go_wp2_with fail
    go_ret
    exact ⟨rfl, hb⟩

end Go.Proofs.YtjpchfpfcnmemaaDoor
