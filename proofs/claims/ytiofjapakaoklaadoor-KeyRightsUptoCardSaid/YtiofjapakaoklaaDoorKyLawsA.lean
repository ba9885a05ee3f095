/-
  Three laws of keys: the order goes on; it is that of the bytes; a text's word is read back.
-/
import Derived.Test.YtiofjapakaoklaaDoorKyRead
import Derived.Test.YtiofjapakaoklaaDoorKyOrder
namespace Go.Proofs.YtiofjapakaoklaaDoor
open Go.RowKit
set_option linter.unusedVariables false

/-- The order of two texts, under a name that the walk leaves alone, with what the call answers. -/
theorem cmp_call (a b : ByteArray) : ∃ R : Int, Ky.compare a b = R ∧ (R = -1 ∨ R = 0 ∨ R = 1) ∧ Hid (∀ W, TabAt W → Calls Tryd.prog 16 #[.string a, .string b] W fun e w' => e = .returned (.int .i64 R) ∧ Below W.heap.size W w') :=
  ⟨Ky.compare a b, rfl, Ky.cmpL_range _ _, fun W hW => compare_any a b W hW⟩

set_option maxRecDepth 100000 in
set_option maxHeartbeats 1000000 in
theorem keyChain_walk (w : World) (hT : TabAt w) (a : ByteArray) (ha : a.size ≤ 140737488351232) (b : ByteArray) (hb : b.size ≤ 140737488351232) (c : ByteArray) (hc : c.size ≤ 140737488351232) :
    Calls Tryd.prog 9 #[.string a, .string b, .string c] w fun e w' => e = .returned (.bool true) ∧ Below w.heap.size w w' := by
  obtain ⟨R1, e1, r1, H1⟩ := cmp_call a b
  obtain ⟨R2, e2, r2, H2⟩ := cmp_call b c
  obtain ⟨R3, e3, r3, H3⟩ := cmp_call a c
  obtain ⟨R4, e4, r4, H4⟩ := cmp_call a a
  obtain rfl : R4 = 0 := by rw [← e4]; exact Ky.cmpL_self _
  have h3 : R1 ≤ 0 → R2 ≤ 0 → R3 ≤ 0 := by
    rw [← e1, ← e2, ← e3]
    exact Ky.cmpL_trans _ _ _
  have HT := Lib.hid hT
  clear hT e1 e2 e3 e4 r3 r4
  by_cases h1 : R1 > 0
  · clear h3
    go_enter Tryd.func9, Tryd.ntmps9
    go_wp2_with (first
      | (go_at_call 16; refine (H1.out _ HT.out).mono ?_; rintro e w1 ⟨rfl, hb1⟩; have HT1 := Lib.hid (HT.out.next hb1))
      | (go_at_call 15; refine (awake_any _ HT1.out).mono ?_; rintro e w2 ⟨rfl, hb2⟩))
    go_ret
    exact ⟨rfl, hb1.trans (hb2.mono hb1.size)⟩
  by_cases h2 : R2 > 0
  · clear h3
    go_enter Tryd.func9, Tryd.ntmps9
    go_wp2_with (fail)
    refine (H1.out _ HT.out).mono ?_
    rintro e w1 ⟨rfl, hb1⟩
    have HT1 := Lib.hid (HT.out.next hb1)
    go_wp2_with (fail)
    refine (H2.out _ HT1.out).mono ?_
    rintro e w2 ⟨rfl, hb2⟩
    have HT2 := Lib.hid (HT1.out.next hb2)
    have hbb := hb1.trans (hb2.mono hb1.size)
    clear hb1 hb2
    go_wp2_with (fail)
    refine (awake_any _ HT2.out).mono ?_
    rintro e w3 ⟨rfl, hb3⟩
    go_wp2_with (fail)
    go_ret
    exact ⟨rfl, hbb.trans (hb3.mono hbb.size)⟩
  have h3' := h3 (by omega) (by omega)
  clear h3
  go_enter Tryd.func9, Tryd.ntmps9
  go_wp2_with (fail)
  refine (H1.out _ HT.out).mono ?_
  rintro e w1 ⟨rfl, hb1⟩
  have HT1 := Lib.hid (HT.out.next hb1)
  go_wp2_with (fail)
  refine (H2.out _ HT1.out).mono ?_
  rintro e w2 ⟨rfl, hb2⟩
  have HT2 := Lib.hid (HT1.out.next hb2)
  have hbb := hb1.trans (hb2.mono hb1.size)
  clear hb1 hb2
  go_wp2_with (fail)
  refine (H3.out _ HT2.out).mono ?_
  rintro e w3 ⟨rfl, hb3⟩
  have HT3 := Lib.hid (HT2.out.next hb3)
  have hbc := hbb.trans (hb3.mono hbb.size)
  clear hbb hb3
  go_wp2_with (fail)
  refine (H4.out _ HT3.out).mono ?_
  rintro e w4 ⟨rfl, hb4⟩
  have HT4 := Lib.hid (HT3.out.next hb4)
  have hbd := hbc.trans (hb4.mono hbc.size)
  clear hbc hb4
  go_wp2_with (fail)
  refine (awake_any _ HT4.out).mono ?_
  rintro e w5 ⟨rfl, hb5⟩
  go_wp2_with (fail)
  go_ret
  exact ⟨rfl, hbd.trans (hb5.mono hbd.size)⟩

set_option maxRecDepth 100000 in
set_option maxHeartbeats 1000000 in
theorem keyOrder_walk (w : World) (hT : TabAt w) (a : ByteArray) (ha : a.size ≤ 140737488351232) (b : ByteArray) (hb : b.size ≤ 140737488351232) :
    Calls Tryd.prog 7 #[.string a, .string b] w fun e w' => e = .returned (.bool true) ∧ Below w.heap.size w w' := by
  obtain ⟨R, eR, rR, HC⟩ := cmp_call a b
  have HA := Lib.hid (right_any a)
  have HB := Lib.hid (right_any b)
  obtain ⟨A, hA⟩ : ∃ A, Ky.right a = A := ⟨_, rfl⟩
  obtain ⟨B, hB⟩ : ∃ B, Ky.right b = B := ⟨_, rfl⟩
  rw [hA] at HA
  rw [hB] at HB
  have HT := Lib.hid hT
  clear hT
  cases A
  · clear hA hB HC eR rR
    go_enter Tryd.func7, Tryd.ntmps7
    go_wp2_with (fail)
    refine (HA.out _).mono ?_
    rintro e w1 ⟨rfl, hb1⟩
    have HT1 := Lib.hid (HT.out.next hb1)
    go_wp2_with (fail)
    refine (awake_any _ HT1.out).mono ?_
    rintro e w3 ⟨rfl, hb3⟩
    go_wp2_with (fail)
    go_ret
    exact ⟨rfl, hb1.trans (hb3.mono hb1.size)⟩
  cases B
  · clear hA hB HC eR rR
    go_enter Tryd.func7, Tryd.ntmps7
    go_wp2_with (fail)
    refine (HA.out _).mono ?_
    rintro e w1 ⟨rfl, hb1⟩
    have HT1 := Lib.hid (HT.out.next hb1)
    go_wp2_with (fail)
    refine (HB.out _).mono ?_
    rintro e w2 ⟨rfl, hb2⟩
    have HT2 := Lib.hid (HT1.out.next hb2)
    have hbb := hb1.trans (hb2.mono hb1.size)
    clear hb1 hb2
    go_wp2_with (fail)
    refine (awake_any _ HT2.out).mono ?_
    rintro e w3 ⟨rfl, hb3⟩
    go_wp2_with (fail)
    go_ret
    exact ⟨rfl, hbb.trans (hb3.mono hbb.size)⟩
  have hl := Ky.order_bytes a b (Ky.right_pl a hA).1 (Ky.right_pl b hB).1
  have hs := Ky.same_bytes a b (Ky.right_pl a hA).1 (Ky.right_pl b hB).1
  have hz : a = b → R = 0 := by
    intro e
    rw [← eR, e]
    exact Ky.cmpL_self _
  rw [eR] at hl hs
  have q1 : Op.bytesLess a.toList b.toList = decide (R < 0) := by rw [ByteArray.toList_eq, ByteArray.toList_eq]; exact hl
  have q2 : (a.toList == b.toList) = decide (R = 0) := by
    by_cases h : R = 0
    · rw [hs h, h]; simp
    · have h1 : ¬ a.toList = b.toList := fun x => h (hz (list_inj x))
      rw [beq_eq_false_iff_ne.2 h1]; simp [h]
  clear hl hs hz eR hA hB
  rcases rR with rfl | rfl | rfl
  all_goals
    simp only [Int.reduceLT, Int.reduceNeg, decide_true, decide_false, Int.reduceEq] at q1 q2
    have q3 : q2 = q2 := rfl
    clear q3
    go_enter Tryd.func7, Tryd.ntmps7
    go_wp2_with (fail)
    refine (HA.out _).mono ?_
    rintro e w1 ⟨rfl, hb1⟩
    have HT1 := Lib.hid (HT.out.next hb1)
    go_wp2_with (fail)
    refine (HB.out _).mono ?_
    rintro e w2 ⟨rfl, hb2⟩
    have HT2 := Lib.hid (HT1.out.next hb2)
    have hbb := hb1.trans (hb2.mono hb1.size)
    clear hb1 hb2
    go_wp2_with (fail)
    refine (HC.out _ HT2.out).mono ?_
    rintro e w3 ⟨rfl, hb3⟩
    have HT3 := Lib.hid (HT2.out.next hb3)
    have hbc := hbb.trans (hb3.mono hbb.size)
    clear hbb hb3
    go_wp2_with (fail)
    refine (awake_any _ HT3.out).mono ?_
    rintro e w4 ⟨rfl, hb4⟩
    go_wp2_with (fail)
    go_ret
    exact ⟨rfl, hbc.trans (hb4.mono hbc.size)⟩

end Go.Proofs.YtiofjapakaoklaaDoor
