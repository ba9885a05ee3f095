/-
  The document's order of texts.
-/
import Derived.Test.YtiofjapakaoklaaDoorKyLetters
namespace Go.Proofs.YtiofjapakaoklaaDoor
open Go.RowKit
set_option linter.unusedVariables false

theorem drop_at (l : List Nat) (k : Nat) (h : k < l.length) : l.drop k = l.getD k 0 :: l.drop (k + 1) := by
  rw [List.drop_eq_getElem_cons (i := k) h]
  simp [List.getD, h]

set_option maxRecDepth 100000 in
set_option maxHeartbeats 1000000 in
theorem refCompare_any (a b : ByteArray) (w : World) (ha : a.size ≤ 1048576) (hb : b.size ≤ 1048576) :
    Calls Tryd.prog 17 #[.string a, .string b] w fun e w' => e = .returned (.int .i64 (Ky.compare a b)) ∧ Below w.heap.size w w' := by
  obtain ⟨R, hR⟩ : ∃ R, Ky.compare a b = R := ⟨_, rfl⟩
  rw [hR]
  have hl1 := Ky.codes_len a 0
  have hl2 := Ky.codes_len b 0
  have H1 := Lib.hid (fun W => refLetters_any a W ha)
  have H2 := Lib.hid (fun W => refLetters_any b W hb)
  have HR : Hid (Ky.cmpL ((Ky.codes a 0).drop 0) ((Ky.codes b 0).drop 0) = R) := by
    show _ = _
    rw [List.drop_zero, List.drop_zero]
    exact hR
  clear hR
  generalize Ky.codes a 0 = l1 at *
  generalize Ky.codes b 0 = l2 at *
  go_enter Tryd.func17, Tryd.ntmps17
  go_wp2_with (fail)
  refine (H1.out _).mono ?_
  rintro e w1 ⟨v1, rfl, n1, hb1⟩
  go_wp2_with (fail)
  refine (H2.out _).mono ?_
  rintro e w2 ⟨v2, rfl, n2, hb2⟩
  have n1' := n1.next hb2
  have hbb := hb1.trans (hb2.mono hb1.size)
  clear n1 hb1 hb2
  obtain ⟨ao1, cap1, rfl, hc1⟩ := n1'
  obtain ⟨ao2, cap2, rfl, hc2⟩ := n2
  have HC1 := Lib.hid hc1
  have HC2 := Lib.hid hc2
  clear hc1 hc2
  go_wp2_with (fail)
  go_loopw [7] (fun i wr => ∃ k : Nat, k ≤ l1.length ∧ k ≤ l2.length ∧ i = .int .i64 k ∧ Hid (Ky.cmpL (l1.drop k) (l2.drop k) = R) ∧ Below w2.heap.size w2 wr) (fun i _ => l1.length - (intOf i).toNat)
  case atStart => exact ⟨0, Nat.zero_le _, Nat.zero_le _, rfl, HR, Below.refl _ _⟩
  case round =>
    obtain ⟨k, hk1, hk2, rfl, hcm, hbel⟩ := hrel
    have hall : ∀ W, Below w2.heap.size w2 W → Below w.heap.size w W := fun W h => hbb.trans (h.mono hbb.size)
    have HALL := Lib.hid hall
    clear hall
    by_cases h1 : k < l1.length
    · by_cases h2 : k < l2.length
      · obtain ⟨b1, rfl, g1, q1⟩ := HC1.out (by omega)
        obtain ⟨b2, rfl, g2, q2⟩ := HC2.out (by omega)
        have c1 := (hbel.cell (p := ⟨b1, k, none⟩) g1).trans (q1 k h1)
        have c2 := (hbel.cell (p := ⟨b2, k, none⟩) g2).trans (q2 k h2)
        have hst := hcm.out
        rw [drop_at l1 k h1, drop_at l2 k h2] at hst
        clear q1 q2 hcm
        generalize l1.getD k 0 = x at *
        generalize l2.getD k 0 = y at *
        by_cases he : x = y
        · subst he
          have hcm2 : Hid (Ky.cmpL (l1.drop (k + 1)) (l2.drop (k + 1)) = R) := by
            show _ = _
            rw [← hst]; simp [Ky.cmpL]
          clear hst
          go_wp2_with fail
          go_quiet (fail)
          go_wp2_with fail
          go_quiet (fail)
          go_wp2_with fail
          go_roundw
          case rel => exact ⟨k + 1, by omega, by omega, by go_num, hcm2, hbel.trans (Joins.below_draws _ _ _)⟩
          case measure => simp [intOf]; omega
        · by_cases hlt : x < y
          · have hlt' : (x : Int) < (y : Int) := by omega
            have hRn : R = -1 := by rw [← hst]; simp [Ky.cmpL, he, hlt]
            subst hRn
            clear hst
            go_wp2_with fail
            go_quiet (fail)
            go_wp2_with fail
            go_ret
            exact ⟨rfl, HALL.out _ (hbel.trans (Joins.below_draws _ _ _))⟩
          · have hlt' : ¬ (x : Int) < (y : Int) := by omega
            have hgt' : (y : Int) < (x : Int) := by omega
            have hRn : R = 1 := by rw [← hst]; simp [Ky.cmpL, he, hlt]
            subst hRn
            clear hst
            go_wp2_with fail
            go_quiet (fail)
            go_wp2_with fail
            go_quiet (fail)
            go_wp2_with fail
            go_ret
            exact ⟨rfl, HALL.out _ ((hbel.trans (Joins.below_draws _ _ _)).trans (Joins.below_draws _ _ _))⟩
      · have e2 : l2.drop k = [] := List.drop_of_length_le (by omega)
        have hRn : R = 1 := by
          rw [← hcm.out, e2, drop_at l1 k h1]; rfl
        subst hRn
        have j1 : ¬ (l1.length : Int) < (l2.length : Int) := by omega
        have j2 : (l2.length : Int) < (l1.length : Int) := by omega
        clear e2 hcm HC1 HC2
        go_wp2_with fail
        go_ret
        exact ⟨rfl, HALL.out _ hbel⟩
    · have e1 : l1.drop k = [] := List.drop_of_length_le (by omega)
      by_cases h2 : k < l2.length
      · have hRn : R = -1 := by
          rw [← hcm.out, e1, drop_at l2 k h2]; rfl
        subst hRn
        have j1 : (l1.length : Int) < (l2.length : Int) := by omega
        clear e1 hcm HC1 HC2
        go_wp2_with fail
        go_ret
        exact ⟨rfl, HALL.out _ hbel⟩
      · have e2 : l2.drop k = [] := List.drop_of_length_le (by omega)
        have hRn : R = 0 := by
          rw [← hcm.out, e1, e2]; rfl
        subst hRn
        have j1 : ¬ (l1.length : Int) < (l2.length : Int) := by omega
        have j2 : ¬ (l2.length : Int) < (l1.length : Int) := by omega
        clear e1 e2 hcm HC1 HC2
        go_wp2_with fail
        go_ret
        exact ⟨rfl, HALL.out _ hbel⟩

end Go.Proofs.YtiofjapakaoklaaDoor
