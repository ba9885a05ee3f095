/-
  The document's letters and order of texts (stratigraphref04).
-/
import Derived.Test.YtpmellfgmlgknaaDoorKyRefLetter
import Derived.Test.YtpmellfgmlgknaaDoorKyNums
namespace Go.Proofs.YtpmellfgmlgknaaDoor
open Go.RowKit
set_option linter.unusedVariables false

/-! ### The document's letters -/
set_option maxRecDepth 100000 in
set_option maxHeartbeats 1000000 in
theorem refLetters_any (s : ByteArray) (w : World) (hs : s.size ≤ 1048576) :
    Calls Tryd.prog 33 #[.string s] w fun e w' => ∃ v, e = .returned v ∧ NumsAt .i64 w' v (Ky.codes s 0) ∧ Below w.heap.size w w' := by
  obtain ⟨i0, hi, hz0, hz1, hz2⟩ := info_parts info_int
  obtain ⟨T, hT⟩ : ∃ T, Ky.codes s 0 = T := ⟨_, rfl⟩
  have hTl : T.length ≤ 1048576 := by
    have := Ky.codes_len s 0
    rw [hT] at this; omega
  rw [hT]
  have HT : Hid ([] ++ Ky.codes s 0 = T) := hT
  have HZ := Lib.hid (Ky.rest_zero s)
  clear hT
  have ho0 : OwnsI w w.heap.size (.slice none 0 0) [] := ⟨rfl, .inl ⟨rfl, rfl⟩⟩
  go_enter Tryd.func33, Tryd.ntmps33
  go_wp2
  go_loopw [0, 3, 4, 5] (fun v b _ _ wr => ∃ (p : Nat) (t : ByteArray) (l : List Nat), p ≤ s.size ∧ v = .string t ∧ Hid (t = s.extract p s.size) ∧ OwnsI wr w.heap.size b l ∧ Hid (l ++ Ky.codes s p = T) ∧ Below w.heap.size w wr) (fun v _ _ _ _ => match v with | .string t => t.size | _ => 0)
  case atStart => exact ⟨0, s, [], Nat.zero_le _, rfl, HZ.out.symm, ho0, HT, Below.refl _ _⟩
  case round =>
    obtain ⟨p, t, l, hp, rfl, ht, ho, hl, hb⟩ := hrel
    have hts0 : Hid (t.size = s.size - p) := by show _ = _; rw [ht.out, Ky.rest_size]
    have hsz := hb.size
    have hll : l.length ≤ 1048576 := by
      have := congrArg List.length hl.out
      rw [List.length_append] at this; omega
    have ho' : wr.ownsRow w.heap.size 3 1 u3 l.length (intsV l) := ho
    by_cases hlt : p < s.size
    · obtain ⟨C, c, m, d1, c1, c2, hC, hpl, m1, m4, hpm, hc, hts, hte, HL⟩ := ref_facts s t p hlt (by omega) ht.out
      have htp : (0 : Int) < t.size := by omega
      have hmt : (m : Int) ≤ t.size := by omega
      have htz : t.size ≤ 1048576 := by omega
      have hst : Hid ((l ++ [c]) ++ Ky.codes s (p + m) = T) := by
        show _ = _
        rw [← hl.out, Ky.codes_step s p hlt, d1, List.append_assoc]
        rfl
      have hlc : l.length + 1 ≤ 1048576 := by
        have := congrArg List.length hst.out
        simp at this; omega
      have HTE := Lib.hid hte
      have e1 : Hid (intsV l ++ [.int .i64 (c : Int)] = intsV (l ++ [c])) := by show _ = _; simp [intsV]
      have e2 : Hid ((l ++ [c]).length = l.length + 1) := by show _ = _; simp
      have HM : Hid ((t.extract m t.size).size < t.size) := by
        show _ < _
        rw [hte, Ky.rest_size, hts0.out]; omega
      clear hte d1 hpl hl hts
      by_cases hneg : C < 0
      · obtain ⟨rfl, rfl⟩ : C = -1 ∧ c = 65533 := by
          split at hC
          · rename_i h; exact ⟨hC, h.1⟩
          · omega
        clear hC
        go_wp2_with (first
          | (go_at_call 31; refine (HL.out _).mono ?_; rintro e W2 ⟨rfl, rfl⟩)
          | (at_builtin; refine wpList_append_own _ rfl (.tmp 16) (.tmp 18) 49 rfl w.heap.size 3 i0 (.int .i64 0) 1 8 Tryd.underlying49 hi hz0 hz1 hz2 rfl (by decide) _ _ _ rfl (ho'.alloc _) ⟨wr.heap.size, 0, none⟩ 1 1 [.int .i64 65533] rfl rfl (cell_one_new _ _ _) (ints_oneCell .i64 [65533]) (by unfold maxLen; omega) (by omega) (by simp; omega) ?_; intro v' w1 hown1 hgrow1 _))
        have hb1 := (hb.alloc hsz _).grown hgrow1 (by simp; omega) (fun k hk => (ho'.lt k hk).1)
        have ho1 : OwnsI w1 w.heap.size v' (l ++ [65533]) := by
          show w1.ownsRow w.heap.size 3 1 v' (l ++ [65533]).length (intsV (l ++ [65533]))
          rw [e2.out, ← e1.out]; exact hown1
        clear hown1 hgrow1
        go_wp2
        go_roundw
        case rel => exact ⟨p + m, _, _, hpm, rfl, HTE, ho1, hst, hb1⟩
        case measure => exact HM.out
      · obtain rfl : C = (c : Int) := by
          split at hC
          · omega
          · exact hC
        clear hC c1
        go_wp2_with (first
          | (go_at_call 31; refine (HL.out _).mono ?_; rintro e W2 ⟨rfl, rfl⟩)
          | (at_builtin; refine wpList_append_own _ rfl (.tmp 16) (.tmp 18) 49 rfl w.heap.size 3 i0 (.int .i64 0) 1 8 Tryd.underlying49 hi hz0 hz1 hz2 rfl (by decide) _ _ _ rfl (ho'.alloc _) ⟨wr.heap.size, 0, none⟩ 1 1 [.int .i64 (c : Int)] rfl rfl (cell_one_new _ _ _) (ints_oneCell .i64 [(c : Int)]) (by unfold maxLen; omega) (by omega) (by simp; omega) ?_; intro v' w1 hown1 hgrow1 _))
        have hb1 := (hb.alloc hsz _).grown hgrow1 (by simp; omega) (fun k hk => (ho'.lt k hk).1)
        have ho1 : OwnsI w1 w.heap.size v' (l ++ [c]) := by
          show w1.ownsRow w.heap.size 3 1 v' (l ++ [c]).length (intsV (l ++ [c]))
          rw [e2.out, ← e1.out]; exact hown1
        clear hown1 hgrow1
        go_wp2
        go_roundw
        case rel => exact ⟨p + m, _, _, hpm, rfl, HTE, ho1, hst, hb1⟩
        case measure => exact HM.out
    · have htz : ¬ (0 : Int) < t.size := by have := hts0.out; omega
      have h := hl.out
      rw [Ky.codes_end s p hlt, List.append_nil] at h
      subst h
      clear hl
      go_wp2
      go_ret
      exact ⟨_, rfl, ho.nums, hb⟩

theorem drop_at (l : List Nat) (k : Nat) (h : k < l.length) : l.drop k = l.getD k 0 :: l.drop (k + 1) := by
  rw [List.drop_eq_getElem_cons (i := k) h]
  simp [List.getD, h]

set_option maxRecDepth 100000 in
set_option maxHeartbeats 1000000 in
theorem refCompare_any (a b : ByteArray) (w : World) (ha : a.size ≤ 1048576) (hb : b.size ≤ 1048576) :
    Calls Tryd.prog 26 #[.string a, .string b] w fun e w' => e = .returned (.int .i64 (Ky.compare a b)) ∧ Below w.heap.size w w' := by
  obtain ⟨R, hR⟩ : ∃ R, Ky.compare a b = R := ⟨_, rfl⟩
  rw [hR]
  have hl1 := Ky.codes_len a 0
  have hl2 := Ky.codes_len b 0
  have H1 := Lib.hid (fun W => refLetters_any a W ha)
  have H2 := Lib.hid (fun W => refLetters_any b W hb)
  have HR : Hid (Ky.cmpL ((Ky.codes a 0).drop 0) ((Ky.codes b 0).drop 0) = R) := by
    show _ = _
    rw [List.drop_zero, List.drop_zero]
    exact hR
  clear hR
  generalize Ky.codes a 0 = l1 at *
  generalize Ky.codes b 0 = l2 at *
  go_enter Tryd.func26, Tryd.ntmps26
  go_wp2_with (fail)
  refine (H1.out _).mono ?_
  rintro e w1 ⟨v1, rfl, n1, hb1⟩
  go_wp2_with (fail)
  refine (H2.out _).mono ?_
  rintro e w2 ⟨v2, rfl, n2, hb2⟩
  have n1' := n1.next hb2
  have hbb := hb1.trans (hb2.mono hb1.size)
  clear n1 hb1 hb2
  obtain ⟨ao1, cap1, rfl, hc1⟩ := n1'
  obtain ⟨ao2, cap2, rfl, hc2⟩ := n2
  have HC1 := Lib.hid hc1
  have HC2 := Lib.hid hc2
  clear hc1 hc2
  go_wp2_with (fail)
  go_loopw [7] (fun i wr => ∃ k : Nat, k ≤ l1.length ∧ k ≤ l2.length ∧ i = .int .i64 k ∧ Hid (Ky.cmpL (l1.drop k) (l2.drop k) = R) ∧ Below w2.heap.size w2 wr) (fun i _ => l1.length - (intOf i).toNat)
  case atStart => exact ⟨0, Nat.zero_le _, Nat.zero_le _, rfl, HR, Below.refl _ _⟩
  case round =>
    obtain ⟨k, hk1, hk2, rfl, hcm, hbel⟩ := hrel
    have hall : ∀ W, Below w2.heap.size w2 W → Below w.heap.size w W := fun W h => hbb.trans (h.mono hbb.size)
    have HALL := Lib.hid hall
    clear hall
    by_cases h1 : k < l1.length
    · by_cases h2 : k < l2.length
      · obtain ⟨b1, rfl, g1, q1⟩ := HC1.out (by omega)
        obtain ⟨b2, rfl, g2, q2⟩ := HC2.out (by omega)
        have c1 := (hbel.cell (p := ⟨b1, k, none⟩) g1).trans (q1 k h1)
        have c2 := (hbel.cell (p := ⟨b2, k, none⟩) g2).trans (q2 k h2)
        have hst := hcm.out
        rw [drop_at l1 k h1, drop_at l2 k h2] at hst
        clear q1 q2 hcm
        generalize l1.getD k 0 = x at *
        generalize l2.getD k 0 = y at *
        by_cases he : x = y
        · subst he
          have hcm2 : Hid (Ky.cmpL (l1.drop (k + 1)) (l2.drop (k + 1)) = R) := by
            show _ = _
            rw [← hst]; simp [Ky.cmpL]
          clear hst
          go_wp2_with fail
          go_quiet (fail)
          go_wp2_with fail
          go_quiet (fail)
          go_wp2_with fail
          go_roundw
          case rel => exact ⟨k + 1, by omega, by omega, by go_num, hcm2, hbel.trans (Joins.below_draws _ _ _)⟩
          case measure => simp [intOf]; omega
        · by_cases hlt : x < y
          · have hlt' : (x : Int) < (y : Int) := by omega
            have hRn : R = -1 := by rw [← hst]; simp [Ky.cmpL, he, hlt]
            subst hRn
            clear hst
            go_wp2_with fail
            go_quiet (fail)
            go_wp2_with fail
            go_ret
            exact ⟨rfl, HALL.out _ (hbel.trans (Joins.below_draws _ _ _))⟩
          · have hlt' : ¬ (x : Int) < (y : Int) := by omega
            have hgt' : (y : Int) < (x : Int) := by omega
            have hRn : R = 1 := by rw [← hst]; simp [Ky.cmpL, he, hlt]
            subst hRn
            clear hst
            go_wp2_with fail
            go_quiet (fail)
            go_wp2_with fail
            go_quiet (fail)
            go_wp2_with fail
            go_ret
            exact ⟨rfl, HALL.out _ ((hbel.trans (Joins.below_draws _ _ _)).trans (Joins.below_draws _ _ _))⟩
      · have e2 : l2.drop k = [] := List.drop_of_length_le (by omega)
        have hRn : R = 1 := by
          rw [← hcm.out, e2, drop_at l1 k h1]; rfl
        subst hRn
        have j1 : ¬ (l1.length : Int) < (l2.length : Int) := by omega
        have j2 : (l2.length : Int) < (l1.length : Int) := by omega
        clear e2 hcm HC1 HC2
        go_wp2_with fail
        go_ret
        exact ⟨rfl, HALL.out _ hbel⟩
    · have e1 : l1.drop k = [] := List.drop_of_length_le (by omega)
      by_cases h2 : k < l2.length
      · have hRn : R = -1 := by
          rw [← hcm.out, e1, drop_at l2 k h2]; rfl
        subst hRn
        have j1 : (l1.length : Int) < (l2.length : Int) := by omega
        clear e1 hcm HC1 HC2
        go_wp2_with fail
        go_ret
        exact ⟨rfl, HALL.out _ hbel⟩
      · have e2 : l2.drop k = [] := List.drop_of_length_le (by omega)
        have hRn : R = 0 := by
          rw [← hcm.out, e1, e2]; rfl
        subst hRn
        have j1 : ¬ (l1.length : Int) < (l2.length : Int) := by omega
        have j2 : ¬ (l2.length : Int) < (l1.length : Int) := by omega
        clear e1 e2 hcm HC1 HC2
        go_wp2_with fail
        go_ret
        exact ⟨rfl, HALL.out _ hbel⟩

end Go.Proofs.YtpmellfgmlgknaaDoor
