/-
  Merged texts, in build order: KyRefRight KyNums KyRefCompare IxRefRight IxPages IxRefSide InFind VrRefAt SmEq.
-/
import Derived.Test.YtkmmifonandkoaaDoorG05
import Derived.Test.YtkmmifonandkoaaDoorG04
import Derived.Deep.DeepCutAuto
import Derived.OwnWalk
import Derived.Test.YtkmmifonandkoaaDoorG03

/-
  Whether a text is a key: the document's answer (stratigraphref04).
-/
namespace Go.Proofs.YtkmmifonandkoaaDoor
open Go.RowKit
set_option linter.unusedVariables false

set_option maxRecDepth 100000 in
set_option maxHeartbeats 400000 in
theorem kRefRight_any (s : ByteArray) (w : World) :
    Calls Tryd.prog 36 #[.string s] w fun e w' => e = .returned (.bool (Ky.right s)) ∧ w = w' := by
  obtain ⟨R, hR⟩ : ∃ R, Ky.right s = R := ⟨_, rfl⟩
  rw [hR]
  have H := Lib.hid hR
  clear hR
  by_cases h0 : s.size = 0
  · have h0' : (s.size : Int) = 0 := by omega
    have hr := H.out
    have h1 : R = false := by rw [← hr]; simp [Ky.right, h0]
    subst h1
    clear H hr
    go_enter Tryd.func36, Tryd.ntmps36
    go_wp2
    go_ret
    exact ⟨rfl, rfl⟩
  have h0' : ((s.size : Int) == 0) = false := beq_eq_false_iff_ne.2 (by omega)
  by_cases h16 : 16 < s.size
  · have h16' : (16 : Int) < s.size := by omega
    have hr := H.out
    have h1 : R = false := by rw [← hr]; simp [Ky.right, h16]
    subst h1
    clear H hr
    go_enter Tryd.func36, Tryd.ntmps36
    go_wp2
    go_ret
    exact ⟨rfl, rfl⟩
  have h16' : ¬ (16 : Int) < s.size := by omega
  have hr := H.out
  have hA : Hid (Ky.allPl s 0 = R) := by
    show _ = _
    rw [← hr]; simp [Ky.right, h0, h16]
  clear H hr
  have HZ := Lib.hid (Ky.rest_zero s)
  go_enter Tryd.func36, Tryd.ntmps36
  go_wp2
  go_loop [0, 3, 4] (fun v _ _ => ∃ (p : Nat) (t : ByteArray), p ≤ s.size ∧ v = .string t ∧ Hid (t.size = s.size - p) ∧ Hid (t = s.extract p s.size) ∧ Hid (Ky.allPl s p = R)) (fun v _ _ => match v with | .string t => t.size | _ => 0)
  case atStart => exact ⟨0, s, Nat.zero_le _, rfl, Lib.hid (show s.size = s.size - 0 by omega), HZ.out.symm, hA⟩
  case round =>
    obtain ⟨p, t, hp, rfl, hts0, ht, hall⟩ := hrel
    by_cases hlt : p < s.size
    · obtain ⟨c, m, d1, d2, m1, m4, hpm, hc, hts, hte⟩ := rest_facts s t p hlt ht.out
      have htp : (0 : Int) < t.size := by omega
      have htl : t.size ≤ 16 := by omega
      obtain ⟨C, M, hCM⟩ : ∃ C M, Ky.refL (Utf8.decode t 0) = (C, M) := ⟨_, _, rfl⟩
      have hL : Hid (∀ W, Calls Tryd.prog 61 #[.string t] W fun e w' => e = .returned (.tuple #[.int .i64 C, .int .i64 M]) ∧ W = w') := fun W => letter_any t W (by omega) (by omega) C M hCM
      have hst := hall.out
      rw [Ky.allPl_step s p hlt, d1] at hst
      clear hall
      rw [d2] at hCM
      have hpl := Ky.plain_ref c m
      rw [hCM] at hpl
      dsimp only at hpl
      have hM : M = m := by
        have := congrArg Prod.snd hCM
        unfold Ky.refL at this
        split at this
        · rename_i h; simp at this; omega
        · simpa using this.symm
      have hCr : -1 ≤ C ∧ C ≤ 1114111 := by
        have := congrArg Prod.fst hCM
        unfold Ky.refL at this
        split at this
        · simp at this; omega
        · simp at this; omega
      subst hM
      dsimp only at hst
      rw [← hpl] at hst
      have HST := Lib.hid hst
      have HTE := Lib.hid hte
      have hMle : (M : Int) ≤ t.size := by omega
      clear hst hte d1 d2 hpl hCM hts
      obtain ⟨B, hB⟩ : ∃ B, Ky.plainI C = B := ⟨_, rfl⟩
      have HP : Hid (∀ W, Calls Tryd.prog 62 #[.int .i64 C] W fun e w' => e = .returned (.bool B) ∧ W = w') := fun W => by
        rw [← hB]; exact refPlain_any C W hCr.1 hCr.2
      have HB := Lib.hid hB
      clear hB
      cases B
      · have hR : R = false := by
          have := HST.out
          rw [← this, HB.out]; rfl
        subst hR
        clear HST HB
        go_wp2_with (first | (go_at_call 61; refine (hL.out _).mono ?_; rintro e W2 ⟨rfl, rfl⟩) | (go_at_call 62; refine (HP.out _).mono ?_; rintro e W2 ⟨rfl, rfl⟩))
        go_ret
        exact ⟨rfl, rfl⟩
      · have hA2 : Hid (Ky.allPl s (p + M) = R) := by
          have := HST.out
          show _ = _
          rw [← this, HB.out]; rfl
        clear HST HB
        go_wp2_with (first | (go_at_call 61; refine (hL.out _).mono ?_; rintro e W2 ⟨rfl, rfl⟩) | (go_at_call 62; refine (HP.out _).mono ?_; rintro e W2 ⟨rfl, rfl⟩))
        go_round
        case rel => exact ⟨p + M, t.extract M t.size, hpm, rfl, (show _ = _ by rw [HTE.out, Ky.rest_size]), HTE, hA2⟩
        case measure =>
          have e2 : (t.extract M t.size).size = s.size - (p + M) := by rw [HTE.out, Ky.rest_size]
          show (t.extract M t.size).size < t.size
          rw [e2, hts0.out]; omega
    · have hR : R = true := by
        have := hall.out
        rw [← this, Ky.allPl_end s p hlt]
      subst hR
      have htz : ¬ (0 : Int) < t.size := by have := hts0.out; omega
      clear hall
      go_wp2
      go_ret
      exact ⟨rfl, rfl⟩

end Go.Proofs.YtkmmifonandkoaaDoor

/-
  Slices of numbers: of the call's own, and wherever they lie.
-/
namespace Go.Proofs.YtkmmifonandkoaaDoor
open Go.RowKit
set_option linter.unusedVariables false

/-- Numbers of one kind, wherever they lie. -/
def NumsAt (k : IntKind) (w : World) (v : Value) (l : List Nat) : Prop :=
  ∃ ao cap, v = .slice ao l.length cap ∧ (0 < l.length → ∃ b, ao = some ⟨b, 0, none⟩ ∧ b < w.heap.size ∧ ∀ i, i < l.length → w.cell? ⟨b, i, none⟩ = some (.int k ((l.getD i 0 : Nat) : Int)))
theorem NumsAt.next {k : IntKind} {w w' : World} {v : Value} {l : List Nat} (h : NumsAt k w v l) (hb : Below w.heap.size w w') : NumsAt k w' v l := by
  obtain ⟨ao, cap, e, h1⟩ := h
  refine ⟨ao, cap, e, fun hp => ?_⟩
  obtain ⟨b, e2, h4, h5⟩ := h1 hp
  exact ⟨b, e2, Nat.lt_of_lt_of_le h4 hb.size, fun i hi => (hb.cell (p := ⟨b, i, none⟩) h4).trans (h5 i hi)⟩

def intsV (l : List Nat) : List Value := l.map fun (c : Nat) => Value.int .i64 (c : Int)
def OwnsI (w : World) (base : Nat) (v : Value) (l : List Nat) : Prop := w.ownsRow base 3 1 v l.length (intsV l)
theorem info_int : (Tryd.prog.info? 3).map (fun i => (i.zero, i.size, i.bytes)) = some (some (.int .i64 0), 1, 8) := by kernel_rfl
theorem block_lt {w : World} {h : Nat} {o : Obj} (e : w.heap[h]? = some o) : h < w.heap.size := by
  rcases Nat.lt_or_ge h w.heap.size with h1 | h1
  · exact h1
  · rw [Array.getElem?_eq_none h1] at e; cases e
theorem OwnsI.nums {w : World} {B : Nat} {v : Value} {l : List Nat} (h : OwnsI w B v l) : NumsAt .i64 w v l := by
  have h' : w.ownsRow B 3 1 v l.length (intsV l) := h
  rcases h'.2 with ⟨e, hn⟩ | ⟨g, cap, cur, e, hB, hg, hc, hm, _, _⟩
  · exact ⟨none, 0, by rw [e, hn], fun hp => by omega⟩
  · refine ⟨some ⟨g, 0, none⟩, cap, e, fun _ => ⟨g, rfl, block_lt hg, fun i hi => ?_⟩⟩
    subst e
    rw [h'.cellAt i (by omega)]
    simp [intsV, hi, List.getD]

end Go.Proofs.YtkmmifonandkoaaDoor

/-
  The document's letters and order of texts (stratigraphref04).
-/
namespace Go.Proofs.YtkmmifonandkoaaDoor
open Go.RowKit
set_option linter.unusedVariables false

/-! ### The document's letters -/
set_option maxRecDepth 100000 in
set_option maxHeartbeats 1000000 in
theorem refLetters_any (s : ByteArray) (w : World) (hs : s.size ≤ 1048576) :
    Calls Tryd.prog 64 #[.string s] w fun e w' => ∃ v, e = .returned v ∧ NumsAt .i64 w' v (Ky.codes s 0) ∧ Below w.heap.size w w' := by
  obtain ⟨i0, hi, hz0, hz1, hz2⟩ := info_parts info_int
  obtain ⟨T, hT⟩ : ∃ T, Ky.codes s 0 = T := ⟨_, rfl⟩
  have hTl : T.length ≤ 1048576 := by
    have := Ky.codes_len s 0
    rw [hT] at this; omega
  rw [hT]
  have HT : Hid ([] ++ Ky.codes s 0 = T) := hT
  have HZ := Lib.hid (Ky.rest_zero s)
  clear hT
  have ho0 : OwnsI w w.heap.size (.slice none 0 0) [] := ⟨rfl, .inl ⟨rfl, rfl⟩⟩
  go_enter Tryd.func64, Tryd.ntmps64
  go_wp2
  go_loopw [0, 3, 4, 5] (fun v b _ _ wr => ∃ (p : Nat) (t : ByteArray) (l : List Nat), p ≤ s.size ∧ v = .string t ∧ Hid (t = s.extract p s.size) ∧ OwnsI wr w.heap.size b l ∧ Hid (l ++ Ky.codes s p = T) ∧ Below w.heap.size w wr) (fun v _ _ _ _ => match v with | .string t => t.size | _ => 0)
  case atStart => exact ⟨0, s, [], Nat.zero_le _, rfl, HZ.out.symm, ho0, HT, Below.refl _ _⟩
  case round =>
    obtain ⟨p, t, l, hp, rfl, ht, ho, hl, hb⟩ := hrel
    have hts0 : Hid (t.size = s.size - p) := by show _ = _; rw [ht.out, Ky.rest_size]
    have hsz := hb.size
    have hll : l.length ≤ 1048576 := by
      have := congrArg List.length hl.out
      rw [List.length_append] at this; omega
    have ho' : wr.ownsRow w.heap.size 3 1 u3 l.length (intsV l) := ho
    by_cases hlt : p < s.size
    · obtain ⟨C, c, m, d1, c1, c2, hC, hpl, m1, m4, hpm, hc, hts, hte, HL⟩ := ref_facts s t p hlt (by omega) ht.out
      have htp : (0 : Int) < t.size := by omega
      have hmt : (m : Int) ≤ t.size := by omega
      have htz : t.size ≤ 1048576 := by omega
      have hst : Hid ((l ++ [c]) ++ Ky.codes s (p + m) = T) := by
        show _ = _
        rw [← hl.out, Ky.codes_step s p hlt, d1, List.append_assoc]
        rfl
      have hlc : l.length + 1 ≤ 1048576 := by
        have := congrArg List.length hst.out
        simp at this; omega
      have HTE := Lib.hid hte
      have e1 : Hid (intsV l ++ [.int .i64 (c : Int)] = intsV (l ++ [c])) := by show _ = _; simp [intsV]
      have e2 : Hid ((l ++ [c]).length = l.length + 1) := by show _ = _; simp
      have HM : Hid ((t.extract m t.size).size < t.size) := by
        show _ < _
        rw [hte, Ky.rest_size, hts0.out]; omega
      clear hte d1 hpl hl hts
      by_cases hneg : C < 0
      · obtain ⟨rfl, rfl⟩ : C = -1 ∧ c = 65533 := by
          split at hC
          · rename_i h; exact ⟨hC, h.1⟩
          · omega
        clear hC
        go_wp2_with (first
          | (go_at_call 61; refine (HL.out _).mono ?_; rintro e W2 ⟨rfl, rfl⟩)
          | (at_builtin; refine wpList_append_own _ rfl (.tmp 16) (.tmp 18) 95 rfl w.heap.size 3 i0 (.int .i64 0) 1 8 Tryd.underlying95 hi hz0 hz1 hz2 rfl (by decide) _ _ _ rfl (ho'.alloc _) ⟨wr.heap.size, 0, none⟩ 1 1 [.int .i64 65533] rfl rfl (cell_one_new _ _ _) (ints_oneCell .i64 [65533]) (by unfold maxLen; omega) (by omega) (by simp; omega) ?_; intro v' w1 hown1 hgrow1 _))
        have hb1 := (hb.alloc hsz _).grown hgrow1 (by simp; omega) (fun k hk => (ho'.lt k hk).1)
        have ho1 : OwnsI w1 w.heap.size v' (l ++ [65533]) := by
          show w1.ownsRow w.heap.size 3 1 v' (l ++ [65533]).length (intsV (l ++ [65533]))
          rw [e2.out, ← e1.out]; exact hown1
        clear hown1 hgrow1
        go_wp2
        go_roundw
        case rel => exact ⟨p + m, _, _, hpm, rfl, HTE, ho1, hst, hb1⟩
        case measure => exact HM.out
      · obtain rfl : C = (c : Int) := by
          split at hC
          · omega
          · exact hC
        clear hC c1
        go_wp2_with (first
          | (go_at_call 61; refine (HL.out _).mono ?_; rintro e W2 ⟨rfl, rfl⟩)
          | (at_builtin; refine wpList_append_own _ rfl (.tmp 16) (.tmp 18) 95 rfl w.heap.size 3 i0 (.int .i64 0) 1 8 Tryd.underlying95 hi hz0 hz1 hz2 rfl (by decide) _ _ _ rfl (ho'.alloc _) ⟨wr.heap.size, 0, none⟩ 1 1 [.int .i64 (c : Int)] rfl rfl (cell_one_new _ _ _) (ints_oneCell .i64 [(c : Int)]) (by unfold maxLen; omega) (by omega) (by simp; omega) ?_; intro v' w1 hown1 hgrow1 _))
        have hb1 := (hb.alloc hsz _).grown hgrow1 (by simp; omega) (fun k hk => (ho'.lt k hk).1)
        have ho1 : OwnsI w1 w.heap.size v' (l ++ [c]) := by
          show w1.ownsRow w.heap.size 3 1 v' (l ++ [c]).length (intsV (l ++ [c]))
          rw [e2.out, ← e1.out]; exact hown1
        clear hown1 hgrow1
        go_wp2
        go_roundw
        case rel => exact ⟨p + m, _, _, hpm, rfl, HTE, ho1, hst, hb1⟩
        case measure => exact HM.out
    · have htz : ¬ (0 : Int) < t.size := by have := hts0.out; omega
      have h := hl.out
      rw [Ky.codes_end s p hlt, List.append_nil] at h
      subst h
      clear hl
      go_wp2
      go_ret
      exact ⟨_, rfl, ho.nums, hb⟩

theorem drop_at (l : List Nat) (k : Nat) (h : k < l.length) : l.drop k = l.getD k 0 :: l.drop (k + 1) := by
  rw [List.drop_eq_getElem_cons (i := k) h]
  simp [List.getD, h]

set_option maxRecDepth 100000 in
set_option maxHeartbeats 1000000 in
theorem refCompare_any (a b : ByteArray) (w : World) (ha : a.size ≤ 1048576) (hb : b.size ≤ 1048576) :
    Calls Tryd.prog 39 #[.string a, .string b] w fun e w' => e = .returned (.int .i64 (Ky.compare a b)) ∧ Below w.heap.size w w' := by
  obtain ⟨R, hR⟩ : ∃ R, Ky.compare a b = R := ⟨_, rfl⟩
  rw [hR]
  have hl1 := Ky.codes_len a 0
  have hl2 := Ky.codes_len b 0
  have H1 := Lib.hid (fun W => refLetters_any a W ha)
  have H2 := Lib.hid (fun W => refLetters_any b W hb)
  have HR : Hid (Ky.cmpL ((Ky.codes a 0).drop 0) ((Ky.codes b 0).drop 0) = R) := by
    show _ = _
    rw [List.drop_zero, List.drop_zero]
    exact hR
  clear hR
  generalize Ky.codes a 0 = l1 at *
  generalize Ky.codes b 0 = l2 at *
  go_enter Tryd.func39, Tryd.ntmps39
  go_wp2_with (fail)
  refine (H1.out _).mono ?_
  rintro e w1 ⟨v1, rfl, n1, hb1⟩
  go_wp2_with (fail)
  refine (H2.out _).mono ?_
  rintro e w2 ⟨v2, rfl, n2, hb2⟩
  have n1' := n1.next hb2
  have hbb := hb1.trans (hb2.mono hb1.size)
  clear n1 hb1 hb2
  obtain ⟨ao1, cap1, rfl, hc1⟩ := n1'
  obtain ⟨ao2, cap2, rfl, hc2⟩ := n2
  have HC1 := Lib.hid hc1
  have HC2 := Lib.hid hc2
  clear hc1 hc2
  go_wp2_with (fail)
  go_loopw [7] (fun i wr => ∃ k : Nat, k ≤ l1.length ∧ k ≤ l2.length ∧ i = .int .i64 k ∧ Hid (Ky.cmpL (l1.drop k) (l2.drop k) = R) ∧ Below w2.heap.size w2 wr) (fun i _ => l1.length - (intOf i).toNat)
  case atStart => exact ⟨0, Nat.zero_le _, Nat.zero_le _, rfl, HR, Below.refl _ _⟩
  case round =>
    obtain ⟨k, hk1, hk2, rfl, hcm, hbel⟩ := hrel
    have hall : ∀ W, Below w2.heap.size w2 W → Below w.heap.size w W := fun W h => hbb.trans (h.mono hbb.size)
    have HALL := Lib.hid hall
    clear hall
    by_cases h1 : k < l1.length
    · by_cases h2 : k < l2.length
      · obtain ⟨b1, rfl, g1, q1⟩ := HC1.out (by omega)
        obtain ⟨b2, rfl, g2, q2⟩ := HC2.out (by omega)
        have c1 := (hbel.cell (p := ⟨b1, k, none⟩) g1).trans (q1 k h1)
        have c2 := (hbel.cell (p := ⟨b2, k, none⟩) g2).trans (q2 k h2)
        have hst := hcm.out
        rw [drop_at l1 k h1, drop_at l2 k h2] at hst
        clear q1 q2 hcm
        generalize l1.getD k 0 = x at *
        generalize l2.getD k 0 = y at *
        by_cases he : x = y
        · subst he
          have hcm2 : Hid (Ky.cmpL (l1.drop (k + 1)) (l2.drop (k + 1)) = R) := by
            show _ = _
            rw [← hst]; simp [Ky.cmpL]
          clear hst
          go_wp2_with fail
          go_quiet (fail)
          go_wp2_with fail
          go_quiet (fail)
          go_wp2_with fail
          go_roundw
          case rel => exact ⟨k + 1, by omega, by omega, by go_num, hcm2, hbel.trans (Joins.below_draws _ _ _)⟩
          case measure => simp [intOf]; omega
        · by_cases hlt : x < y
          · have hlt' : (x : Int) < (y : Int) := by omega
            have hRn : R = -1 := by rw [← hst]; simp [Ky.cmpL, he, hlt]
            subst hRn
            clear hst
            go_wp2_with fail
            go_quiet (fail)
            go_wp2_with fail
            go_ret
            exact ⟨rfl, HALL.out _ (hbel.trans (Joins.below_draws _ _ _))⟩
          · have hlt' : ¬ (x : Int) < (y : Int) := by omega
            have hgt' : (y : Int) < (x : Int) := by omega
            have hRn : R = 1 := by rw [← hst]; simp [Ky.cmpL, he, hlt]
            subst hRn
            clear hst
            go_wp2_with fail
            go_quiet (fail)
            go_wp2_with fail
            go_quiet (fail)
            go_wp2_with fail
            go_ret
            exact ⟨rfl, HALL.out _ ((hbel.trans (Joins.below_draws _ _ _)).trans (Joins.below_draws _ _ _))⟩
      · have e2 : l2.drop k = [] := List.drop_of_length_le (by omega)
        have hRn : R = 1 := by
          rw [← hcm.out, e2, drop_at l1 k h1]; rfl
        subst hRn
        have j1 : ¬ (l1.length : Int) < (l2.length : Int) := by omega
        have j2 : (l2.length : Int) < (l1.length : Int) := by omega
        clear e2 hcm HC1 HC2
        go_wp2_with fail
        go_ret
        exact ⟨rfl, HALL.out _ hbel⟩
    · have e1 : l1.drop k = [] := List.drop_of_length_le (by omega)
      by_cases h2 : k < l2.length
      · have hRn : R = -1 := by
          rw [← hcm.out, e1, drop_at l2 k h2]; rfl
        subst hRn
        have j1 : (l1.length : Int) < (l2.length : Int) := by omega
        clear e1 hcm HC1 HC2
        go_wp2_with fail
        go_ret
        exact ⟨rfl, HALL.out _ hbel⟩
      · have e2 : l2.drop k = [] := List.drop_of_length_le (by omega)
        have hRn : R = 0 := by
          rw [← hcm.out, e1, e2]; rfl
        subst hRn
        have j1 : ¬ (l1.length : Int) < (l2.length : Int) := by omega
        have j2 : ¬ (l2.length : Int) < (l1.length : Int) := by omega
        clear e1 e2 hcm HC1 HC2
        go_wp2_with fail
        go_ret
        exact ⟨rfl, HALL.out _ hbel⟩

end Go.Proofs.YtkmmifonandkoaaDoor

/-
  The contracts of the document's Small, Right and Equal of indexes.
-/
set_option linter.unusedVariables false
namespace Go.Proofs.YtkmmifonandkoaaDoor
open Go.RowKit

/-! ### Small -/
def smB (l : List Ent) (i : Nat) : Bool := decide ((lat l i).2.length ≤ 80) && decide ((lat l i).1.size ≤ 100)
def smallI (l : List Ent) : Bool := decide (l.length ≤ 80 ∧ ∀ i, i < l.length → smB l i = true)
theorem smallI_no {l : List Ent} {i : Nat} (hi : i < l.length) (h : smB l i = false) : smallI l = false := by
  unfold smallI; exact decide_eq_false fun h2 => by rw [h2.2 i hi] at h; cases h
theorem smallI_spec {l : List Ent} (h : smallI l = true) : l.length ≤ 80 ∧ ∀ i, i < l.length → (lat l i).2.length ≤ 80 ∧ (lat l i).1.size ≤ 100 := by
  unfold smallI at h
  have h2 := of_decide_eq_true h
  refine ⟨h2.1, fun i hi => ?_⟩
  have h3 := h2.2 i hi
  simpa only [smB, Bool.and_eq_true, decide_eq_true_eq] using h3

set_option maxRecDepth 100000 in
set_option maxHeartbeats 1000000 in
theorem refSmall_any {w : World} {v : Value} {l : List Ent} (h : Ents w v l) : Calls Tryd.prog 11 #[v] w fun e w' => e = .returned (.bool (smallI l)) ∧ w' = w := by
  obtain ⟨ao, n, cap, es, rfl, hl, hle, hmx, hn, hrow, hlead⟩ := h.opened
  have HL := Lib.hid hl
  have HR := Lib.hid hrow
  have HE := Lib.hid hlead
  clear hl hrow hlead hle hmx h
  by_cases h80 : 80 < n
  · have HX : Hid (smallI l = false) := by show _ = _; unfold smallI; exact decide_eq_false fun h => by have := HL.out; omega
    go_enter Tryd.func11, Tryd.ntmps11
    go_wp2_with fail
    go_ret
    exact ⟨by rw [HX.out]; rfl, rfl⟩
  go_enter Tryd.func11, Tryd.ntmps11
  go_wp2_with fail
  go_loop [3] (fun i => ∃ k : Nat, k ≤ n ∧ i = .int .i64 k ∧ Hid (∀ j, j < k → smB l j = true)) (fun i => n - (intOf i).toNat)
  case atStart => exact ⟨0, Nat.zero_le _, rfl, fun j hj => absurd hj (Nat.not_lt_zero _)⟩
  case round =>
    obtain ⟨k, hk, rfl, hok⟩ := hrel
    by_cases hlt : k < n
    · obtain ⟨b, off, rfl, hb, hcl⟩ := HR.out (by omega)
      obtain ⟨x0, x1⟩ := hcl k hlt
      obtain ⟨hkey, hvers⟩ := HE.out.2 k (by rw [HL.out]; exact hlt)
      obtain ⟨ao', cap', hv⟩ := vers_slice' hvers
      rw [hkey] at x0
      rw [hv] at x1
      obtain ⟨s, hs⟩ : ∃ s, s = (lat l k).1 := ⟨_, rfl⟩
      obtain ⟨m, hm⟩ : ∃ m, m = (lat l k).2.length := ⟨_, rfl⟩
      rw [← hs] at x0
      rw [← hm] at x1
      have HSM : Hid (smB l k = (decide (m ≤ 80) && decide (s.size ≤ 100))) := by show _ = _; rw [hm, hs]; rfl
      have q4 : k < n := hlt
      clear hkey hvers hv hs hm hcl
      by_cases hm80 : m ≤ 80
      · have d1 : decide (80 < (m : Int)) = false := decide_eq_false (by omega)
        by_cases hs100 : s.size ≤ 100
        · have d2 : decide (100 < (s.size : Int)) = false := decide_eq_false (by omega)
          have HN : Hid (∀ j, j < k + 1 → smB l j = true) := by
            intro j hj
            by_cases hjk : j < k
            · exact hok.out j hjk
            · obtain rfl : j = k := by omega
              rw [HSM.out, decide_eq_true hm80, decide_eq_true hs100]; rfl
          clear hm80 hs100
          go_wp2_with fail
          go_round
          case rel => exact ⟨k + 1, by omega, by go_num, HN⟩
          case measure => simp [intOf]; omega
        · have d2 : decide (100 < (s.size : Int)) = true := decide_eq_true (by omega)
          have HX : Hid (smallI l = false) := smallI_no (i := k) (by rw [HL.out]; exact hlt) (by rw [HSM.out, decide_eq_false hs100, Bool.and_false])
          clear hm80 hs100
          go_wp2_with fail
          go_ret
          exact ⟨by rw [HX.out]; rfl, rfl⟩
      · have d1 : decide (80 < (m : Int)) = true := decide_eq_true (by omega)
        have HX : Hid (smallI l = false) := smallI_no (i := k) (by rw [HL.out]; exact hlt) (by rw [HSM.out, decide_eq_false hm80, Bool.false_and])
        clear hm80
        go_wp2_with fail
        go_ret
        exact ⟨by rw [HX.out]; rfl, rfl⟩
    · have HX : Hid (smallI l = true) := by show _ = _; unfold smallI; exact decide_eq_true ⟨by have := HL.out; omega, fun i hi => hok.out i (by have := HL.out; omega)⟩
      go_wp2_with fail
      go_ret
      exact ⟨by rw [HX.out]; rfl, rfl⟩

/-! ### Right -/
/-- Two keys of a row, nothing old touched. -/
def K2 (w : World) (b o1 : Nat) (s : ByteArray) (o2 : Nat) (t : ByteArray) (W : World) : Prop := b < w.heap.size ∧ Below w.heap.size w W ∧ W.cell? ⟨b, o1, none⟩ = some (.string s) ∧ W.cell? ⟨b, o2, none⟩ = some (.string t)
theorem K2.next {w W W' : World} {b o1 o2 : Nat} {s t : ByteArray} (H : K2 w b o1 s o2 t W) (hb : Below W.heap.size W W') : K2 w b o1 s o2 t W' := by
  obtain ⟨h0, h1, h2, h3⟩ := H
  have := h1.size
  exact ⟨h0, h1.trans (hb.mono h1.size), (hb.cell (p := ⟨b, o1, none⟩) (by show b < _; omega)).trans h2, (hb.cell (p := ⟨b, o2, none⟩) (by show b < _; omega)).trans h3⟩
theorem K2.drew {w W : World} {b o1 o2 : Nat} {s t : ByteArray} (H : K2 w b o1 s o2 t W) : K2 w b o1 s o2 t W.drew := H.next ((Below.refl _ _).drew)

set_option maxRecDepth 100000 in
set_option maxHeartbeats 4000000 in
theorem refIRight_any {w : World} {v : Value} {l : List Ent} (h : Ents w v l) (hks : ∀ i, i < l.length → (lat l i).1.size ≤ 1048576) : Calls Tryd.prog 17 #[v] w fun e w' => e = .returned (.bool (rightI l)) ∧ Below w.heap.size w w' := by
  obtain ⟨ao, n, cap, es, rfl, hl, hle, hmx, hn, hrow, hlead⟩ := h.opened
  have HL := Lib.hid hl
  have HR := Lib.hid hrow
  have HE := Lib.hid hlead
  have HKS := Lib.hid hks
  clear hl hrow hlead hle hmx h hks
  by_cases h64 : 64 < n
  · have HX : Hid (rightI l = false) := rightI_long (by rw [HL.out]; omega)
    go_enter Tryd.func17, Tryd.ntmps17
    go_wp2_with fail
    go_ret
    exact ⟨by rw [HX.out]; rfl, Below.refl _ _⟩
  go_enter Tryd.func17, Tryd.ntmps17
  go_wp2_with fail
  go_loopw [3] (fun i wr => ∃ k : Nat, k ≤ n ∧ i = .int .i64 k ∧ Hid (∀ j, j < k → entB l j = true) ∧ Hid (Below w.heap.size w wr)) (fun i _ => n - (intOf i).toNat)
  case atStart => exact ⟨0, Nat.zero_le _, rfl, fun j hj => absurd hj (Nat.not_lt_zero _), Below.refl _ _⟩
  case round =>
    obtain ⟨k, hk, rfl, hok, hbel⟩ := hrel
    by_cases hlt : k < n
    · obtain ⟨b, off, rfl, hb, hcl⟩ := HR.out (by omega)
      obtain ⟨hkey, hvers⟩ := HE.out.2 k (by rw [HL.out]; exact hlt)
      obtain ⟨s, hs⟩ : ∃ s, s = (lat l k).1 := ⟨_, rfl⟩
      obtain ⟨c, hc⟩ : ∃ c, c = (lat l k).2 := ⟨_, rfl⟩
      obtain ⟨u, hu⟩ : ∃ u, u = (eat es k).2 := ⟨_, rfl⟩
      rw [← hc, ← hu] at hvers
      have HCL : Hid (∀ W, Below w.heap.size w W → W.cell? ⟨b, off + k * 2, none⟩ = some (.string s) ∧ W.cell? ⟨b, off + k * 2 + 1, none⟩ = some u) := fun W hW => by
        have := (hcl k hlt).next hW hb
        rw [hs, hu, ← hkey]; exact this
      have HS1 := HKS.out k (by rw [HL.out]; exact hlt)
      rw [← hs] at HS1
      obtain ⟨r1, hr1⟩ : ∃ r, r = Ky.right s := ⟨_, rfl⟩
      obtain ⟨r2, hr2⟩ : ∃ r, r = rightC c := ⟨_, rfl⟩
      have H1 : Hid (∀ W, Calls Tryd.prog 36 #[.string s] W fun e w' => e = .returned (.bool r1) ∧ W = w') := fun W => by rw [hr1]; exact kRefRight_any s W
      have H2 : Hid (∀ W, Below w.heap.size w W → Calls Tryd.prog 43 #[u] W fun e w' => e = .returned (.bool r2) ∧ Below W.heap.size W w') := fun W hW => by rw [hr2]; exact refCRight_any (hvers.next hW)
      obtain ⟨ao', cap', hv⟩ := vers_slice' hvers
      obtain ⟨m, hm⟩ : ∃ m, m = c.length := ⟨_, rfl⟩
      rw [← hm] at hv
      obtain ⟨f, hf⟩ : ∃ f, f = (decide (k = 0) || ltB (lat l (k - 1)).1 (lat l k).1) := ⟨_, rfl⟩
      have HX : Hid (entB l k = ((r1 && (decide (0 < m) && r2)) && f)) := by show _ = _; rw [hr1, hr2, hm, hs, hc, hf]; rfl
      have HF := Lib.hid hf
      have HSS : Hid (s = (lat l k).1) := hs
      obtain ⟨x0, x1⟩ := HCL.out wr hbel.out
      subst hv
      have q4 : k < n := hlt
      clear hkey hvers hs hm hc hr1 hr2 hf hu
      cases r1
      · have HE : Hid (rightI l = false) := rightI_at (i := k) (by rw [HL.out]; exact hlt) (by rw [HX.out]; rfl)
        go_wp2_with fail
        refine (H1.out _).mono ?_
        rintro e w1 ⟨rfl, rfl⟩
        go_wp2_with fail
        go_ret
        exact ⟨by rw [HE.out]; rfl, hbel.out⟩
      by_cases hm0 : m = 0
      · have HE : Hid (rightI l = false) := rightI_at (i := k) (by rw [HL.out]; exact hlt) (by rw [HX.out, hm0]; rfl)
        subst hm0
        go_wp2_with fail
        refine (H1.out _).mono ?_
        rintro e w1 ⟨rfl, rfl⟩
        go_wp2_with fail
        go_ret
        exact ⟨by rw [HE.out]; rfl, hbel.out⟩
      have d0 : ((m : Int) == 0) = false := beq_eq_false_iff_ne.2 (by omega)
      have HM : Hid (decide (0 < m) = true) := decide_eq_true (by omega)
      cases r2
      · have HE : Hid (rightI l = false) := rightI_at (i := k) (by rw [HL.out]; exact hlt) (by rw [HX.out, HM.out]; rfl)
        go_wp2_with fail
        refine (H1.out _).mono ?_
        rintro e w1 ⟨rfl, rfl⟩
        go_wp2_with fail
        refine (H2.out _ hbel.out).mono ?_
        rintro e w1 ⟨rfl, hb1⟩
        go_wp2_with fail
        go_ret
        exact ⟨by rw [HE.out]; rfl, hbel.out.trans (hb1.mono hbel.out.size)⟩
      go_wp2_with fail
      refine (H1.out _).mono ?_
      rintro e w1 ⟨rfl, rfl⟩
      go_wp2_with fail
      refine (H2.out _ hbel.out).mono ?_
      rintro e w1 ⟨rfl, hb1⟩
      have hbel1 : Hid (Below w.heap.size w w1) := hbel.out.trans (hb1.mono hbel.out.size)
      clear hb1 hbel x0 x1 H1 H2 hm0 d0
      go_upto_region 8 with (fail)
      cases k with
      | zero =>
        have HN : Hid (∀ j, j < 0 + 1 → entB l j = true) := by
          intro j hj
          obtain rfl : j = 0 := by omega
          rw [HX.out, HM.out, HF.out]; rfl
        refine wp_region_calm (fun W => Below w.heap.size w W) (by kernel_rfl) (by kernel_rfl) hbel1.out.drew ?_
        repeat ((with_reducible refine wpQuiet_step (fun K hK => ?_)); go_simp; first | (refine hK _ ?_; clear hK K) | (apply Exists.intro; refine ⟨fun wc hwc => ?_, hK _ ?_⟩; (focus (first | (fail) | ((skip); go_simp; done) | ((skip); go_simp; exact rfl))); clear hK K))
        refine wpQuiet_nil ?_
        intro wc hwc
        go_wp2_with fail
        go_roundw
        case rel => exact ⟨0 + 1, by omega, by go_num, HN, hwc⟩
        case measure => simp [intOf]; omega
      | succ p =>
        obtain ⟨hkey', _⟩ := HE.out.2 p (by rw [HL.out]; omega)
        obtain ⟨t, ht⟩ : ∃ t, t = (lat l p).1 := ⟨_, rfl⟩
        obtain ⟨q, hq⟩ : ∃ q, q = Ky.compare t s := ⟨_, rfl⟩
        have HS2 := HKS.out p (by rw [HL.out]; omega)
        rw [← ht] at HS2
        have HC : Hid (∀ W, Calls Tryd.prog 39 #[.string t, .string s] W fun e w' => e = .returned (.int .i64 q) ∧ Below W.heap.size W w') := fun W => by rw [hq]; exact refCompare_any t s W HS2 HS1
        have HF2 : Hid (f = decide (q < 0)) := by
          show _ = _
          rw [HF.out, hq, ht, HSS.out]
          simp [ltB]
        have H3 : Hid (K2 w b (off + p * 2) t (off + (p + 1) * 2) s w1) := by
          refine ⟨hb, hbel1.out, ?_, (HCL.out w1 hbel1.out).1⟩
          have := ((hcl p (by omega)).next hbel1.out hb).1
          rw [ht, ← hkey']; exact this
        have q1 := IntWalk.i64_in (p : Int) (by omega)
        have q2 : ((p : Int) + 1).toNat = p + 1 := by omega
        have q3 : (0 : Int) ≤ (p : Int) + 1 := by omega
        have q5 : p < n := by omega
        have q6 : (p : Int) + 1 < (n : Int) := by omega
        have hqr : q = -1 ∨ ¬ q = -1 := by omega
        have hq3 := cmp_in t s
        rw [← hq] at hq3
        have HQ3 := Lib.hid hq3
        clear hq ht hq3 hkey'
        rcases hqr with rfl | hqn
        · have HN : Hid (∀ j, j < p + 1 + 1 → entB l j = true) := by
            intro j hj
            by_cases hjk : j < p + 1
            · exact hok.out j hjk
            · obtain rfl : j = p + 1 := by omega
              rw [HX.out, HM.out, HF2.out]; rfl
          refine wp_region_calm (K2 w b (off + p * 2) t (off + (p + 1) * 2) s) (by kernel_rfl) (by kernel_rfl) H3.out.drew ?_
          repeat ((with_reducible refine wpQuiet_step (fun K hK => ?_)); go_simp; first | (refine hK _ ?_; clear hK K) | (apply Exists.intro; refine ⟨fun wc hwc => ?_, hK _ ?_⟩; (focus (first | (first | (go_at_call 39; refine (HC.out _).mono ?_; rintro e w1 ⟨rfl, hb1⟩; exact ⟨rfl, hwc.next hb1⟩)) | (((obtain ⟨_, _, x0, y0⟩ := hwc)); go_simp; done) | (((obtain ⟨_, _, x0, y0⟩ := hwc)); go_simp; exact rfl))); clear hK K))
          refine wpQuiet_nil ?_
          intro wc hwc
          go_wp2_with fail
          go_roundw
          case rel => exact ⟨p + 1 + 1, by omega, by go_num, HN, hwc.2.1⟩
          case measure => simp [intOf]; omega
        · have HE : Hid (rightI l = false) := rightI_at (i := p + 1) (by rw [HL.out]; exact hlt) (by rw [HX.out, HM.out, HF2.out, decide_eq_false (by have := HQ3.out; omega)]; rfl)
          have d1 : (q == -1) = false := beq_eq_false_iff_ne.2 hqn
          refine wp_region_calm (K2 w b (off + p * 2) t (off + (p + 1) * 2) s) (by kernel_rfl) (by kernel_rfl) H3.out.drew ?_
          repeat ((with_reducible refine wpQuiet_step (fun K hK => ?_)); go_simp; first | (refine hK _ ?_; clear hK K) | (apply Exists.intro; refine ⟨fun wc hwc => ?_, hK _ ?_⟩; (focus (first | (first | (go_at_call 39; refine (HC.out _).mono ?_; rintro e w1 ⟨rfl, hb1⟩; exact ⟨rfl, hwc.next hb1⟩)) | (((obtain ⟨_, _, x0, y0⟩ := hwc)); go_simp; done) | (((obtain ⟨_, _, x0, y0⟩ := hwc)); go_simp; exact rfl))); clear hK K))
          refine wpQuiet_nil ?_
          intro wc hwc
          go_wp2_with fail
          go_ret
          exact ⟨by rw [HE.out]; rfl, hwc.2.1⟩
    · have HX : Hid (rightI l = true) := rightI_yes (by rw [HL.out]; omega) (fun i hi => hok.out i (by rw [HL.out] at hi; omega))
      go_wp2_with fail
      go_ret
      exact ⟨by rw [HX.out]; rfl, hbel.out⟩

end Go.Proofs.YtkmmifonandkoaaDoor

/-
  Plain facts on pages: which keys of an index are alive, and in a range.
-/
set_option linter.unusedVariables false
namespace Go.Proofs.YtkmmifonandkoaaDoor
open Go.RowKit

noncomputable def atV (c : List Ver) (x y z : Int) : Ver := (at_ex c x y z).choose
noncomputable def atO (c : List Ver) (x y z : Int) : Bool := (at_ex c x y z).choose_spec.choose
theorem at_is (c : List Ver) (x y z : Int) : IsAt c x y z (atV c x y z) (atO c x y z) := (at_ex c x y z).choose_spec.choose_spec
noncomputable def hasE (x y z : Int) (e : Ent) : Bool := hasV (atV e.2 x y z) (atO e.2 x y z)
noncomputable def valE (x y z : Int) (e : Ent) : ByteArray := valV (atV e.2 x y z) (atO e.2 x y z)
noncomputable def aliveB (lo hi : ByteArray) (x y z : Int) (e : Ent) : Bool := hasE x y z e && inR e.1 lo hi
noncomputable def aliveL (l : List Ent) (lo hi : ByteArray) (x y z : Int) : List Itm := (l.filter (aliveB lo hi x y z)).map fun e => (e.1, valE x y z e)
theorem alive_nil (lo hi : ByteArray) (x y z : Int) : aliveL [] lo hi x y z = [] := rfl
theorem alive_app (l m : List Ent) (lo hi : ByteArray) (x y z : Int) : aliveL (l ++ m) lo hi x y z = aliveL l lo hi x y z ++ aliveL m lo hi x y z := by simp [aliveL]
theorem take_lat {l : List Ent} {k : Nat} (h : k < l.length) : l.take (k + 1) = l.take k ++ [lat l k] := by
  rw [List.take_succ_eq_append_getElem h]
  simp [lat, List.getD, h]
theorem alive_yes {l : List Ent} {k : Nat} (h : k < l.length) {lo hi : ByteArray} {x y z : Int} (hb : aliveB lo hi x y z (lat l k) = true) : aliveL (l.take (k + 1)) lo hi x y z = aliveL (l.take k) lo hi x y z ++ [((lat l k).1, valE x y z (lat l k))] := by
  rw [take_lat h, alive_app]
  simp [aliveL, hb]
theorem alive_no {l : List Ent} {k : Nat} (h : k < l.length) {lo hi : ByteArray} {x y z : Int} (hb : aliveB lo hi x y z (lat l k) = false) : aliveL (l.take (k + 1)) lo hi x y z = aliveL (l.take k) lo hi x y z := by
  rw [take_lat h, alive_app]
  simp [aliveL, hb]
theorem alive_len (l : List Ent) (lo hi : ByteArray) (x y z : Int) : (aliveL l lo hi x y z).length ≤ l.length := by
  unfold aliveL
  rw [List.length_map]
  exact List.length_filter_le _ _
/-- A page of what is alive. -/
def pgL (al : List Itm) (lim : Int) : List Itm := al.take lim.toNat
def pgK (al : List Itm) (lim : Int) : ByteArray := if al.length ≤ lim.toNat then { data := #[] } else (mat al lim.toNat).1
def pgM (al : List Itm) (lim : Int) : Bool := decide (lim.toNat < al.length)
theorem pg_all {al : List Itm} {lim : Int} (h : al.length ≤ lim.toNat) : pgL al lim = al ∧ pgK al lim = { data := #[] } ∧ pgM al lim = false :=
  ⟨List.take_of_length_le h, if_pos h, decide_eq_false (by omega)⟩
theorem pg_some {al : List Itm} {lim : Int} (h : lim.toNat < al.length) : pgK al lim = (mat al lim.toNat).1 ∧ pgM al lim = true :=
  ⟨if_neg (by omega), decide_eq_true h⟩
theorem mat_take (l : List Itm) {k i : Nat} (h : i < k) : mat (l.take k) i = mat l i := by
  unfold mat
  simp [List.getD, h]
/-- The front of a slice of items. -/
theorem Itms.front {w : World} {b off n k c : Nat} {l : List Itm} (hl : l.length = n) (hb : b < w.heap.size) (hcl : ∀ i, i < n → ItmAt w b (off + i * 2) (mat l i)) (hk : k ≤ n) (hc : k ≤ c) (hc2 : c ≤ maxLen) : Itms w (.slice (some ⟨b, off, none⟩) k c) (l.take k) :=
  ⟨some ⟨b, off, none⟩, c, by rw [List.length_take, Nat.min_eq_left (by omega)], by rw [List.length_take]; omega, hc2, fun hp => ⟨b, off, rfl, hb, fun i hi => by
    rw [List.length_take] at hi
    rw [mat_take l (by omega)]
    exact hcl i (by omega)⟩⟩
theorem itm_new (w : World) (e : Itm) : ∀ j x, (itmC e)[j]? = some x → (w.alloc (.cells #[.string e.1, .string e.2] 62)).cell? ((⟨w.heap.size, 0, none⟩ : Addr).add j) = some x := by
  intro j x hj
  have hj2 : j < 2 := by
    rcases Nat.lt_or_ge j 2 with h | h
    · exact h
    · rw [List.getElem?_eq_none (by simpa [itmC] using h)] at hj; cases hj
  have hjs : j = 0 ∨ j = 1 := by omega
  rcases hjs with rfl | rfl <;> simp [itmC, Addr.add] at hj ⊢ <;> exact hj
theorem ent_new (w : World) (e : EntV) : ∀ j x, (entC e)[j]? = some x → (w.alloc (.cells #[.string e.1, e.2] 60)).cell? ((⟨w.heap.size, 0, none⟩ : Addr).add j) = some x := by
  intro j x hj
  have hj2 : j < 2 := by
    rcases Nat.lt_or_ge j 2 with h | h
    · exact h
    · rw [List.getElem?_eq_none (by simpa [entC] using h)] at hj; cases hj
  have hjs : j = 0 ∨ j = 1 := by omega
  rcases hjs with rfl | rfl <;> simp [entC, Addr.add] at hj ⊢ <;> exact hj

end Go.Proofs.YtkmmifonandkoaaDoor

/-
  The contracts of the document's Side and Join.
-/
set_option linter.unusedVariables false
namespace Go.Proofs.YtkmmifonandkoaaDoor
open Go.RowKit

def sideI (l : List Ent) (at_ : ByteArray) (ahead : Bool) : List Ent := l.filter fun e => ltB e.1 at_ == ahead
theorem sideI_yes {l : List Ent} {k : Nat} (h : k < l.length) {a : ByteArray} {d : Bool} (hb : (ltB (lat l k).1 a == d) = true) : sideI (l.take (k + 1)) a d = sideI (l.take k) a d ++ [lat l k] := by
  rw [take_lat h]
  simp [sideI, hb]
theorem sideI_no {l : List Ent} {k : Nat} (h : k < l.length) {a : ByteArray} {d : Bool} (hb : (ltB (lat l k).1 a == d) = false) : sideI (l.take (k + 1)) a d = sideI (l.take k) a d := by
  rw [take_lat h]
  simp [sideI, hb]
theorem sideI_len (l : List Ent) (a : ByteArray) (d : Bool) : (sideI l a d).length ≤ l.length := List.length_filter_le _ _
theorem lat_drop (l : List Ent) (k i : Nat) : lat (l.drop k) i = lat l (k + i) := by simp [lat, List.getD]
theorem lat_take (l : List Ent) {k i : Nat} (h : i < k) : lat (l.take k) i = lat l i := by
  unfold lat
  simp [List.getD, h]
theorem lat_mem {l : List Ent} {e : Ent} (h : e ∈ l) : ∃ i, i < l.length ∧ lat l i = e := by
  obtain ⟨i, hi, he⟩ := List.getElem_of_mem h
  exact ⟨i, hi, by simp [lat, List.getD, hi, he]⟩
theorem side_front {l : List Ent} {a : ByteArray} {n : Nat} (h : IsPos l a n) : sideI l a true = l.take n ∧ sideI l a false = l.drop n := by
  have h1 : ∀ d, sideI l a d = sideI (l.take n) a d ++ sideI (l.drop n) a d := fun d => by
    unfold sideI
    rw [← List.filter_append, List.take_append_drop]
  have hf : ∀ e ∈ l.take n, ltB e.1 a = true := fun e he => by
    obtain ⟨i, hi, rfl⟩ := lat_mem he
    rw [List.length_take] at hi
    rw [lat_take l (by omega)]
    unfold ltB
    exact decide_eq_true (h.2.1 i (by omega))
  have hb : ∀ e ∈ l.drop n, ltB e.1 a = false := fun e he => by
    obtain ⟨i, hi, rfl⟩ := lat_mem he
    rw [List.length_drop] at hi
    rw [lat_drop]
    unfold ltB
    exact decide_eq_false (by have := h.2.2 (n + i) (by omega) (by omega); omega)
  rw [h1 true, h1 false]
  have e1 : sideI (l.take n) a true = l.take n := by unfold sideI; rw [List.filter_eq_self]; intro e he; rw [hf e he]; rfl
  have e2 : sideI (l.drop n) a true = [] := by unfold sideI; rw [List.filter_eq_nil_iff]; intro e he; rw [hb e he]; simp
  have e3 : sideI (l.take n) a false = [] := by unfold sideI; rw [List.filter_eq_nil_iff]; intro e he; rw [hf e he]; simp
  have e4 : sideI (l.drop n) a false = l.drop n := by unfold sideI; rw [List.filter_eq_self]; intro e he; rw [hb e he]; rfl
  rw [e1, e2, e3, e4]
  simp

set_option maxRecDepth 100000 in
set_option maxHeartbeats 2000000 in
theorem refSide_any {w : World} {v : Value} {l : List Ent} (h : Ents w v l) (a : ByteArray) (d : Bool) (h80 : l.length ≤ 80) (hks : ∀ i, i < l.length → (lat l i).1.size ≤ 1048576) (ha : a.size ≤ 1048576) :
    Calls Tryd.prog 27 #[v, .string a, .bool d] w fun e w' => ∃ v', e = .returned v' ∧ Ents w' v' (sideI l a d) ∧ Below w.heap.size w w' := by
  obtain ⟨ao, n, cap, es, rfl, hl, hle, hmx, hn, hrow, hlead⟩ := h.opened
  obtain ⟨i0, hii, hz0, hz1, hz2⟩ := info_parts info_ent
  have HL := Lib.hid hl
  have HR := Lib.hid hrow
  have HE := Lib.hid hlead
  have HKS := Lib.hid hks
  have H80 := Lib.hid h80
  have HA := Lib.hid ha
  clear hl hrow hlead hle hmx h hks h80 ha
  go_enter Tryd.func27, Tryd.ntmps27
  go_wp2_with fail
  go_loopw [7, 8] (fun lv i wr => ∃ k : Nat, k ≤ n ∧ i = .int .i64 k ∧ Hid (Below w.heap.size w wr) ∧ Hid (∃ fs, OwnsE wr w.heap.size lv fs ∧ LeadsX w.heap.size wr fs (sideI (l.take k) a d))) (fun _ i _ => n - (intOf i).toNat)
  case atStart => exact ⟨0, Nat.zero_le _, rfl, Below.refl _ _, [], OwnsE.nil _ _, LeadsX.nil _ _⟩
  case round =>
    obtain ⟨k, hk, rfl, hbel, hown⟩ := hrel
    by_cases hlt : k < n
    · obtain ⟨b, off, rfl, hb, hcl⟩ := HR.out (by omega)
      have hkl : k < l.length := by rw [HL.out]; exact hlt
      obtain ⟨hkey, hvers⟩ := HE.out.2 k hkl
      obtain ⟨s, hs⟩ : ∃ s, s = (lat l k).1 := ⟨_, rfl⟩
      obtain ⟨u, hu⟩ : ∃ u, u = (eat es k).2 := ⟨_, rfl⟩
      rw [← hu] at hvers
      have hs1 := HKS.out k hkl
      rw [← hs] at hs1
      obtain ⟨q, hq⟩ : ∃ q, q = Ky.compare s a := ⟨_, rfl⟩
      have HC : Hid (∀ W, Calls Tryd.prog 39 #[.string s, .string a] W fun e w' => e = .returned (.int .i64 q) ∧ Below W.heap.size W w') := fun W => by rw [hq]; exact refCompare_any s a W hs1 HA.out
      have HCL : Hid (∀ W, Below w.heap.size w W → W.cell? ⟨b, off + k * 2, none⟩ = some (.string s) ∧ W.cell? ⟨b, off + k * 2 + 1, none⟩ = some u) := fun W hW => by
        have := (hcl k hlt).next hW hb
        rw [hs, hu, ← hkey]; exact this
      have HU : Hid (VersX w.heap.size w u (lat l k).2 ∧ u.oneCell' = true) := ⟨hvers.old, vers_one hvers⟩
      obtain ⟨p, hp⟩ : ∃ p, p = ltB s a := ⟨_, rfl⟩
      have hpq : decide (q < 0) = p := by rw [hp, hq]; rfl
      have HT : Hid ((ltB (lat l k).1 a == d) = (p == d)) := by show _ = _; rw [hp, hs]
      have HKK : Hid (lat l k = (s, (lat l k).2)) := by show _ = _; rw [hs]
      have HKL := Lib.hid hkl
      obtain ⟨fs, hfs, hld⟩ := hown.out
      have HO : Hid (OwnsE wr w.heap.size u7 fs ∧ LeadsX w.heap.size wr fs (sideI (l.take k) a d)) := ⟨hfs, hld⟩
      have HLEN : Hid (fs.length ≤ 80) := by
        have h1 := sideI_len (l.take k) a d
        rw [List.length_take, ← hld.1] at h1
        show _ ≤ _
        have := H80.out
        omega
      have q0 : k < n := hlt
      obtain ⟨x0, x1⟩ := HCL.out wr hbel.out
      clear hcl hkey hvers hs hu hkl hp hq hown hfs hld hs1
      go_wp2_with fail
      refine (HC.out _).mono ?_
      rintro e w1 ⟨rfl, hb1⟩
      have hbel1 : Hid (Below w.heap.size w w1) := hbel.out.trans (hb1.mono hbel.out.size)
      have HO1 : Hid (OwnsE w1 w.heap.size u7 fs ∧ LeadsX w.heap.size w1 fs (sideI (l.take k) a d)) := ⟨HO.out.1.next hb1, HO.out.2.next hb1⟩
      clear hb1 hbel HO x0 x1
      cases hpd : (p == d)
      · have HN : Hid (∃ fs, OwnsE w1 w.heap.size u7 fs ∧ LeadsX w.heap.size w1 fs (sideI (l.take (k + 1)) a d)) := by
          refine ⟨fs, HO1.out.1, ?_⟩
          rw [sideI_no HKL.out (by rw [HT.out]; exact hpd)]
          exact HO1.out.2
        go_wp2_with fail
        go_roundw
        case rel => exact ⟨k + 1, by omega, by go_num, hbel1, HN⟩
        case measure => simp [intOf]; omega
      · obtain ⟨x0, x1⟩ := HCL.out w1 hbel1.out
        have hown : w1.ownsRow w.heap.size 60 2 u7 fs.length (entsC fs) := HO1.out.1
        have hbel := hbel1.out
        have hsz := hbel.size
        have hln := HLEN.out
        go_wp2_with (at_builtin; refine wpList_append_own _ rfl _ _ 22 rfl w.heap.size 60 i0 _ 2 40 Tryd.underlying22 hii hz0 hz1 hz2 rfl (by decide) _ _ _ rfl (hown.alloc _) ⟨w1.heap.size, 0, none⟩ 1 1 (entC (s, u)) rfl rfl (ent_new w1 (s, u)) (entC_one HU.out.2) (by unfold maxLen; omega) (by omega) (by simp; omega) ?_; intro v' w3 hown1 hgrow1 _)
        have hal : Below w1.heap.size w1 (w1.alloc (.cells #[.string s, u] 60)) := (Below.refl _ _).alloc (Nat.le_refl _) _
        have hb1 := (hbel.alloc (by omega) _).grown hgrow1 (by simp; omega) (fun k hk => (hown.lt k hk).1)
        rw [entsC_snoc] at hown1
        have HN : Hid (∃ fs, OwnsE w3 w.heap.size v' fs ∧ LeadsX w.heap.size w3 fs (sideI (l.take (k + 1)) a d)) := by
          refine ⟨fs ++ [(s, u)], ?_, ?_⟩
          · unfold OwnsE
            rw [List.length_append, List.length_singleton]
            exact hown1
          · rw [sideI_yes HKL.out (by rw [HT.out]; exact hpd), HKK.out]
            exact ((HO1.out.2.next hal).snoc ((HU.out.1.next hbel).next hal)).grown (OwnsE.next HO1.out.1 hal) hgrow1
        exact ⟨⟨k + 1, by omega, by go_num, hb1, HN⟩, by simp [intOf]; omega⟩
    · obtain rfl : k = n := by omega
      have HN : Hid (Ents wr u7 (sideI l a d)) := by
        obtain ⟨fs, h1, h2⟩ := hown.out
        rw [List.take_of_length_le (by rw [HL.out]; exact Nat.le_refl _)] at h2
        exact own_ents h1 h2
      go_wp2_with fail
      go_ret
      exact ⟨u7, rfl, HN.out, hbel.out⟩

/-! ### Entries that lie somewhere, appended -/
theorem ents_news {w : World} {b off n : Nat} {l : List EntV} (hl : l.length = n) (h : ∀ i, i < n → EntAt w b (off + i * 2) (eat l i)) : ∀ j u, (entsC l)[j]? = some u → w.cell? ((⟨b, off, none⟩ : Addr).add j) = some u := by
  intro j u hj
  have hlt : j < l.length * 2 := by rw [← entsC_len]; exact (List.getElem?_eq_some_iff.1 hj).1
  have e : j = j / 2 * 2 + j % 2 := by omega
  rw [e, entsC_at l (j / 2) (j % 2) (by omega) (by omega)] at hj
  obtain ⟨h0, h1⟩ := h (j / 2) (by omega)
  have ha : (⟨b, off, none⟩ : Addr).add j = ⟨b, off + j / 2 * 2 + j % 2, none⟩ := by
    rw [Addr.add_lit, show off + j = off + j / 2 * 2 + j % 2 by omega]
  rw [ha]
  have hs : j % 2 = 0 ∨ j % 2 = 1 := by omega
  rcases hs with e | e <;> rw [e] at hj ⊢ <;> simp [entC] at hj <;> subst hj <;> assumption
theorem entsC_one {l : List EntV} (h : ∀ i, i < l.length → (eat l i).2.oneCell' = true) : ∀ u ∈ entsC l, u.oneCell' = true := by
  intro u hu
  obtain ⟨v, hv0, hv⟩ := List.mem_flatMap.1 hu
  obtain ⟨i, hi, he⟩ := List.getElem_of_mem hv0
  have := h i hi
  rw [show eat l i = v by simp [eat, List.getD, hi, he]] at this
  exact entC_one this u hv
theorem wpList_append_ents {w : World} {ops : Array Oper} {rest : List Oper} {o : Oper} {a : Act} {Q : Exit → Act → World → Prop} (hgd : o.guard = none) (s x : Operand)
    (ho : o.op = .call { callee := .builtin .append, args := #[s, x], argTypes := #[22, 22] }) (base : Nat) (v u : Value) (xs l : List EntV) (hs : a.eval s = v) (hown : OwnsE w base v xs) (hx : a.eval x = u) (hu : EntsV w u l) (hone : ∀ i, i < l.length → (eat l i).2.oneCell' = true)
    (hlen : xs.length + l.length ≤ 1000000) (hbase : base ≤ w.heap.size)
    (h : ∀ v' w', OwnsE w' base v' (xs ++ l) → w.grownBy w' v.ownBlock → wpList Tryd.prog ops Q rest (a.put o.dst v') w') : wpList Tryd.prog ops Q (o :: rest) a w := by
  obtain ⟨i0, hi, hz0, hz1, hz2⟩ := info_parts info_ent
  have hown' : w.ownsRow base 60 2 v xs.length (entsC xs) := hown
  obtain ⟨ao, cap, rfl, h1, h2, h3⟩ := hu
  have hmany : ∀ ad, ao = some ad → (∀ j u, (entsC l)[j]? = some u → w.cell? (ad.add j) = some u) → wpList Tryd.prog ops Q (o :: rest) a w := by
    rintro ad rfl hn
    refine wpList_append_own w hgd s x 22 ho base 60 i0 _ 2 40 Tryd.underlying22 hi hz0 hz1 hz2 rfl (by decide) v _ _ hs hown' ad _ cap (entsC l) hx (entsC_len l) hn (entsC_one hone) (by unfold maxLen; omega) (by omega) hbase fun v' w' hown1 hg _ => h v' w' ?_ hg
    show World.ownsRow w' base _ 2 v' (xs ++ l).length (entsC (xs ++ l))
    rw [List.length_append, ← entsC_app]
    exact hown1
  rcases Nat.eq_zero_or_pos l.length with h0 | h0
  · obtain rfl : l = [] := List.length_eq_zero_iff.1 h0
    cases ao with
    | some ad => exact hmany ad rfl (by intro j u hj; simp [entsC] at hj)
    | none =>
      have h' := h v w (by rw [List.append_nil]; exact hown) ⟨rfl, rfl, rfl, Nat.le_refl _, fun _ _ _ => rfl⟩
      exact Lib.wpList_append_run w hgd s x _ _ ho v _ hs hx v w (run_append_none' base _ _ _ i0 2 cap Tryd.underlying22 hi v _ _ hown') h'
  · obtain ⟨b, off, e, hb, hcl⟩ := h3 h0
    exact hmany _ e (ents_news rfl hcl)

end Go.Proofs.YtkmmifonandkoaaDoor

/-
  The contracts of index.preceding, of its closure, of the library's search as preceding calls it, and of index.find.
-/
set_option linter.unusedVariables false
namespace Go.Proofs.YtkmmifonandkoaaDoor
open Go.RowKit

/-- The two captured boxes, a key of the row. -/
def PcRel (w : World) (ba bx b off n cap o : Nat) (a s : ByteArray) (W : World) : Prop :=
  Below w.heap.size w W ∧ W.cell? ⟨ba, 0, none⟩ = some (.slice (some ⟨b, off, none⟩) n cap) ∧ W.cell? ⟨bx, 0, none⟩ = some (.string a) ∧ W.cell? ⟨b, o, none⟩ = some (.string s)
theorem PcRel.next {w W W' : World} {ba bx b off n cap o : Nat} {a s : ByteArray} (hba : ba < w.heap.size ∧ bx < w.heap.size ∧ b < w.heap.size) (H : PcRel w ba bx b off n cap o a s W) (hb : Below W.heap.size W W') : PcRel w ba bx b off n cap o a s W' := by
  obtain ⟨h1, h2, h3, h4⟩ := H
  have := h1.size
  exact ⟨h1.trans (hb.mono h1.size), (hb.cell (p := ⟨ba, 0, none⟩) (by show ba < _; omega)).trans h2, (hb.cell (p := ⟨bx, 0, none⟩) (by show bx < _; omega)).trans h3, (hb.cell (p := ⟨b, o, none⟩) (by show b < _; omega)).trans h4⟩

set_option maxRecDepth 100000 in
set_option maxHeartbeats 1000000 in
theorem preced_any (w : World) (hT : UtfAt w) (ba bx b off n cap k : Nat) (a s : ByteArray) (hk : k < n) (hn : n ≤ 9223372036854775807) (hba : ba < w.heap.size ∧ bx < w.heap.size ∧ b < w.heap.size)
    (hc : w.cell? ⟨ba, 0, none⟩ = some (.slice (some ⟨b, off, none⟩) n cap)) (hx : w.cell? ⟨bx, 0, none⟩ = some (.string a)) (hv : w.cell? ⟨b, off + k * 2, none⟩ = some (.string s)) :
    Calls Tryd.prog 67 #[.int .i64 k, .pointer (some ⟨ba, 0, none⟩), .pointer (some ⟨bx, 0, none⟩)] w fun e w' => e = .returned (.bool (!ltB s a)) ∧ Below w.heap.size w w' := by
  obtain ⟨q, hq⟩ : ∃ q, q = Ky.compare s a := ⟨_, rfl⟩
  have HC : Hid (∀ W, Below w.heap.size w W → Calls Tryd.prog 46 #[.string s, .string a] W fun e w' => e = .returned (.int .i64 q) ∧ Below W.heap.size W w') := fun W hW => by rw [hq]; exact compare_any _ _ W (hT.next hW)
  have HQ : Hid ((!ltB s a) = decide (0 ≤ q)) := by
    show _ = _
    unfold ltB
    rw [hq, ← decide_not]
    exact decide_eq_decide.2 (by omega)
  have H : Hid (PcRel w ba bx b off n cap (off + k * 2) a s w) := ⟨Below.refl _ _, hc, hx, hv⟩
  have HBA := Lib.hid hba
  clear hq hc hx hv hba hT
  go_enter Tryd.func67, Tryd.ntmps67
  go_upto_region 1 with (fail)
  refine wp_region_calm (PcRel w ba bx b off n cap (off + k * 2) a s) (by kernel_rfl) (by kernel_rfl) (H.out.next HBA.out (Below.refl _ _).drew) ?_
  repeat ((with_reducible refine wpQuiet_step (fun K hK => ?_)); go_simp; first | (refine hK _ ?_; clear hK K) | (apply Exists.intro; refine ⟨fun wc hwc => ?_, hK _ ?_⟩; (focus (first | (first | (go_at_call 46; refine (HC.out _ hwc.1).mono ?_; rintro e w1 ⟨rfl, hb1⟩; exact ⟨rfl, hwc.next HBA.out hb1⟩)) | (((obtain ⟨_, z0, y0, x0⟩ := hwc)); go_simp; done) | (((obtain ⟨_, z0, y0, x0⟩ := hwc)); go_simp; exact rfl))); clear hK K))
  refine wpQuiet_nil ?_
  intro wc hwc
  go_wp2_with fail
  go_ret
  exact ⟨by rw [HQ.out]; rfl, hwc.1⟩

set_option maxRecDepth 100000 in
set_option maxHeartbeats 1000000 in
theorem Search_prec (w : World) (n cnt ba bx : Nat) (p : Nat → Bool) (hn : n < 4611686018427387904) (h1 : cnt ≤ n) (h2 : ∀ i, i < cnt → p i = false) (h3 : ∀ i, cnt ≤ i → i < n → p i = true)
    (HF : ∀ W i, Below w.heap.size w W → i < n → Calls Tryd.prog 67 #[.int .i64 i, .pointer (some ⟨ba, 0, none⟩), .pointer (some ⟨bx, 0, none⟩)] W fun e w' => e = .returned (.bool (p i)) ∧ Below W.heap.size W w') :
    Calls Tryd.prog 66 #[.int .i64 n, .func (.func 67) #[] #[.pointer (some ⟨ba, 0, none⟩), .pointer (some ⟨bx, 0, none⟩)]] w fun e w' => e = .returned (.int .i64 cnt) ∧ Below w.heap.size w w' := by
  have H2 := Lib.hid h2
  have H3 := Lib.hid h3
  have HFH := Lib.hid HF
  clear h2 h3 HF
  go_enter Tryd.func66, Tryd.ntmps66
  go_wp2_with fail
  go_loopw [5, 6] (fun u v wr => ∃ lo hi : Nat, u = .int .i64 lo ∧ v = .int .i64 hi ∧ lo ≤ cnt ∧ cnt ≤ hi ∧ hi ≤ n ∧ Hid (Below w.heap.size w wr)) (fun u v _ => (intOf v).toNat - (intOf u).toNat)
  case atStart => exact ⟨0, n, rfl, rfl, Nat.zero_le _, h1, Nat.le_refl _, Below.refl _ _⟩
  case round =>
    obtain ⟨lo, hi, rfl, rfl, hlo, hhi, hin, hbel⟩ := hrel
    by_cases hlt : lo < hi
    · have hc := Lib.hid (HFH.out wr ((lo + hi) / 2) hbel.out (by omega))
      obtain ⟨m, hm⟩ : ∃ m, m = (lo + hi) / 2 := ⟨_, rfl⟩
      have q1 : ((lo : Int) + (hi : Int)) / 2 = (m : Int) := by omega
      have q2 : lo ≤ m ∧ m < hi := by omega
      rw [← hm] at hc
      have HM := Lib.hid hm
      clear hm
      obtain ⟨r, hr⟩ : ∃ r, r = p m := ⟨_, rfl⟩
      rw [← hr] at hc
      have HR := Lib.hid hr
      clear hr
      cases r
      · have hmc : m < cnt := by
          rcases Nat.lt_or_ge m cnt with h | h
          · exact h
          · have := H3.out m h (by omega)
            rw [← HR.out] at this; cases this
        go_wp2_with (go_at_call 67; refine hc.out.mono ?_; rintro e w1 ⟨rfl, hb1⟩)
        go_roundw
        case rel => exact ⟨m + 1, hi, by go_num, rfl, by omega, hhi, hin, hbel.out.trans (hb1.mono hbel.out.size)⟩
        case measure => simp [intOf]; omega
      · have hmc : cnt ≤ m := by
          rcases Nat.lt_or_ge m cnt with h | h
          · have := H2.out m h
            rw [← HR.out] at this; cases this
          · exact h
        go_wp2_with (go_at_call 67; refine hc.out.mono ?_; rintro e w1 ⟨rfl, hb1⟩)
        go_roundw
        case rel => exact ⟨lo, m, rfl, by go_num, hlo, by omega, by omega, hbel.out.trans (hb1.mono hbel.out.size)⟩
        case measure => simp [intOf]; omega
    · obtain rfl : lo = cnt := by omega
      go_wp2_with fail
      go_ret
      exact ⟨rfl, hbel.out⟩

set_option maxRecDepth 100000 in
set_option maxHeartbeats 400000 in
theorem preceding_row (w : World) (hT : UtfAt w) (a : ByteArray) (ao : Option Addr) (n cap cnt : Nat) (es : List EntV) (l : List Ent) (hl : l.length = n) (hn : n < 4611686018427387904) (hcell : 0 < n → ∃ b off, ao = some ⟨b, off, none⟩ ∧ b < w.heap.size ∧ ∀ i, i < n → EntAt w b (off + i * 2) (eat es i)) (hlead : Leads w es l) (hcnt : IsPos l a cnt) :
    Calls Tryd.prog 45 #[.slice ao n cap, .string a] w fun e w' => e = .returned (.int .i64 cnt) ∧ Below w.heap.size w w' := by
  have HS : Hid (∀ W, Below w.heap.size w W → w.heap.size + 1 < W.heap.size → W.cell? ⟨w.heap.size, 0, none⟩ = some (.slice ao n cap) → W.cell? ⟨w.heap.size + 1, 0, none⟩ = some (.string a) → Calls Tryd.prog 66 #[.int .i64 n, .func (.func 67) #[] #[.pointer (some ⟨w.heap.size, 0, none⟩), .pointer (some ⟨w.heap.size + 1, 0, none⟩)]] W fun e w' => e = .returned (.int .i64 cnt) ∧ Below W.heap.size W w') := by
    intro W hW h3 hc hx
    refine Search_prec W n cnt _ _ (fun i => !ltB (lat l i).1 a) hn (by rw [← hl]; exact hcnt.1) (fun i h => ?_) (fun i h h2 => ?_) fun W' i hW' hi => ?_
    · have := hcnt.2.1 i h
      unfold ltB
      rw [decide_eq_true this]; rfl
    · have := hcnt.2.2 i h (by omega)
      unfold ltB
      rw [decide_eq_false (by omega)]; rfl
    · obtain ⟨b, off, rfl, hb, hcl⟩ := hcell (by omega)
      have h1 := hW.size
      have h2 := hW'.size
      refine preced_any W' (hT.next (hW.trans (hW'.mono h1))) _ _ b off n cap i a _ hi (by omega) ⟨by omega, by omega, by omega⟩ ((hW'.cell (p := ⟨w.heap.size, 0, none⟩) (by show w.heap.size < _; omega)).trans hc) ((hW'.cell (p := ⟨w.heap.size + 1, 0, none⟩) (by show w.heap.size + 1 < _; omega)).trans hx) ?_
      have h4 := (((hcl i hi).next hW hb).next hW' (by omega)).1
      rw [(hlead.2 i (by omega)).1] at h4
      exact h4
  clear hcell hcnt hl hlead hT
  have HB : Hid (Below w.heap.size w ((w.alloc (.cells #[.slice ao n cap] 22)).alloc (.cells #[.string a] 9))) := ((Below.refl _ _).alloc (Nat.le_refl _) _).alloc (by simp) _
  have HX : Hid (((w.alloc (.cells #[.slice ao n cap] 22)).alloc (.cells #[.string a] 9)).cell? ⟨w.heap.size, 0, none⟩ = some (.slice ao n cap) ∧ ((w.alloc (.cells #[.slice ao n cap] 22)).alloc (.cells #[.string a] 9)).cell? ⟨w.heap.size + 1, 0, none⟩ = some (.string a)) := by
    refine ⟨?_, ?_⟩ <;> simp
  go_enter Tryd.func45, Tryd.ntmps45
  go_wp2_with fail
  refine (HS.out _ HB.out (by simp) HX.out.1 HX.out.2).mono ?_
  rintro e w1 ⟨rfl, hb1⟩
  go_wp2_with fail
  go_ret
  exact ⟨rfl, HB.out.trans (hb1.mono HB.out.size)⟩

theorem preceding_any {w : World} {v : Value} {l : List Ent} (hT : UtfAt w) (h : Ents w v l) (h64 : l.length ≤ 64) {a : ByteArray} {n : Nat} (hn : IsPos l a n) : Calls Tryd.prog 45 #[v, .string a] w fun e w' => e = .returned (.int .i64 n) ∧ Below w.heap.size w w' := by
  obtain ⟨ao, m, cap, es, rfl, hl, hle, hmx, hm, hrow, hlead⟩ := h.opened
  exact preceding_row w hT a ao m cap n es l hl (by omega) hrow hlead hn

/-! ### find -/
/-- The index, and a key of it. -/
def FdRel (w : World) (b o : Nat) (s : ByteArray) (W : World) : Prop := b < w.heap.size ∧ Below w.heap.size w W ∧ W.cell? ⟨b, o, none⟩ = some (.string s)
theorem FdRel.next {w W W' : World} {b o : Nat} {s : ByteArray} (H : FdRel w b o s W) (hb : Below W.heap.size W W') : FdRel w b o s W' := by
  obtain ⟨h0, h1, h2⟩ := H
  have := h1.size
  exact ⟨h0, h1.trans (hb.mono h1.size), (hb.cell (p := ⟨b, o, none⟩) (by show b < _; omega)).trans h2⟩

set_option maxRecDepth 100000 in
set_option maxHeartbeats 1000000 in
theorem find_any {w : World} {v : Value} {l : List Ent} (hT : UtfAt w) (h : Ents w v l) (h64 : l.length ≤ 64) {k : ByteArray} {n : Nat} (hn : IsPos l k n) :
    Calls Tryd.prog 32 #[v, .string k] w fun e w' => e = .returned (.tuple #[.int .i64 n, .bool (thereB l k n)]) ∧ Below w.heap.size w w' := by
  have HP : Hid (Calls Tryd.prog 45 #[v, .string k] w fun e w' => e = .returned (.int .i64 n) ∧ Below w.heap.size w w') := preceding_any hT h h64 hn
  obtain ⟨ao, m, cap, es, rfl, hl, hle, hmx, hm, hrow, hlead⟩ := h.opened
  have hnm : n ≤ m := by rw [← hl]; exact hn.1
  clear hn hT h hle hmx h64
  rcases Nat.lt_or_ge n m with hlt | hge
  · obtain ⟨b, off, rfl, hb, hcl⟩ := hrow (by omega)
    obtain ⟨s, hs⟩ : ∃ s, s = (lat l n).1 := ⟨_, rfl⟩
    have HC : Hid (∀ W, Below w.heap.size w W → FdRel w b (off + n * 2) s W) := fun W hW => by
      have h1 := ((hcl n hlt).next hW hb).1
      rw [(hlead.2 n (by omega)).1, ← hs] at h1
      exact ⟨hb, hW, h1⟩
    have hth : thereB l k n = decide (s = k) := by
      unfold thereB
      rw [hs]
      exact decide_eq_decide.2 ⟨fun h => h.2, fun h => ⟨by omega, h⟩⟩
    have HTH := Lib.hid hth
    clear hrow hlead hcl hb hl hs hth
    by_cases hsk : s = k
    · have HE : Hid (thereB l k n = true) := by show _ = _; rw [HTH.out]; exact decide_eq_true hsk
      subst hsk
      go_enter Tryd.func32, Tryd.ntmps32
      go_wp2_with fail
      refine HP.out.mono ?_
      rintro e w1 ⟨rfl, hb1⟩
      have H1 := Lib.hid (HC.out w1 hb1)
      clear hb1
      go_upto_region 2 with (fail)
      refine wp_region_calm (FdRel w b (off + n * 2) s) (by kernel_rfl) (by kernel_rfl) (H1.out.next (Below.refl _ _).drew) ?_
      repeat ((with_reducible refine wpQuiet_step (fun K hK => ?_)); go_simp; first | (refine hK _ ?_; clear hK K) | (apply Exists.intro; refine ⟨fun wc hwc => ?_, hK _ ?_⟩; (focus (first | (fail) | (((obtain ⟨_, _, x0⟩ := hwc)); go_simp; done) | (((obtain ⟨_, _, x0⟩ := hwc)); go_simp; exact rfl))); clear hK K))
      refine wpQuiet_nil ?_
      intro wc hwc
      go_wp2_with fail
      go_ret2
      exact ⟨by rw [HE.out]; rfl, hwc.2.1⟩
    · have HE : Hid (thereB l k n = false) := by show _ = _; rw [HTH.out]; exact decide_eq_false hsk
      have d1 : (s.toList == k.toList) = false := beq_eq_false_iff_ne.2 fun h => hsk (list_inj h)
      have d2 : ¬ s.toList = k.toList := fun h => hsk (list_inj h)
      go_enter Tryd.func32, Tryd.ntmps32
      go_wp2_with fail
      refine HP.out.mono ?_
      rintro e w1 ⟨rfl, hb1⟩
      have H1 := Lib.hid (HC.out w1 hb1)
      clear hb1
      go_upto_region 2 with (fail)
      refine wp_region_calm (FdRel w b (off + n * 2) s) (by kernel_rfl) (by kernel_rfl) (H1.out.next (Below.refl _ _).drew) ?_
      repeat ((with_reducible refine wpQuiet_step (fun K hK => ?_)); go_simp; first | (refine hK _ ?_; clear hK K) | (apply Exists.intro; refine ⟨fun wc hwc => ?_, hK _ ?_⟩; (focus (first | (fail) | (((obtain ⟨_, _, x0⟩ := hwc)); go_simp; done) | (((obtain ⟨_, _, x0⟩ := hwc)); go_simp; exact rfl))); clear hK K))
      refine wpQuiet_nil ?_
      intro wc hwc
      go_wp2_with fail
      go_ret2
      exact ⟨by rw [HE.out]; rfl, hwc.2.1⟩
  · have HE : Hid (thereB l k n = false) := by show _ = _; unfold thereB; exact decide_eq_false fun h => by omega
    have d1 : ¬ n < m := by omega
    have d2 : decide ((n : Int) < (m : Int)) = false := decide_eq_false (by omega)
    clear hrow hlead hl
    go_enter Tryd.func32, Tryd.ntmps32
    go_wp2_with fail
    refine HP.out.mono ?_
    rintro e w1 ⟨rfl, hb1⟩
    have H1 := Lib.hid hb1
    clear hb1
    go_upto_region 2 with (fail)
    refine wp_region_calm (fun W => Below w.heap.size w W) (by kernel_rfl) (by kernel_rfl) (H1.out.trans ((Below.refl _ _).drew.mono H1.out.size)) ?_
    repeat ((with_reducible refine wpQuiet_step (fun K hK => ?_)); go_simp; first | (refine hK _ ?_; clear hK K) | (apply Exists.intro; refine ⟨fun wc hwc => ?_, hK _ ?_⟩; (focus (first | (fail) | ((skip); go_simp; done) | ((skip); go_simp; exact rfl))); clear hK K))
    refine wpQuiet_nil ?_
    intro wc hwc
    go_wp2_with fail
    go_ret2
    exact ⟨by rw [HE.out]; rfl, hwc⟩

end Go.Proofs.YtkmmifonandkoaaDoor

/-
  The contract of the document's At of a chain.
-/
set_option linter.unusedVariables false
namespace Go.Proofs.YtkmmifonandkoaaDoor
open Go.RowKit

/-- What a round of At knows: the stamp's box, the box of the version found, the result's box; the row. -/
def AtRel (w : World) (b o : Nat) (x y z : Int) (u v : Ver) (W : World) : Prop :=
  b < w.heap.size ∧ Below w.heap.size w W ∧ Box W w.heap.size x y z ∧ VBox W (w.heap.size + 1) 0 0 0 false { data := #[] } ∧ VBox W (w.heap.size + 1 + 1) u.1 u.2.1 u.2.2.1 u.2.2.2.1 u.2.2.2.2 ∧ VerAt W b o v
theorem AtRel.next {w W W' : World} {b o : Nat} {x y z : Int} {u v : Ver} (H : AtRel w b o x y z u v W) (hb : Below W.heap.size W W') : AtRel w b o x y z u v W' := by
  obtain ⟨h0, h1, h2, h3, h4, h5⟩ := H
  have := h1.size
  exact ⟨h0, h1.trans (hb.mono h1.size), h2.over hb, h3.over hb, h4.over hb, h5.next hb (by omega)⟩
theorem AtRel.drew {w W : World} {b o : Nat} {x y z : Int} {u v : Ver} (H : AtRel w b o x y z u v W) : AtRel w b o x y z u v W.drew := H.next ((Below.refl _ _).drew)
/-- The three boxes. -/
def AtBox (w : World) (x y z : Int) (u : Ver) (W : World) : Prop :=
  Below w.heap.size w W ∧ Box W w.heap.size x y z ∧ VBox W (w.heap.size + 1) 0 0 0 false { data := #[] } ∧ VBox W (w.heap.size + 1 + 1) u.1 u.2.1 u.2.2.1 u.2.2.2.1 u.2.2.2.2
theorem AtBox.next {w W W' : World} {x y z : Int} {u : Ver} (H : AtBox w x y z u W) (hb : Below W.heap.size W W') : AtBox w x y z u W' :=
  ⟨H.1.trans (hb.mono H.1.size), H.2.1.over hb, H.2.2.1.over hb, H.2.2.2.over hb⟩
theorem AtBox.drew {w W : World} {x y z : Int} {u : Ver} (H : AtBox w x y z u W) : AtBox w x y z u W.drew := H.next ((Below.refl _ _).drew)
theorem AtBox.put {w W : World} {x y z : Int} {u : Ver} (H : AtBox w x y z u W) (v : Ver) : AtBox w x y z v (W.setRow (w.heap.size + 1 + 1) #[.int .i64 (v.1), .int .i64 (v.2.1), .int .i64 (v.2.2.1), .bool (v.2.2.2.1), .string (v.2.2.2.2)]) :=
  ⟨below_setRow H.1 (by omega) _, H.2.1.other _ (by omega), H.2.2.1.other _ (by omega), H.2.2.2.set _ _ _ _ _⟩
theorem AtBox.new (w : World) (x y z : Int) : AtBox w x y z ver0 (((w.alloc (.cells #[.int .i64 x, .int .i64 y, .int .i64 z] 24)).alloc (.cells #[.int .i64 0, .int .i64 0, .int .i64 0, .bool false, .string ({ data := #[] })] 26)).alloc (.cells #[.int .i64 0, .int .i64 0, .int .i64 0, .bool false, .string ({ data := #[] })] 26)) := by
  refine ⟨(((Below.refl w.heap.size w).alloc (Nat.le_refl _) _).alloc (by simp) _).alloc (by simp; omega) _, ((Box.new w x y z).alloc _).alloc _, ?_, ?_⟩
  · have := (VBox.new (w.alloc (.cells #[.int .i64 x, .int .i64 y, .int .i64 z] 24)) 0 0 0 false { data := #[] }).alloc (.cells #[.int .i64 0, .int .i64 0, .int .i64 0, .bool false, .string ({ data := #[] })] 26)
    simpa using this
  · have := VBox.new ((w.alloc (.cells #[.int .i64 x, .int .i64 y, .int .i64 z] 24)).alloc (.cells #[.int .i64 0, .int .i64 0, .int .i64 0, .bool false, .string ({ data := #[] })] 26)) 0 0 0 false { data := #[] }
    simpa [ver0] using this
/-- The version found among the first k. -/
def foundAt (l : List Ver) (n k : Nat) : Ver := if min k n = 0 then ver0 else vat l (min k n - 1)
theorem found_in {l : List Ver} {n k : Nat} (h : k < n) : foundAt l n (k + 1) = vat l k := by
  unfold foundAt
  rw [if_neg (by omega), show min (k + 1) n - 1 = k by omega]
theorem found_out {l : List Ver} {n k : Nat} (h : n ≤ k) : foundAt l n (k + 1) = foundAt l n k := by
  unfold foundAt
  rw [show min (k + 1) n = min k n by omega]

set_option maxRecDepth 100000 in
set_option maxHeartbeats 2000000 in
theorem refAt_row (w : World) (x y z : Int) (ao : Option Addr) (len cap : Nat) (l : List Ver) (n : Nat) (r : Bool) (hl : l.length = len) (hle : len ≤ cap) (hmx : cap ≤ maxLen) (hcell : 0 < len → ∃ b off, ao = some ⟨b, off, none⟩ ∧ b < w.heap.size ∧ ∀ i, i < len → VerAt w b (off + i * 5) (vat l i))
    (hr : rightC l = r) (hn : r = true → IsCnt l x y z n) (hn0 : r = false → n = 0) :
    Calls Tryd.prog 19 #[.slice ao len cap, (Go.Value.agg #[Go.Value.int Go.IntKind.i64 x, Go.Value.int Go.IntKind.i64 y, Go.Value.int Go.IntKind.i64 z])] w fun e w' => e = .returned (.tuple #[verV (foundAt l n len), .bool (decide (0 < n))]) ∧ Below w.heap.size w w' := by
  have HL := Lib.hid hl
  have HC := Lib.hid hcell
  have HN := Lib.hid hn
  have HN0 := Lib.hid hn0
  have HRR : Hid (∀ W, Below w.heap.size w W → Calls Tryd.prog 43 #[.slice ao len cap] W fun e w' => e = .returned (.bool r) ∧ Below W.heap.size W w') := by
    intro W hW
    rw [← hr]
    have hv : Vers w (.slice ao len cap) l := ⟨ao, cap, by rw [hl], by omega, hmx, by rw [hl]; exact hcell⟩
    refine refCRight_any ⟨ao, cap, by rw [hl], by omega, hmx, fun hp => ?_⟩
    obtain ⟨b, off, e1, h1, h2⟩ := hcell (by omega)
    exact ⟨b, off, e1, Nat.lt_of_lt_of_le h1 hW.size, fun i hi => (h2 i (by omega)).next hW h1⟩
  clear hl hcell hr hn hn0
  have hmx2 : len ≤ 9223372036854775807 := by have : maxLen ≤ 9223372036854775807 := by decide
                                              omega
  clear hle hmx
  go_enter Tryd.func19, Tryd.ntmps19
  go_upto_region 2 with (fail)
  obtain ⟨w2, H2, HW2⟩ : ∃ w2, Hid (AtBox w x y z ver0 w2) ∧ Hid ((((w.alloc (.cells #[.int .i64 x, .int .i64 y, .int .i64 z] 24)).alloc (.cells #[.int .i64 0, .int .i64 0, .int .i64 0, .bool false, .string ({ data := #[] })] 26)).alloc (.cells #[.int .i64 0, .int .i64 0, .int .i64 0, .bool false, .string ({ data := #[] })] 26)) = w2) := ⟨_, AtBox.new w x y z, rfl⟩
  rw [HW2.out]
  clear HW2
  have HF0 : Hid (AtBox w x y z (foundAt l n 0) w2) := by
    have e : foundAt l n 0 = ver0 := by unfold foundAt; rw [if_pos (by omega)]
    show AtBox w x y z (foundAt l n 0) w2
    rw [e]; exact H2.out
  go_wp2_with fail
  go_loopw [7, 8] (fun o i wr => ∃ k : Nat, k ≤ len ∧ i = .int .i64 k ∧ o = .bool (decide (0 < min k n)) ∧ (r = false → k = 0) ∧ Hid (AtBox w x y z (foundAt l n k) wr)) (fun _ i _ => len - (intOf i).toNat)
  case atStart => exact ⟨0, Nat.zero_le _, rfl, by simp, fun _ => rfl, HF0⟩
  case round =>
    obtain ⟨k, hk, rfl, rfl, hk0, hat⟩ := hrel
    have HK0 := Lib.hid hk0
    clear hk0
    obtain ⟨u, hu⟩ : ∃ u, u = foundAt l n k := ⟨_, rfl⟩
    have HU := Lib.hid hu
    rw [← hu] at hat
    clear hu
    obtain ⟨ua, ub, uc, ug, us⟩ := u
    obtain ⟨o, ho⟩ : ∃ o, o = decide (0 < min k n) := ⟨_, rfl⟩
    rw [← ho]
    have HO := Lib.hid ho
    clear ho
    by_cases hlt : k < len
    · obtain ⟨b, off, rfl, hb, hcl⟩ := HC.out (by omega)
      cases r
      · have hk00 : k = 0 := HK0.out (by first | rfl | trivial)
        subst hk00
        have hn00 := HN0.out (by first | rfl | trivial)
        subst hn00
        have hE : (ua, ub, uc, ug, us) = foundAt l 0 len := by rw [HU.out]; unfold foundAt; rw [if_pos (by omega), if_pos (by omega)]
        have HE : Hid (verV (foundAt l 0 len) = (Go.Value.agg #[Go.Value.int Go.IntKind.i64 ua, Go.Value.int Go.IntKind.i64 ub, Go.Value.int Go.IntKind.i64 uc, Go.Value.bool ug, Go.Value.string us])) := by show _ = _; rw [← hE]; rfl
        have HO2 : o = false := by rw [HO.out]; rfl
        subst HO2
        clear hE
        go_wp2_with fail
        refine (HRR.out _ hat.out.1).mono ?_
        rintro e w3 ⟨rfl, hb3⟩
        have H3 : Hid (AtBox w x y z (ua, ub, uc, ug, us) w3) := hat.out.next hb3
        clear hb3 hat
        go_wp2_with (first | (refine vbox_load (w.heap.size + 1 + 1) H3.out.2.2.2 rfl _ rfl rfl ?_) | (refine vbox_store (w.heap.size + 1) H3.out.2.2.1 rfl _ _ rfl rfl rfl ?_))
        exact bodyPost_ret (vbox_result2 rfl _ _ (w.heap.size + 1) rfl (H3.out.2.2.1.set ua ub uc ug us)) rfl ⟨by rw [HE.out]; rfl, below_setRow H3.out.1 (by omega) _⟩
      · go_wp2_with fail
        refine (HRR.out _ hat.out.1).mono ?_
        rintro e w3 ⟨rfl, hb3⟩
        have H3 : Hid (AtBox w x y z (ua, ub, uc, ug, us) w3) := hat.out.next hb3
        clear hb3 hat
        obtain ⟨v, hv⟩ : ∃ v, v = vat l k := ⟨_, rfl⟩
        have HV := Lib.hid hv
        have HVR : Hid (VerAt w b (off + k * 5) v) := by rw [hv]; exact hcl k hlt
        obtain ⟨a, t, c, g, s⟩ := v
        obtain ⟨d, hd⟩ : ∃ d, d = befB x y z a t c := ⟨_, rfl⟩
        have HB : Hid (∀ W, Calls Tryd.prog 38 #[(Go.Value.agg #[Go.Value.int Go.IntKind.i64 x, Go.Value.int Go.IntKind.i64 y, Go.Value.int Go.IntKind.i64 z]), (Go.Value.agg #[Go.Value.int Go.IntKind.i64 a, Go.Value.int Go.IntKind.i64 t, Go.Value.int Go.IntKind.i64 c])] W fun e w' => e = .returned (.bool d) ∧ Below W.heap.size W w') := fun W => by rw [hd]; exact Before_any _ _ _ _ _ _ W
        have HD : Hid (d = befS x y z (vat l k)) := by show d = _; rw [← HV.out, hd]; rfl
        clear hv hd
        have q2 : k < len := hlt
        have H4 : Hid (AtRel w b (off + k * 5) x y z (ua, ub, uc, ug, us) (a, t, c, g, s) w3) := ⟨hb, H3.out.1, H3.out.2.1, H3.out.2.2.1, H3.out.2.2.2, HVR.out.next H3.out.1 hb⟩
        clear H3 hcl
        go_upto_region 5 with (fail)
        refine wp_region_calm (AtRel w b (off + k * 5) x y z (ua, ub, uc, ug, us) (a, t, c, g, s)) (by kernel_rfl) (by kernel_rfl) H4.out.drew ?_
        repeat ((with_reducible refine wpQuiet_step (fun K hK => ?_)); go_simp; first | (refine hK _ ?_; clear hK K) | (apply Exists.intro; refine ⟨fun wc hwc => ?_, hK _ ?_⟩; (focus (first | (first | (go_at_call 38; refine (HB.out _).mono ?_; rintro e w1 ⟨rfl, hb1⟩; exact ⟨rfl, hwc.next hb1⟩)) | (((obtain ⟨_, _, hx, _, _, ⟨y0, y1, y2, _⟩⟩ := hwc; obtain ⟨x0, x1, x2⟩ := hx.cell; dsimp only at y0 y1 y2; clear hx)); go_simp; done) | (((obtain ⟨_, _, hx, _, _, ⟨y0, y1, y2, _⟩⟩ := hwc; obtain ⟨x0, x1, x2⟩ := hx.cell; dsimp only at y0 y1 y2; clear hx)); go_simp; exact rfl))); clear hK K))
        refine wpQuiet_nil ?_
        intro wc hwc
        have HW := Lib.hid hwc
        clear hwc H4
        cases d
        · have hkn : k < n := by
            rcases Nat.lt_or_ge k n with h | h
            · exact h
            · have := (HN.out (by first | rfl | trivial)).2.2 k h (by rw [HL.out]; exact hlt)
              rw [← HD.out] at this; cases this
          have HP : Hid (AtBox w x y z (foundAt l n (k + 1)) (wc.setRow (w.heap.size + 1 + 1) #[.int .i64 a, .int .i64 t, .int .i64 c, .bool g, .string s])) := by
            show AtBox w x y z (foundAt l n (k + 1)) _
            rw [found_in hkn, ← HV.out]
            exact AtBox.put (u := (ua, ub, uc, ug, us)) ⟨HW.out.2.1, HW.out.2.2.1, HW.out.2.2.2.1, HW.out.2.2.2.2.1⟩ (a, t, c, g, s)
          have HO3 : Hid (decide (0 < min (k + 1) n) = true) := decide_eq_true (by omega)
          obtain ⟨y0, y1, y2, y3, y4⟩ := HW.out.2.2.2.2.2
          dsimp only at y0 y1 y2 y3 y4
          go_wp2_with (first | (refine vbox_store (w.heap.size + 1 + 1) HW.out.2.2.2.2.1 rfl _ _ rfl rfl rfl ?_))
          go_roundw
          case rel => exact ⟨k + 1, by omega, by go_num, by rw [HO3.out], (fun h => by cases h), HP⟩
          case measure => simp [intOf]; omega
        · have hkn : n ≤ k := by
            rcases Nat.lt_or_ge k n with h | h
            · have := (HN.out (by first | rfl | trivial)).2.1 k h
              rw [← HD.out] at this; cases this
            · exact h
          have HP : Hid (AtBox w x y z (foundAt l n (k + 1)) wc) := by
            show AtBox w x y z (foundAt l n (k + 1)) _
            rw [found_out hkn, ← HU.out]
            exact ⟨HW.out.2.1, HW.out.2.2.1, HW.out.2.2.2.1, HW.out.2.2.2.2.1⟩
          have HO3 : Hid (decide (0 < min (k + 1) n) = o) := by
            show _ = o
            rw [HO.out, show min (k + 1) n = min k n by omega]
          go_wp2_with fail
          go_roundw
          case rel => exact ⟨k + 1, by omega, by go_num, by rw [HO3.out], (fun h => by cases h), HP⟩
          case measure => simp [intOf]; omega
    · obtain rfl : k = len := by omega
      have HE : Hid (verV (foundAt l n k) = (Go.Value.agg #[Go.Value.int Go.IntKind.i64 ua, Go.Value.int Go.IntKind.i64 ub, Go.Value.int Go.IntKind.i64 uc, Go.Value.bool ug, Go.Value.string us])) := by show _ = _; rw [← HU.out]; rfl
      have hon : o = decide (0 < n) := by
        rw [HO.out]
        cases r
        · rw [HN0.out (by first | rfl | trivial)]; simp
        · have := (HN.out (by first | rfl | trivial)).1
          rw [HL.out] at this
          rw [Nat.min_eq_right this]
      have HO4 := Lib.hid hon
      clear hon
      go_wp2_with (first | (refine vbox_load (w.heap.size + 1 + 1) hat.out.2.2.2 rfl _ rfl rfl ?_) | (refine vbox_store (w.heap.size + 1) hat.out.2.2.1 rfl _ _ rfl rfl rfl ?_))
      exact bodyPost_ret (vbox_result2 rfl _ _ (w.heap.size + 1) rfl (hat.out.2.2.1.set ua ub uc ug us)) rfl ⟨by rw [HE.out, ← HO4.out]; rfl, below_setRow hat.out.1 (by omega) _⟩

theorem refAt_any {w : World} {v : Value} {l : List Ver} {x y z : Int} {u : Ver} {ok : Bool} (h : Vers w v l) (ha : IsAt l x y z u ok) :
    Calls Tryd.prog 19 #[v, (Go.Value.agg #[Go.Value.int Go.IntKind.i64 x, Go.Value.int Go.IntKind.i64 y, Go.Value.int Go.IntKind.i64 z])] w fun e w' => e = .returned (.tuple #[verV u, .bool ok]) ∧ Below w.heap.size w w' := by
  obtain ⟨ao, cap, rfl, h1, h2, h3⟩ := h
  rcases ha with ⟨hr, rfl, rfl⟩ | ⟨hr, hc, rfl, rfl⟩ | ⟨hr, rfl, n, hc, rfl⟩
  · have := refAt_row w x y z ao _ cap l 0 false rfl h1 h2 h3 hr (fun e => by cases e) (fun _ => rfl)
    rwa [show foundAt l 0 l.length = ver0 by unfold foundAt; rw [if_pos (by omega)]] at this
  · have := refAt_row w x y z ao _ cap l 0 true rfl h1 h2 h3 hr (fun _ => hc) (fun e => by cases e)
    rwa [show foundAt l 0 l.length = ver0 by unfold foundAt; rw [if_pos (by omega)]] at this
  · have := refAt_row w x y z ao _ cap l (n + 1) true rfl h1 h2 h3 hr (fun _ => hc) (fun e => by cases e)
    have hn := hc.1
    rwa [show foundAt l (n + 1) l.length = vat l n by unfold foundAt; rw [if_neg (by omega), show min l.length (n + 1) - 1 = n by omega], show decide (0 < n + 1) = true by simp] at this

end Go.Proofs.YtkmmifonandkoaaDoor

/-
  Equality of stamps.
-/
set_option linter.unusedVariables false
namespace Go.Proofs.YtkmmifonandkoaaDoor
open Go.RowKit

/-- Are two stamps the same? -/
def sameB (a1 a2 a3 b1 b2 b3 : Int) : Bool := decide (a1 = b1 ∧ a2 = b2 ∧ a3 = b3)
theorem eq_stamp (a1 a2 a3 b1 b2 b3 : Int) (w : World) : (Op.equalIn 10000 24 (Go.Value.agg #[Go.Value.int Go.IntKind.i64 a1, Go.Value.int Go.IntKind.i64 a2, Go.Value.int Go.IntKind.i64 a3]) (Go.Value.agg #[Go.Value.int Go.IntKind.i64 b1, Go.Value.int Go.IntKind.i64 b2, Go.Value.int Go.IntKind.i64 b3])).run Tryd.prog w = .ok (sameB a1 a2 a3 b1 b2 b3) w := by
  unfold sameB
  by_cases h1 : a1 = b1 <;> by_cases h2 : a2 = b2 <;> by_cases h3 : a3 = b3 <;> go_simp

end Go.Proofs.YtkmmifonandkoaaDoor
