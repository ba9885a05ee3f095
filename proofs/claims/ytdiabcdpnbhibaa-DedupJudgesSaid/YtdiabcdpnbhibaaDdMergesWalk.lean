/-
  DedupMerges and DedupSelf over the contracts' forms.
-/
import Derived.Test.YtdiabcdpnbhibaaDdForms
set_option linter.unusedVariables false
namespace Go.Proofs.Ytdiabcdpnbhibaa
open Go.RowKit

set_option maxRecDepth 100000 in
set_option maxHeartbeats 1000000 in
theorem dedupMerges_core (hA : FDAwake) (hM : FDMerge) (w : World) (va : Value) (a : List Dn) (hva : Tab w va a) (vb : Value) (b : List Dn) (hvb : Tab w vb b) :
    Calls Try.prog 5 #[va, vb] w fun e w' => e = .returned (.bool true) ∧ Below w.heap.size w w' := by
  obtain ⟨g1, hg1⟩ : ∃ g, g = smallT a := ⟨_, rfl⟩
  obtain ⟨g2, hg2⟩ : ∃ g, g = smallT b := ⟨_, rfl⟩
  have H1 : Hid (∀ W, W = w → Calls Try.prog 8 #[va] W fun e w' => e = .returned (.bool g1) ∧ w' = W) := by
    show ∀ W, _ → _
    rintro W rfl
    rw [hg1]; exact refTSmall_any hva
  have H2 : Hid (∀ W, W = w → Calls Try.prog 8 #[vb] W fun e w' => e = .returned (.bool g2) ∧ w' = W) := by
    show ∀ W, _ → _
    rintro W rfl
    rw [hg2]; exact refTSmall_any hvb
  obtain ⟨m, er, hm⟩ := dmerge_ex a b
  have HM : Hid (∀ W, Below w.heap.size w W → Calls Try.prog 19 #[va, vb] W fun e' w' => ∃ v', e' = .returned (.tuple #[v', .int .i64 er]) ∧ SoEnd W m v' w') := fun W hW => hM W va vb a b m er (hva.next hW) (hvb.next hW) hm
  have HR : Hid (∀ W, Below w.heap.size w W → Calls Try.prog 20 #[va, vb] W fun e' w' => ∃ v', e' = .returned (.tuple #[v', .int .i64 er]) ∧ SoEnd W m v' w') := fun W hW => refTMerge_any (hva.next hW) (hvb.next hW) hm
  have HE : Hid (∀ W u v, Tab W u m → Tab W v m → Calls Try.prog 16 #[u, v] W fun e w' => e = .returned (.bool true) ∧ Below W.heap.size W w') := fun W u v hu hv => refTEqual_any hu hv (dmerge_bare hm)
  have HA : Hid (FDAwake) := hA
  clear hg1 hg2 hm hA hM hva hvb
  cases g1
  · go_enter Try.func5, Try.ntmps5
    go_wp2_with fail
    refine (H1.out _ rfl).mono ?_
    rintro e w1 ⟨rfl, rfl⟩
    go_wp2_with fail
    refine (HA.out _).mono ?_
    rintro e w1 ⟨rfl, hb1⟩
    go_wp2_with fail
    go_ret
    exact ⟨rfl, hb1⟩
  cases g2
  · go_enter Try.func5, Try.ntmps5
    go_wp2_with fail
    refine (H1.out _ rfl).mono ?_
    rintro e w1 ⟨rfl, rfl⟩
    go_wp2_with fail
    refine (H2.out _ rfl).mono ?_
    rintro e w1 ⟨rfl, rfl⟩
    go_wp2_with fail
    refine (HA.out _).mono ?_
    rintro e w1 ⟨rfl, hb1⟩
    go_wp2_with fail
    go_ret
    exact ⟨rfl, hb1⟩
  go_enter Try.func5, Try.ntmps5
  go_wp2_with fail
  refine (H1.out _ rfl).mono ?_
  rintro e w1 ⟨rfl, rfl⟩
  go_wp2_with fail
  refine (H2.out _ rfl).mono ?_
  rintro e w1 ⟨rfl, rfl⟩
  go_wp2_with fail
  refine (HM.out _ (Below.refl _ _)).mono ?_
  rintro e w2 ⟨v2, rfl, h2⟩
  have H2 := Lib.hid h2
  clear h2 HM
  go_wp2_with fail
  refine (HR.out _ H2.out.2).mono ?_
  rintro e w3 ⟨v3, rfl, h3⟩
  have H3 : Hid (Tab w3 v2 m ∧ Tab w3 v3 m ∧ Below w1.heap.size w1 w3) := ⟨H2.out.1.next h3.2, h3.1, H2.out.2.trans (h3.2.mono H2.out.2.size)⟩
  clear h3 H2 HR
  go_wp2_with fail
  refine (HE.out _ _ _ H3.out.1 H3.out.2.1).mono ?_
  rintro e w4 ⟨rfl, hb4⟩
  have H4 : Hid (Below w1.heap.size w1 w4) := H3.out.2.2.trans (hb4.mono H3.out.2.2.size)
  clear hb4 H3
  go_wp2_with fail
  refine (HA.out _).mono ?_
  rintro e w5 ⟨rfl, hb5⟩
  go_wp2_with fail
  go_ret
  exact ⟨rfl, H4.out.trans (hb5.mono H4.out.size)⟩

/-! ### DedupSelf -/
theorem un_self {t : List Dn} (h : incT t) : IsMerged t t t := by
  refine ⟨h, fun d => ?_⟩
  rw [un_mem]
  constructor
  · intro hd
    exact .inl ⟨hd, by rw [req_at (row_own h hd)]; exact Int.le_refl _⟩
  · rintro (⟨hd, _⟩ | ⟨hd, _⟩) <;> exact hd
theorem un_none {t : List Dn} (h : rightT t = true) : IsMerged t [] t ∧ IsMerged [] t t := by
  obtain ⟨_, h1, h2⟩ := right_parts h
  have hp : ∀ d ∈ t, 0 < dR d := fun d hd => (row_spec (h1 d hd)).2.1.1
  refine ⟨⟨h2, fun d => ?_⟩, h2, fun d => ?_⟩
  · rw [un_mem]
    constructor
    · intro hd
      exact .inl ⟨hd, by show (0 : Int) ≤ _; have := hp d hd; omega⟩
    · rintro (⟨hd, _⟩ | ⟨hd, _⟩)
      · exact hd
      · simp at hd
  · rw [un_mem]
    constructor
    · intro hd
      exact .inr ⟨hd, by show (0 : Int) < _; exact hp d hd⟩
    · rintro (⟨hd, _⟩ | ⟨hd, _⟩)
      · simp at hd
      · exact hd
theorem unm_len {a b m : List Dn} (ha : incT a) (hb : incT b) (h : IsMerged a b m) (hi : incT (unT a b)) : unT a b = m := inc_ext hi h.1 fun d => (h.2 d).symm
theorem self_un {t : List Dn} (h : rightT t = true) : unT t t = t ∧ unT t [] = t ∧ unT [] t = t := by
  obtain ⟨_, h1, h2⟩ := right_parts h
  have hp : ∀ d ∈ t, 0 < dR d := fun d hd => (row_spec (h1 d hd)).2.1.1
  have e1 : t.filter (fun x => decide (reqT t (dC x) ≤ dR x)) = t := List.filter_eq_self.2 fun d hd => by rw [req_at (row_own h2 hd)]; exact decide_eq_true (Int.le_refl _)
  have e2 : t.filter (fun x => decide (reqT t (dC x) < dR x)) = [] := List.filter_eq_nil_iff.2 fun d hd => by rw [req_at (row_own h2 hd), decide_eq_false (Int.lt_irrefl _)]; simp
  have e3 : t.filter (fun x => decide (reqT [] (dC x) ≤ dR x)) = t := List.filter_eq_self.2 fun d hd => decide_eq_true (by show (0 : Int) ≤ _; have := hp d hd; omega)
  have e4 : t.filter (fun x => decide (reqT [] (dC x) < dR x)) = t := List.filter_eq_self.2 fun d hd => decide_eq_true (by show (0 : Int) < _; exact hp d hd)
  unfold unT
  rw [e1, e2, e3, e4]
  simp
theorem self_merge {t : List Dn} (h : rightT t = true) : IsDMerge t t t 0 ∧ IsDMerge t [] t 0 ∧ IsDMerge [] t t 0 := by
  obtain ⟨h8, _, h2⟩ := right_parts h
  obtain ⟨e1, e2, e3⟩ := self_un h
  exact ⟨.inr (.inr ⟨h, h, by rw [e1]; exact h8, un_self h2, rfl⟩), .inr (.inr ⟨h, right_nil, by rw [e2]; exact h8, (un_none h).1, rfl⟩), .inr (.inr ⟨right_nil, h, by rw [e3]; exact h8, (un_none h).2, rfl⟩)⟩

set_option maxRecDepth 100000 in
set_option maxHeartbeats 2000000 in
theorem dedupSelf_core (hA : FDAwake) (hR : FDRight) (hM : FDMerge) (w : World) (v : Value) (t : List Dn) (hv : Tab w v t) :
    Calls Try.prog 7 #[v] w fun e w' => e = .returned (.bool true) ∧ Below w.heap.size w w' := by
  obtain ⟨g1, hg1⟩ : ∃ g, g = smallT t := ⟨_, rfl⟩
  obtain ⟨g2, hg2⟩ : ∃ g, g = rightT t := ⟨_, rfl⟩
  have H1 : Hid (∀ W, W = w → Calls Try.prog 8 #[v] W fun e w' => e = .returned (.bool g1) ∧ w' = W) := by
    show ∀ W, _ → _
    rintro W rfl
    rw [hg1]; exact refTSmall_any hv
  have H2 : Hid (∀ W, W = w → Calls Try.prog 11 #[v] W fun e w' => e = .returned (.bool g2) ∧ Below W.heap.size W w') := by
    show ∀ W, _ → _
    rintro W rfl
    rw [hg2]; exact hR _ v t hv
  have HM : Hid (g2 = true → (∀ W, Below w.heap.size w W → Calls Try.prog 19 #[v, v] W fun e' w' => ∃ v', e' = .returned (.tuple #[v', .int .i64 0]) ∧ SoEnd W t v' w') ∧ (∀ W, Below w.heap.size w W → Calls Try.prog 19 #[v, .slice none 0 0] W fun e' w' => ∃ v', e' = .returned (.tuple #[v', .int .i64 0]) ∧ SoEnd W t v' w') ∧ (∀ W, Below w.heap.size w W → Calls Try.prog 19 #[.slice none 0 0, v] W fun e' w' => ∃ v', e' = .returned (.tuple #[v', .int .i64 0]) ∧ SoEnd W t v' w')) := by
    show g2 = true → _
    intro h
    have h5 := self_merge (hg2.symm.trans h)
    exact ⟨fun W hW => hM W v v t t t 0 (hv.next hW) (hv.next hW) h5.1, fun W hW => hM W v _ t [] t 0 (hv.next hW) (tab_nil W) h5.2.1, fun W hW => hM W _ v [] t t 0 (tab_nil W) (hv.next hW) h5.2.2⟩
  have HE : Hid (g2 = true → ∀ W u, Below w.heap.size w W → Tab W u t → Calls Try.prog 16 #[u, v] W fun e w' => e = .returned (.bool true) ∧ Below W.heap.size W w') := by
    show g2 = true → _
    intro h W u hW hu
    exact refTEqual_any hu (hv.next hW) fun d hd => (row_spec ((right_parts (hg2.symm.trans h)).2.1 d hd)).2.2
  have HA : Hid (FDAwake) := hA
  clear hg1 hg2 hA hM hR hv
  cases g1
  · go_enter Try.func7, Try.ntmps7
    go_wp2_with fail
    refine (H1.out _ rfl).mono ?_
    rintro e w1 ⟨rfl, rfl⟩
    go_wp2_with fail
    refine (HA.out _).mono ?_
    rintro e w1 ⟨rfl, hb1⟩
    go_wp2_with fail
    go_ret
    exact ⟨rfl, hb1⟩
  cases g2
  · go_enter Try.func7, Try.ntmps7
    go_wp2_with fail
    refine (H1.out _ rfl).mono ?_
    rintro e w1 ⟨rfl, rfl⟩
    go_wp2_with fail
    refine (H2.out _ rfl).mono ?_
    rintro e w2 ⟨rfl, hb2⟩
    go_wp2_with fail
    refine (HA.out _).mono ?_
    rintro e w3 ⟨rfl, hb3⟩
    go_wp2_with fail
    go_ret
    exact ⟨rfl, hb2.trans (hb3.mono hb2.size)⟩
  have HM' := Lib.hid (HM.out (by first | rfl | trivial))
  have HE' := Lib.hid (HE.out (by first | rfl | trivial))
  clear HM HE
  go_enter Try.func7, Try.ntmps7
  go_wp2_with fail
  refine (H1.out _ rfl).mono ?_
  rintro e w1 ⟨rfl, rfl⟩
  go_wp2_with fail
  refine (H2.out _ rfl).mono ?_
  rintro e w2 ⟨rfl, hb2⟩
  have HB2 := Lib.hid hb2
  clear hb2 H1 H2
  go_wp2_with fail
  refine (HM'.out.1 _ HB2.out).mono ?_
  rintro e w3 ⟨v3, rfl, h3⟩
  have H3 : Hid (Tab w3 v3 t ∧ Below w1.heap.size w1 w3) := ⟨h3.1, HB2.out.trans (h3.2.mono HB2.out.size)⟩
  clear h3 HB2
  go_wp2_with fail
  refine (HM'.out.2.1 _ H3.out.2).mono ?_
  rintro e w4 ⟨v4, rfl, h4⟩
  have H4 : Hid (Tab w4 v3 t ∧ Tab w4 v4 t ∧ Below w1.heap.size w1 w4) := ⟨H3.out.1.next h4.2, h4.1, H3.out.2.trans (h4.2.mono H3.out.2.size)⟩
  clear h4 H3
  go_wp2_with fail
  refine (HM'.out.2.2 _ H4.out.2.2).mono ?_
  rintro e w5 ⟨v5, rfl, h5⟩
  have H5 : Hid (Tab w5 v3 t ∧ Tab w5 v4 t ∧ Tab w5 v5 t ∧ Below w1.heap.size w1 w5) := ⟨H4.out.1.next h5.2, H4.out.2.1.next h5.2, h5.1, H4.out.2.2.trans (h5.2.mono H4.out.2.2.size)⟩
  clear h5 H4
  go_wp2_with fail
  refine (HE'.out _ _ H5.out.2.2.2 H5.out.1).mono ?_
  rintro e w6 ⟨rfl, hb6⟩
  have H6 : Hid (Tab w6 v4 t ∧ Tab w6 v5 t ∧ Below w1.heap.size w1 w6) := ⟨H5.out.2.1.next hb6, H5.out.2.2.1.next hb6, H5.out.2.2.2.trans (hb6.mono H5.out.2.2.2.size)⟩
  clear hb6 H5
  go_wp2_with fail
  refine (HE'.out _ _ H6.out.2.2 H6.out.1).mono ?_
  rintro e w7 ⟨rfl, hb7⟩
  have H7 : Hid (Tab w7 v5 t ∧ Below w1.heap.size w1 w7) := ⟨H6.out.2.1.next hb7, H6.out.2.2.trans (hb7.mono H6.out.2.2.size)⟩
  clear hb7 H6
  go_wp2_with fail
  refine (HE'.out _ _ H7.out.2 H7.out.1).mono ?_
  rintro e w8 ⟨rfl, hb8⟩
  have H8 : Hid (Below w1.heap.size w1 w8) := H7.out.2.trans (hb8.mono H7.out.2.size)
  clear hb8 H7
  go_wp2_with fail
  refine (HA.out _).mono ?_
  rintro e w9 ⟨rfl, hb9⟩
  go_wp2_with fail
  go_ret
  exact ⟨rfl, H8.out.trans (hb9.mono H8.out.size)⟩

end Go.Proofs.Ytdiabcdpnbhibaa
