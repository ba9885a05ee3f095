/-
  The contracts of package span's functions, as the program has them.
-/
import Derived.Test.YtpmellfgmlgknaaDoorSpForms
import Derived.Test.YtpmellfgmlgknaaDoorKyRight
set_option linter.unusedVariables false
namespace Go.Proofs.YtpmellfgmlgknaaDoor
open Go.RowKit

theorem nemp (s : ByteArray) (h0 : ¬ s.size = 0) : (s.toList == ({ data := #[] } : ByteArray).toList) = false ∧ ¬ s.toList = ({ data := #[] } : ByteArray).toList ∧ (s.toList == []) = false ∧ ¬ s.toList = [] ∧ ¬ s = { data := #[] } := by
  have e0 : ({ data := #[] } : ByteArray).toList = [] := by rw [ByteArray.toList_eq]
  have d2 : ¬ s.toList = ({ data := #[] } : ByteArray).toList := fun h => h0 (by rw [list_inj h]; rfl)
  have d4 : ¬ s.toList = [] := by rw [← e0]; exact d2
  exact ⟨beq_eq_false_iff_ne.2 d2, d2, beq_eq_false_iff_ne.2 d4, d4, fun h => h0 (by rw [h]; rfl)⟩

set_option maxRecDepth 100000 in
set_option maxHeartbeats 400000 in
theorem spBound_any (k : ByteArray) (w : World) : Calls Tryd.prog 24 #[.string k] w fun e w' => e = .returned (.bool (decide (k.size = 0) || Ky.right k)) ∧ Below w.heap.size w w' := by
  obtain ⟨q, hq⟩ : ∃ q, q = Ky.right k := ⟨_, rfl⟩
  have HQ : Hid (∀ W, Calls Tryd.prog 27 #[.string k] W fun e w' => e = .returned (.bool q) ∧ Below W.heap.size W w') := fun W => by rw [hq]; exact right_any k W
  rw [← hq]
  clear hq
  by_cases h0 : k.size = 0
  · rw [decide_eq_true h0, Bool.true_or]
    obtain rfl : k = ({ data := #[] } : ByteArray) := emp_of h0
    clear HQ h0
    go_enter Tryd.func24, Tryd.ntmps24
    go_wp2_with fail
    go_ret
    exact ⟨rfl, Below.refl _ _⟩
  · rw [decide_eq_false h0, Bool.false_or]
    obtain ⟨d1, d2, d3, d4, d6⟩ := nemp k h0
    clear h0
    go_enter Tryd.func24, Tryd.ntmps24
    go_wp2_with fail
    refine (HQ.out _).mono ?_
    rintro e w1 ⟨rfl, hb1⟩
    go_wp2_with fail
    go_ret
    exact ⟨rfl, hb1⟩

set_option maxRecDepth 100000 in
set_option maxHeartbeats 400000 in
theorem spBelow_any (k hi : ByteArray) (w : World) (hT : UtfAt w) : Calls Tryd.prog 25 #[.string k, .string hi] w fun e w' => e = .returned (.bool (blw k hi)) ∧ Below w.heap.size w w' := by
  obtain ⟨c, hc⟩ : ∃ c, c = Ky.compare k hi := ⟨_, rfl⟩
  have HQ : Hid (Calls Tryd.prog 28 #[.string k, .string hi] w fun e w' => e = .returned (.int .i64 c) ∧ Below w.heap.size w w') := by rw [hc]; exact compare_any k hi w hT
  have HX : Hid (blw k hi = (decide (hi.size = 0) || decide (c < 0))) := by rw [hc]; rfl
  clear hc hT
  by_cases h0 : hi.size = 0
  · rw [decide_eq_true h0, Bool.true_or] at HX
    obtain rfl : hi = ({ data := #[] } : ByteArray) := emp_of h0
    clear HQ h0
    go_enter Tryd.func25, Tryd.ntmps25
    go_wp2_with fail
    go_ret
    exact ⟨by rw [HX.out]; rfl, Below.refl _ _⟩
  · rw [decide_eq_false h0, Bool.false_or] at HX
    obtain ⟨d1, d2, d3, d4, d6⟩ := nemp hi h0
    clear h0
    go_enter Tryd.func25, Tryd.ntmps25
    go_wp2_with fail
    refine HQ.out.mono ?_
    rintro e w1 ⟨rfl, hb1⟩
    go_wp2_with fail
    go_ret
    exact ⟨by rw [HX.out]; rfl, hb1⟩

/-! ### adjoin -/
def adjB (b c : ByteArray) : Bool := !decide (b.size = 0) && decide (b = c)
set_option maxRecDepth 100000 in
set_option maxHeartbeats 1000000 in
theorem spAdj_any (a b c d : ByteArray) (w : World) : Calls Tryd.prog 30 #[(Go.Value.agg #[Go.Value.string a, Go.Value.string b]), (Go.Value.agg #[Go.Value.string c, Go.Value.string d])] w fun e w' => e = .returned (.bool (adjB b c)) ∧ Below w.heap.size w w' := by
  by_cases h0 : b.size = 0
  · have HX : Hid (adjB b c = false) := by show _ = _; unfold adjB; rw [decide_eq_true h0]; rfl
    obtain rfl : b = ({ data := #[] } : ByteArray) := emp_of h0
    clear h0
    go_enter Tryd.func30, Tryd.ntmps30
    go_upto_region 1 with (fail)
    have H2 := Lib.hid (K2s.new w a { data := #[] } c d)
    generalize hw2 : (World.alloc _ _).alloc _ = w2 at H2 ⊢
    clear hw2
    obtain ⟨x1, x2⟩ := H2.out.2.1.cell
    obtain ⟨y1, y2⟩ := H2.out.2.2.cell
    go_wp2_with fail
    go_ret
    exact ⟨by rw [HX.out]; rfl, H2.out.1⟩
  by_cases h1 : b = c
  · have HX : Hid (adjB b c = true) := by show _ = _; unfold adjB; rw [decide_eq_false h0, decide_eq_true h1]; rfl
    obtain ⟨d1, d2, d3, d4, d6⟩ := nemp b h0
    subst h1
    clear h0
    go_enter Tryd.func30, Tryd.ntmps30
    go_upto_region 1 with (fail)
    have H2 := Lib.hid (K2s.new w a b b d)
    generalize hw2 : (World.alloc _ _).alloc _ = w2 at H2 ⊢
    clear hw2
    obtain ⟨x1, x2⟩ := H2.out.2.1.cell
    obtain ⟨y1, y2⟩ := H2.out.2.2.cell
    go_wp2_with fail
    go_ret
    exact ⟨by rw [HX.out]; rfl, H2.out.1⟩
  · have HX : Hid (adjB b c = false) := by show _ = _; unfold adjB; rw [decide_eq_false h0, decide_eq_false h1]; rfl
    obtain ⟨d1, d2, d3, d4, d6⟩ := nemp b h0
    have e2 : ¬ b.toList = c.toList := fun e => h1 (list_inj e)
    have e1 : (b.toList == c.toList) = false := beq_eq_false_iff_ne.2 e2
    clear h0
    go_enter Tryd.func30, Tryd.ntmps30
    go_upto_region 1 with (fail)
    have H2 := Lib.hid (K2s.new w a b c d)
    generalize hw2 : (World.alloc _ _).alloc _ = w2 at H2 ⊢
    clear hw2
    obtain ⟨x1, x2⟩ := H2.out.2.1.cell
    obtain ⟨y1, y2⟩ := H2.out.2.2.cell
    go_wp2_with fail
    go_ret
    exact ⟨by rw [HX.out]; rfl, H2.out.1⟩

/-! ### Right -/
def bndB (k : ByteArray) : Bool := decide (k.size = 0) || Ky.right k
theorem spR_code (a b : ByteArray) : spR (a, b) = (bndB a && (bndB b && blw a b)) := by
  unfold spR bndB blw
  dsimp only
  cases decide (a.size = 0) <;> cases Ky.right a <;> cases decide (b.size = 0) <;> cases Ky.right b <;> simp
theorem spBnd_any (k : ByteArray) (w : World) : Calls Tryd.prog 24 #[.string k] w fun e w' => e = .returned (.bool (bndB k)) ∧ Below w.heap.size w w' := spBound_any k w
set_option maxRecDepth 100000 in
set_option maxHeartbeats 1000000 in
theorem fSRight : FSRight := by
  intro w a b hT
  obtain ⟨p, hp⟩ : ∃ p, p = bndB a := ⟨_, rfl⟩
  obtain ⟨q, hq⟩ : ∃ q, q = bndB b := ⟨_, rfl⟩
  obtain ⟨r, hr⟩ : ∃ r, r = blw a b := ⟨_, rfl⟩
  have HP : Hid (∀ W, Calls Tryd.prog 24 #[.string a] W fun e w' => e = .returned (.bool p) ∧ Below W.heap.size W w') := fun W => by rw [hp]; exact spBnd_any a W
  have HQ : Hid (∀ W, Calls Tryd.prog 24 #[.string b] W fun e w' => e = .returned (.bool q) ∧ Below W.heap.size W w') := fun W => by rw [hq]; exact spBnd_any b W
  have HR : Hid (∀ W, UtfAt W → Calls Tryd.prog 25 #[.string a, .string b] W fun e w' => e = .returned (.bool r) ∧ Below W.heap.size W w') := fun W hT => by rw [hr]; exact spBelow_any a b W hT
  have HX : Hid (spR (a, b) = (p && (q && r))) := by show _ = _; rw [hp, hq, hr]; exact spR_code a b
  have HT := Lib.hid hT
  clear hp hq hr hT
  go_enter Tryd.func10, Tryd.ntmps10
  go_upto_region 1 with (fail)
  have H0 := Lib.hid (PW.new w a b)
  generalize hw0 : World.alloc _ _ = w0 at H0 ⊢
  clear hw0
  obtain ⟨x1, x2⟩ := H0.out.2.cell
  cases p
  · go_wp2_with fail
    refine (HP.out _).mono ?_
    rintro e w1 ⟨rfl, hb1⟩
    have H1 := Lib.hid (H0.out.next hb1)
    clear hb1 H0 x1 x2
    go_wp2_with fail
    go_ret
    exact ⟨by rw [HX.out]; rfl, H1.out.1⟩
  cases q
  · go_wp2_with fail
    refine (HP.out _).mono ?_
    rintro e w1 ⟨rfl, hb1⟩
    have H1 := Lib.hid (H0.out.next hb1)
    clear hb1 H0 x1 x2
    obtain ⟨x1, x2⟩ := H1.out.2.cell
    go_wp2_with fail
    refine (HQ.out _).mono ?_
    rintro e w2 ⟨rfl, hb2⟩
    have H2 := Lib.hid (H1.out.next hb2)
    clear hb2 H1 x1 x2
    go_wp2_with fail
    go_ret
    exact ⟨by rw [HX.out]; rfl, H2.out.1⟩
  · go_wp2_with fail
    refine (HP.out _).mono ?_
    rintro e w1 ⟨rfl, hb1⟩
    have H1 := Lib.hid (H0.out.next hb1)
    clear hb1 H0 x1 x2
    obtain ⟨x1, x2⟩ := H1.out.2.cell
    go_wp2_with fail
    refine (HQ.out _).mono ?_
    rintro e w2 ⟨rfl, hb2⟩
    have H2 := Lib.hid (H1.out.next hb2)
    clear hb2 H1 x1 x2
    obtain ⟨x1, x2⟩ := H2.out.2.cell
    go_wp2_with fail
    refine (HR.out _ (HT.out.next H2.out.1)).mono ?_
    rintro e w3 ⟨rfl, hb3⟩
    have H3 := Lib.hid (H2.out.next hb3)
    clear hb3 H2 x1 x2
    go_wp2_with fail
    go_ret
    exact ⟨by rw [HX.out]; rfl, H3.out.1⟩

/-! ### Has -/
set_option maxRecDepth 100000 in
set_option maxHeartbeats 1000000 in
theorem fSHas : FSHas := by
  intro w a b k hT
  obtain ⟨p, hp⟩ : ∃ p, p = spR (a, b) := ⟨_, rfl⟩
  obtain ⟨q, hq⟩ : ∃ q, q = Ky.right k := ⟨_, rfl⟩
  obtain ⟨c, hc⟩ : ∃ c, c = Ky.compare k a := ⟨_, rfl⟩
  obtain ⟨r, hr⟩ : ∃ r, r = blw k b := ⟨_, rfl⟩
  have HP : Hid (∀ W, UtfAt W → Calls Tryd.prog 10 #[(Go.Value.agg #[Go.Value.string a, Go.Value.string b])] W fun e w' => e = .returned (.bool p) ∧ Below W.heap.size W w') := fun W hT => by rw [hp]; exact fSRight W a b hT
  have HQ : Hid (∀ W, Calls Tryd.prog 27 #[.string k] W fun e w' => e = .returned (.bool q) ∧ Below W.heap.size W w') := fun W => by rw [hq]; exact right_any k W
  have HC : Hid (∀ W, UtfAt W → Calls Tryd.prog 28 #[.string k, .string a] W fun e w' => e = .returned (.int .i64 c) ∧ Below W.heap.size W w') := fun W hT => by rw [hc]; exact compare_any k a W hT
  have HR : Hid (∀ W, UtfAt W → Calls Tryd.prog 25 #[.string k, .string b] W fun e w' => e = .returned (.bool r) ∧ Below W.heap.size W w') := fun W hT => by rw [hr]; exact spBelow_any k b W hT
  have HX : Hid (spHas (a, b) k = (p && (q && (decide (0 ≤ c) && r)))) := by show _ = _; rw [hp, hq, hc, hr]; rfl
  have HT := Lib.hid hT
  clear hp hq hr hc hT
  go_enter Tryd.func12, Tryd.ntmps12
  go_upto_region 1 with (fail)
  have H0 := Lib.hid (PW.new w a b)
  generalize hw0 : World.alloc _ _ = w0 at H0 ⊢
  clear hw0
  obtain ⟨x1, x2⟩ := H0.out.2.cell
  cases p
  · go_wp2_with (first | (refine pbox_load w.heap.size H0.out.2 rfl _ rfl rfl ?_))
    refine (HP.out _ (HT.out.next H0.out.1)).mono ?_
    rintro e w1 ⟨rfl, hb1⟩
    have H1 := Lib.hid (H0.out.next hb1)
    clear hb1 H0 x1 x2
    go_wp2_with fail
    go_ret
    exact ⟨by rw [HX.out]; rfl, H1.out.1⟩
  cases q
  · go_wp2_with (first | (refine pbox_load w.heap.size H0.out.2 rfl _ rfl rfl ?_))
    refine (HP.out _ (HT.out.next H0.out.1)).mono ?_
    rintro e w1 ⟨rfl, hb1⟩
    have H1 := Lib.hid (H0.out.next hb1)
    clear hb1 H0 x1 x2
    obtain ⟨x1, x2⟩ := H1.out.2.cell
    go_wp2_with fail
    refine (HQ.out _).mono ?_
    rintro e w2 ⟨rfl, hb2⟩
    have H2 := Lib.hid (H1.out.next hb2)
    clear hb2 H1 x1 x2
    go_wp2_with fail
    go_ret
    exact ⟨by rw [HX.out]; rfl, H2.out.1⟩
  by_cases hc0 : 0 ≤ c
  · have dq : decide (0 ≤ c) = true := decide_eq_true hc0
    have HD := Lib.hid dq
    go_wp2_with (first | (refine pbox_load w.heap.size H0.out.2 rfl _ rfl rfl ?_))
    refine (HP.out _ (HT.out.next H0.out.1)).mono ?_
    rintro e w1 ⟨rfl, hb1⟩
    have H1 := Lib.hid (H0.out.next hb1)
    clear hb1 H0 x1 x2
    obtain ⟨x1, x2⟩ := H1.out.2.cell
    go_wp2_with fail
    refine (HQ.out _).mono ?_
    rintro e w2 ⟨rfl, hb2⟩
    have H2 := Lib.hid (H1.out.next hb2)
    clear hb2 H1 x1 x2
    obtain ⟨x1, x2⟩ := H2.out.2.cell
    go_wp2_with fail
    refine (HC.out _ (HT.out.next H2.out.1)).mono ?_
    rintro e w3 ⟨rfl, hb3⟩
    have H3 := Lib.hid (H2.out.next hb3)
    clear hb3 H2 x1 x2
    obtain ⟨x1, x2⟩ := H3.out.2.cell
    go_wp2_with fail
    refine (HR.out _ (HT.out.next H3.out.1)).mono ?_
    rintro e w4 ⟨rfl, hb4⟩
    have H4 := Lib.hid (H3.out.next hb4)
    clear hb4 H3 x1 x2
    go_wp2_with fail
    go_ret
    exact ⟨by rw [HX.out, HD.out]; rfl, H4.out.1⟩
  · have dq : decide (0 ≤ c) = false := decide_eq_false hc0
    have HD := Lib.hid dq
    go_wp2_with (first | (refine pbox_load w.heap.size H0.out.2 rfl _ rfl rfl ?_))
    refine (HP.out _ (HT.out.next H0.out.1)).mono ?_
    rintro e w1 ⟨rfl, hb1⟩
    have H1 := Lib.hid (H0.out.next hb1)
    clear hb1 H0 x1 x2
    obtain ⟨x1, x2⟩ := H1.out.2.cell
    go_wp2_with fail
    refine (HQ.out _).mono ?_
    rintro e w2 ⟨rfl, hb2⟩
    have H2 := Lib.hid (H1.out.next hb2)
    clear hb2 H1 x1 x2
    obtain ⟨x1, x2⟩ := H2.out.2.cell
    go_wp2_with fail
    refine (HC.out _ (HT.out.next H2.out.1)).mono ?_
    rintro e w3 ⟨rfl, hb3⟩
    have H3 := Lib.hid (H2.out.next hb3)
    clear hb3 H2 x1 x2
    go_wp2_with fail
    go_ret
    exact ⟨by rw [HX.out, HD.out]; rfl, H3.out.1⟩

/-! ### Cut -/
theorem pl_bnd {a : ByteArray} (h : a.size = 0 ∨ Ky.right a = true) : Ky.allPl a 0 = true := by
  rcases h with h | h
  · rw [emp_of h]; rfl
  · exact (Ky.right_pl a h).1
theorem cut_code {a b k : ByteArray} (h : spR (a, b) = true) (hq : Ky.right k = true) : (spR (a, k) && spR (k, b)) = (!decide (k = a) && spHas (a, b) k) := by
  have hk := right_size hq
  obtain ⟨s1, s2⟩ := spR_spec h
  dsimp only at s1 s2
  have n1 := cmp_neg' k a
  rw [Bool.eq_iff_iff, Bool.and_eq_true, Bool.and_eq_true, has_spec]
  dsimp only
  constructor
  · rintro ⟨h1, h2⟩
    have h3 : Ky.compare a k < 0 := by
      rcases (spR_spec h1).2 with h4 | h4
      · have h5 : k.size = 0 := h4
        omega
      · exact h4.2
    have h4 : k.size = 0 ∨ (Ky.right k = true) := .inr hq
    have h5 : b.size = 0 ∨ Ky.compare k b < 0 := (spR_spec h2).2.imp id fun h => h.2
    have h6 : ¬ k = a := fun e => by rw [e, cmp_self] at h3; omega
    exact ⟨by rw [decide_eq_false h6]; rfl, h, hq, by omega, h5⟩
  · rintro ⟨h1, _, _, h3, h4⟩
    have h6 : ¬ k = a := fun e => by rw [decide_eq_true e] at h1; exact absurd h1 (by decide)
    have h7 : Ky.compare k a ≠ 0 := fun e => h6 (Ky.same_bytes k a (pl_bnd (.inr hq)) (pl_bnd s1) e)
    refine ⟨spR_of s1 (.inr ⟨hq, ?_⟩), spR_of (.inr hq) ?_⟩
    · show Ky.compare a k < 0
      omega
    · rcases h4 with h5 | h5
      · exact .inl h5
      · rcases s2 with h8 | h8
        · exact .inl h8
        · exact .inr ⟨h8.1, h5⟩
def G1 (g : Nat) (a b : ByteArray) (W : World) : Prop := W.cell? ⟨g, 0, none⟩ = some (.string a) ∧ W.cell? ⟨g, 1, none⟩ = some (.string b)
theorem G1.drew {g : Nat} {a b : ByteArray} {W : World} (H : G1 g a b W) : G1 g a b W.drew := H
theorem G1.set {g : Nat} {a b : ByteArray} {W : World} (H : G1 g a b W) (p : Addr) (v : Value) (n1 : g ≠ p.block) : G1 g a b (W.setCell p v) := by
  obtain ⟨h1, h2⟩ := H
  refine ⟨?_, ?_⟩
  all_goals
    rw [World.cell?_setCell_other _ _ _ _ (by intro e; subst e; exact n1 rfl)]
    assumption
set_option maxRecDepth 100000 in
set_option maxHeartbeats 1000000 in
theorem fSCut : FSCut := by
  intro w a b k hT
  obtain ⟨p, hp⟩ : ∃ p, p = spR (a, b) := ⟨_, rfl⟩
  obtain ⟨q, hq⟩ : ∃ q, q = Ky.right k := ⟨_, rfl⟩
  obtain ⟨h, hh⟩ : ∃ h, h = spHas (a, b) k := ⟨_, rfl⟩
  have HP : Hid (∀ W, UtfAt W → Calls Tryd.prog 10 #[(Go.Value.agg #[Go.Value.string a, Go.Value.string b])] W fun e w' => e = .returned (.bool p) ∧ Below W.heap.size W w') := fun W hT => by rw [hp]; exact fSRight W a b hT
  have HQ : Hid (∀ W, Calls Tryd.prog 27 #[.string k] W fun e w' => e = .returned (.bool q) ∧ Below W.heap.size W w') := fun W => by rw [hq]; exact right_any k W
  have HH : Hid (∀ W, UtfAt W → Calls Tryd.prog 12 #[(Go.Value.agg #[Go.Value.string a, Go.Value.string b]), .string k] W fun e w' => e = .returned (.bool h) ∧ Below W.heap.size W w') := fun W hT => by rw [hh]; exact fSHas W a b k hT
  have HT := Lib.hid hT
  have HT1 : Hid (UtfAt (((((w.alloc (.cells #[.string a, .string b] 23))).alloc (.cells #[.string emp, .string emp] 23))).alloc (.cells #[.string emp, .string emp] 23))) := hT.next (Q3.new w a b).1
  have hcase : ((p && q) = false ∧ cutE (a, b) k = 1 ∧ cutA (a, b) k = (emp, emp) ∧ cutB (a, b) k = (emp, emp)) ∨ (p = true ∧ q = true ∧ (k = a ∨ (¬ k = a ∧ h = false)) ∧ cutE (a, b) k = 9 ∧ cutA (a, b) k = (emp, emp) ∧ cutB (a, b) k = (emp, emp)) ∨ (p = true ∧ q = true ∧ ¬ k = a ∧ h = true ∧ cutE (a, b) k = 0 ∧ cutA (a, b) k = (a, k) ∧ cutB (a, b) k = (k, b)) := by
    have hd : cutE (a, b) k = if spR (a, b) && Ky.right k then (if spR (a, k) && spR (k, b) then 0 else 9) else 1 := rfl
    rw [← hp, ← hq] at hd
    by_cases h1 : (p && q) = true
    · have h2 : p = true ∧ q = true := by simpa using h1
      rw [cut_code (hp ▸ h2.1) (hq ▸ h2.2), ← hh] at hd
      by_cases h3 : (!decide (k = a) && h) = true
      · have h4 : ¬ k = a ∧ h = true := by simpa using h3
        have h5 : cutE (a, b) k = 0 := by rw [hd, h1, h3]; rfl
        exact .inr (.inr ⟨h2.1, h2.2, h4.1, h4.2, h5, cut_zero h5⟩)
      · have h4 : k = a ∨ (¬ k = a ∧ h = false) := by
          by_cases h6 : k = a
          · exact .inl h6
          · rw [decide_eq_false h6] at h3
            refine .inr ⟨h6, ?_⟩
            cases h
            · rfl
            · exact absurd rfl h3
        have h5 : cutE (a, b) k = 9 := by rw [hd, h1, if_pos rfl, if_neg h3]
        exact .inr (.inl ⟨h2.1, h2.2, h4, h5, cut_not (by omega)⟩)
    · have h5 : cutE (a, b) k = 1 := by rw [hd, if_neg h1]
      exact .inl ⟨by simpa using h1, h5, cut_not (by omega)⟩
  clear hp hq hh hT
  rcases hcase with ⟨h1, e1, e2, e3⟩ | ⟨rfl, rfl, h1, e1, e2, e3⟩ | ⟨rfl, rfl, h1, rfl, e1, e2, e3⟩
  all_goals rw [e1, e2, e3]; clear e1 e2 e3
  · clear HH
    cases p
    · clear HQ h1
      go_enter Tryd.func15, Tryd.ntmps15
      go_wp2_with fail
      refine (HP.out _ HT1.out).mono ?_
      rintro e w1 ⟨rfl, hb1⟩
      have H1 : Hid (Q3 w a b w1) := (Q3.new w a b).next hb1
      clear hb1
      go_wp2_with (first | (refine pbox_store (w.heap.size + 1) H1.out.2.2.1 rfl _ _ rfl rfl rfl ?_) | (refine pbox_store (w.heap.size + 2) (H1.out.2.2.2.other _ (by omega)) rfl _ _ rfl rfl rfl ?_))
      exact bodyPost_ret (pbox_result3 rfl _ _ (w.heap.size + 1) (w.heap.size + 2) rfl rfl (q3_res H1.out _ _ _ _).1 (q3_res H1.out _ _ _ _).2.1) rfl ⟨rfl, (q3_res H1.out _ _ _ _).2.2⟩
    · rw [Bool.true_and] at h1
      subst h1
      go_enter Tryd.func15, Tryd.ntmps15
      go_wp2_with fail
      refine (HP.out _ HT1.out).mono ?_
      rintro e w1 ⟨rfl, hb1⟩
      have H1 : Hid (Q3 w a b w1) := (Q3.new w a b).next hb1
      clear hb1
      go_wp2_with fail
      refine (HQ.out _).mono ?_
      rintro e w2 ⟨rfl, hb2⟩
      have H2 := Lib.hid (H1.out.next hb2)
      clear hb2 H1
      go_wp2_with (first | (refine pbox_store (w.heap.size + 1) H2.out.2.2.1 rfl _ _ rfl rfl rfl ?_) | (refine pbox_store (w.heap.size + 2) (H2.out.2.2.2.other _ (by omega)) rfl _ _ rfl rfl rfl ?_))
      exact bodyPost_ret (pbox_result3 rfl _ _ (w.heap.size + 1) (w.heap.size + 2) rfl rfl (q3_res H2.out _ _ _ _).1 (q3_res H2.out _ _ _ _).2.1) rfl ⟨rfl, (q3_res H2.out _ _ _ _).2.2⟩
  · rcases h1 with rfl | ⟨h1, rfl⟩
    · clear HH
      go_enter Tryd.func15, Tryd.ntmps15
      go_wp2_with fail
      refine (HP.out _ HT1.out).mono ?_
      rintro e w1 ⟨rfl, hb1⟩
      have H1 : Hid (Q3 w _ b w1) := (Q3.new w _ b).next hb1
      clear hb1
      go_wp2_with fail
      refine (HQ.out _).mono ?_
      rintro e w2 ⟨rfl, hb2⟩
      have H2 := Lib.hid (H1.out.next hb2)
      clear hb2 H1
      obtain ⟨x1, x2⟩ := H2.out.2.1.cell
      go_wp2_with (first | (refine pbox_store (w.heap.size + 1) H2.out.2.2.1 rfl _ _ rfl rfl rfl ?_) | (refine pbox_store (w.heap.size + 2) (H2.out.2.2.2.other _ (by omega)) rfl _ _ rfl rfl rfl ?_))
      exact bodyPost_ret (pbox_result3 rfl _ _ (w.heap.size + 1) (w.heap.size + 2) rfl rfl (q3_res H2.out _ _ _ _).1 (q3_res H2.out _ _ _ _).2.1) rfl ⟨rfl, (q3_res H2.out _ _ _ _).2.2⟩
    · have e2 : ¬ k.toList = a.toList := fun e => h1 (list_inj e)
      have e1 : (k.toList == a.toList) = false := beq_eq_false_iff_ne.2 e2
      have HH2 : Hid (∀ W, Below w.heap.size w W → Calls Tryd.prog 12 #[(Go.Value.agg #[Go.Value.string a, Go.Value.string b]), .string k] W fun e w' => e = .returned (.bool false) ∧ Below W.heap.size W w') := fun W hW => HH.out W (HT.out.next hW)
      clear HH
      go_enter Tryd.func15, Tryd.ntmps15
      go_wp2_with fail
      refine (HP.out _ HT1.out).mono ?_
      rintro e w1 ⟨rfl, hb1⟩
      have H1 : Hid (Q3 w a b w1) := (Q3.new w a b).next hb1
      clear hb1
      go_wp2_with fail
      refine (HQ.out _).mono ?_
      rintro e w2 ⟨rfl, hb2⟩
      have H2 := Lib.hid (H1.out.next hb2)
      clear hb2 H1
      obtain ⟨x1, x2⟩ := H2.out.2.1.cell
      go_wp2_with fail
      refine (HH2.out _ H2.out.1).mono ?_
      rintro e w3 ⟨rfl, hb3⟩
      have H3 := Lib.hid (H2.out.next hb3)
      clear hb3 H2 x1 x2
      go_wp2_with (first | (refine pbox_store (w.heap.size + 1) H3.out.2.2.1 rfl _ _ rfl rfl rfl ?_) | (refine pbox_store (w.heap.size + 2) (H3.out.2.2.2.other _ (by omega)) rfl _ _ rfl rfl rfl ?_))
      exact bodyPost_ret (pbox_result3 rfl _ _ (w.heap.size + 1) (w.heap.size + 2) rfl rfl (q3_res H3.out _ _ _ _).1 (q3_res H3.out _ _ _ _).2.1) rfl ⟨rfl, (q3_res H3.out _ _ _ _).2.2⟩
  · have e2 : ¬ k.toList = a.toList := fun e => h1 (list_inj e)
    have e1 : (k.toList == a.toList) = false := beq_eq_false_iff_ne.2 e2
    have HH2 : Hid (∀ W, Below w.heap.size w W → Calls Tryd.prog 12 #[(Go.Value.agg #[Go.Value.string a, Go.Value.string b]), .string k] W fun e w' => e = .returned (.bool true) ∧ Below W.heap.size W w') := fun W hW => HH.out W (HT.out.next hW)
    clear HH
    go_enter Tryd.func15, Tryd.ntmps15
    go_wp2_with fail
    refine (HP.out _ HT1.out).mono ?_
    rintro e w1 ⟨rfl, hb1⟩
    have H1 : Hid (Q3 w a b w1) := (Q3.new w a b).next hb1
    clear hb1
    go_wp2_with fail
    refine (HQ.out _).mono ?_
    rintro e w2 ⟨rfl, hb2⟩
    have H2 := Lib.hid (H1.out.next hb2)
    clear hb2 H1
    obtain ⟨x1, x2⟩ := H2.out.2.1.cell
    go_wp2_with fail
    refine (HH2.out _ H2.out.1).mono ?_
    rintro e w3 ⟨rfl, hb3⟩
    have H3 := Lib.hid (H2.out.next hb3)
    clear hb3 H2 x1 x2
    obtain ⟨x1, x2⟩ := H3.out.2.1.cell
    have y3 : ∀ i, w3.frozen? ⟨w.heap.size + 1, i, none⟩ = false := H3.out.2.2.1.frozen
    have z3 : ∀ i, w3.frozen? ⟨w.heap.size + 1 + 1, i, none⟩ = false := H3.out.2.2.2.frozen
    obtain ⟨y4, y5⟩ := H3.out.2.2.1.cell
    have HZ : PBox w3 (w.heap.size + 1 + 1) emp emp := H3.out.2.2.2
    obtain ⟨z4, z5⟩ := HZ.cell
    clear HZ
    have HS0 : G1 w.heap.size a b w3 := ⟨x1, x2⟩
    have n1 : w.heap.size ≠ w.heap.size + 1 := by omega
    have n2 : w.heap.size ≠ w.heap.size + 1 + 1 := by omega
    clear e1 e2
    go_upto_region 5 with (fail)
    go_region_held3 (fun W => W.cell? ⟨w.heap.size, 0, none⟩ = some (.string a) ∧ W.cell? ⟨w.heap.size, 1, none⟩ = some (.string b)) ((show G1 w.heap.size a b _; refine G1.drew ?_; first | (with_reducible exact HS0) | (refine G1.set (G1.set ?_ _ _ (by assumption)) _ _ (by assumption); first | (with_reducible exact HS0) | (refine G1.set (G1.set ?_ _ _ (by assumption)) _ _ (by assumption); with_reducible exact HS0)))) (fail)
    have HF := Lib.hid (H3.out.put a k k b)
    go_wp2_with fail
    obtain ⟨f1, f2, f3⟩ := HF.out
    exact bodyPost_ret (pbox_result3 rfl _ _ (w.heap.size + 1) (w.heap.size + 1 + 1) rfl rfl f2 f3) rfl ⟨rfl, f1⟩

/-! ### Join -/
set_option maxRecDepth 100000 in
set_option maxHeartbeats 1000000 in
theorem fSJoin : FSJoin := by
  intro w a b c d hT
  obtain ⟨p, hp⟩ : ∃ p, p = spR (a, b) := ⟨_, rfl⟩
  obtain ⟨q, hq⟩ : ∃ q, q = spR (c, d) := ⟨_, rfl⟩
  obtain ⟨v, hv⟩ : ∃ v, v = adjB b c := ⟨_, rfl⟩
  have HP : Hid (∀ W, UtfAt W → Calls Tryd.prog 10 #[(Go.Value.agg #[Go.Value.string a, Go.Value.string b])] W fun e w' => e = .returned (.bool p) ∧ Below W.heap.size W w') := fun W hT => by rw [hp]; exact fSRight W a b hT
  have HQ : Hid (∀ W, UtfAt W → Calls Tryd.prog 10 #[(Go.Value.agg #[Go.Value.string c, Go.Value.string d])] W fun e w' => e = .returned (.bool q) ∧ Below W.heap.size W w') := fun W hT => by rw [hq]; exact fSRight W c d hT
  have HV : Hid (∀ W, Calls Tryd.prog 30 #[(Go.Value.agg #[Go.Value.string a, Go.Value.string b]), (Go.Value.agg #[Go.Value.string c, Go.Value.string d])] W fun e w' => e = .returned (.bool v) ∧ Below W.heap.size W w') := fun W => by rw [hv]; exact spAdj_any a b c d W
  have HT := Lib.hid hT
  have HT1 : Hid (UtfAt (((((w.alloc (.cells #[.string a, .string b] 23))).alloc (.cells #[.string c, .string d] 23))).alloc (.cells #[.string emp, .string emp] 23))) := hT.next (J3.new w a b c d).1
  obtain ⟨E, hE⟩ : ∃ E, joinE (a, b) (c, d) = E := ⟨_, rfl⟩
  obtain ⟨X, hX⟩ : ∃ X, (joinS (a, b) (c, d)).1 = X := ⟨_, rfl⟩
  obtain ⟨Y, hY⟩ : ∃ Y, (joinS (a, b) (c, d)).2 = Y := ⟨_, rfl⟩
  rw [hE, hX, hY]
  have hcase : (p = false ∧ E = 1 ∧ X = emp ∧ Y = emp) ∨ (p = true ∧ q = false ∧ E = 1 ∧ X = emp ∧ Y = emp) ∨ (p = true ∧ q = true ∧ v = false ∧ E = 9 ∧ X = emp ∧ Y = emp) ∨ (p = true ∧ q = true ∧ v = true ∧ E = 0 ∧ X = a ∧ Y = d) := by
    have hd : E = (if p && q then (if b.size = 0 ∨ b ≠ c then 9 else 0) else 1) := by rw [← hE, hp, hq]; rfl
    have h9 : E ≠ 0 → X = emp ∧ Y = emp := fun h => by
      have e : joinS (a, b) (c, d) = (emp, emp) := if_neg (by rw [hE]; exact h)
      rw [← hX, ← hY, e]; exact ⟨rfl, rfl⟩
    have h0 : E = 0 → X = a ∧ Y = d := fun h => by
      have e : joinS (a, b) (c, d) = (a, d) := if_pos (hE.trans h)
      rw [← hX, ← hY, e]; exact ⟨rfl, rfl⟩
    have hv2 : v = true ↔ ¬ (b.size = 0 ∨ b ≠ c) := by
      rw [hv]; unfold adjB
      by_cases e1 : b.size = 0 <;> by_cases e2 : b = c <;> simp [e1, e2]
    cases p
    · have e : E = 1 := hd
      exact .inl ⟨rfl, e, h9 (by omega)⟩
    cases q
    · have e : E = 1 := hd
      exact .inr (.inl ⟨rfl, rfl, e, h9 (by omega)⟩)
    have hd : E = if b.size = 0 ∨ b ≠ c then 9 else 0 := hd
    cases v
    · have e : E = 9 := hd.trans (if_pos (Classical.byContradiction fun h => absurd (hv2.2 h) (by decide)))
      exact .inr (.inr (.inl ⟨rfl, rfl, rfl, e, h9 (by omega)⟩))
    · have e : E = 0 := hd.trans (if_neg (hv2.1 rfl))
      exact .inr (.inr (.inr ⟨rfl, rfl, rfl, e, h0 e⟩))
  clear hp hq hv hE hX hY hT
  rcases hcase with ⟨rfl, rfl, rfl, rfl⟩ | ⟨rfl, rfl, rfl, rfl, rfl⟩ | ⟨rfl, rfl, rfl, rfl, rfl, rfl⟩ | ⟨rfl, rfl, rfl, rfl, rfl, rfl⟩
  · clear HQ HV
    go_enter Tryd.func17, Tryd.ntmps17
    go_wp2_with fail
    refine (HP.out _ HT1.out).mono ?_
    rintro e w1 ⟨rfl, hb1⟩
    have H1 := Lib.hid ((J3.new w a b c d).next hb1)
    clear hb1
    go_wp2_with (first | (refine pbox_store (w.heap.size + 2) H1.out.2.2.2 rfl _ _ rfl rfl rfl ?_))
    exact bodyPost_ret (pbox_result2 rfl _ _ (w.heap.size + 2) rfl (H1.out.2.2.2.set _ _)) rfl ⟨rfl, below_setRow H1.out.1 (by omega) _⟩
  · clear HV
    go_enter Tryd.func17, Tryd.ntmps17
    go_wp2_with fail
    refine (HP.out _ HT1.out).mono ?_
    rintro e w1 ⟨rfl, hb1⟩
    have H1 := Lib.hid ((J3.new w a b c d).next hb1)
    clear hb1
    obtain ⟨x1, x2⟩ := H1.out.2.2.1.cell
    go_wp2_with fail
    refine (HQ.out _ (HT.out.next H1.out.1)).mono ?_
    rintro e w2 ⟨rfl, hb2⟩
    have H2 := Lib.hid (H1.out.next hb2)
    clear hb2 H1 x1 x2
    go_wp2_with (first | (refine pbox_store (w.heap.size + 2) H2.out.2.2.2 rfl _ _ rfl rfl rfl ?_))
    exact bodyPost_ret (pbox_result2 rfl _ _ (w.heap.size + 2) rfl (H2.out.2.2.2.set _ _)) rfl ⟨rfl, below_setRow H2.out.1 (by omega) _⟩
  · skip
    go_enter Tryd.func17, Tryd.ntmps17
    go_wp2_with fail
    refine (HP.out _ HT1.out).mono ?_
    rintro e w1 ⟨rfl, hb1⟩
    have H1 := Lib.hid ((J3.new w a b c d).next hb1)
    clear hb1
    obtain ⟨x1, x2⟩ := H1.out.2.2.1.cell
    go_wp2_with fail
    refine (HQ.out _ (HT.out.next H1.out.1)).mono ?_
    rintro e w2 ⟨rfl, hb2⟩
    have H2 := Lib.hid (H1.out.next hb2)
    clear hb2 H1 x1 x2
    obtain ⟨x1, x2⟩ := H2.out.2.1.cell
    obtain ⟨y1, y2⟩ := H2.out.2.2.1.cell
    go_wp2_with (first | (refine pbox_load w.heap.size H2.out.2.1 rfl _ rfl rfl ?_) | (refine pbox_load (w.heap.size + 1) H2.out.2.2.1 rfl _ rfl rfl ?_))
    refine (HV.out _).mono ?_
    rintro e w3 ⟨rfl, hb3⟩
    have H3 := Lib.hid (H2.out.next hb3)
    clear hb3 H2 x1 x2 y1 y2
    go_wp2_with (first | (refine pbox_store (w.heap.size + 2) H3.out.2.2.2 rfl _ _ rfl rfl rfl ?_))
    exact bodyPost_ret (pbox_result2 rfl _ _ (w.heap.size + 2) rfl (H3.out.2.2.2.set _ _)) rfl ⟨rfl, below_setRow H3.out.1 (by omega) _⟩
  · skip
    go_enter Tryd.func17, Tryd.ntmps17
    go_wp2_with fail
    refine (HP.out _ HT1.out).mono ?_
    rintro e w1 ⟨rfl, hb1⟩
    have H1 := Lib.hid ((J3.new w _ _ _ _).next hb1)
    clear hb1
    obtain ⟨x1, x2⟩ := H1.out.2.2.1.cell
    go_wp2_with fail
    refine (HQ.out _ (HT.out.next H1.out.1)).mono ?_
    rintro e w2 ⟨rfl, hb2⟩
    have H2 := Lib.hid (H1.out.next hb2)
    clear hb2 H1 x1 x2
    obtain ⟨x1, x2⟩ := H2.out.2.1.cell
    obtain ⟨y1, y2⟩ := H2.out.2.2.1.cell
    go_wp2_with (first | (refine pbox_load w.heap.size H2.out.2.1 rfl _ rfl rfl ?_) | (refine pbox_load (w.heap.size + 1) H2.out.2.2.1 rfl _ rfl rfl ?_))
    refine (HV.out _).mono ?_
    rintro e w3 ⟨rfl, hb3⟩
    have H3 := Lib.hid (H2.out.next hb3)
    clear hb3 H2 x1 x2 y1 y2
    obtain ⟨x1, x2⟩ := H3.out.2.1.cell
    obtain ⟨y1, y2⟩ := H3.out.2.2.1.cell
    go_wp2_with (first | (refine pbox_store (w.heap.size + 2) H3.out.2.2.2 rfl _ _ rfl rfl rfl ?_))
    exact bodyPost_ret (pbox_result2 rfl _ _ (w.heap.size + 2) rfl (H3.out.2.2.2.set _ _)) rfl ⟨rfl, below_setRow H3.out.1 (by omega) _⟩

/-! ### Meet -/
set_option maxRecDepth 100000 in
set_option maxHeartbeats 1000000 in
theorem fSMeet : FSMeet := by
  intro w a b c d hT
  obtain ⟨p, hp⟩ : ∃ p, p = spR (a, b) := ⟨_, rfl⟩
  obtain ⟨q, hq⟩ : ∃ q, q = spR (c, d) := ⟨_, rfl⟩
  obtain ⟨r, hr⟩ : ∃ r, r = blw a d := ⟨_, rfl⟩
  obtain ⟨u, hu⟩ : ∃ u, u = blw c b := ⟨_, rfl⟩
  have HP : Hid (∀ W, UtfAt W → Calls Tryd.prog 10 #[(Go.Value.agg #[Go.Value.string a, Go.Value.string b])] W fun e w' => e = .returned (.bool p) ∧ Below W.heap.size W w') := fun W hT => by rw [hp]; exact fSRight W a b hT
  have HQ : Hid (∀ W, UtfAt W → Calls Tryd.prog 10 #[(Go.Value.agg #[Go.Value.string c, Go.Value.string d])] W fun e w' => e = .returned (.bool q) ∧ Below W.heap.size W w') := fun W hT => by rw [hq]; exact fSRight W c d hT
  have HR : Hid (∀ W, UtfAt W → Calls Tryd.prog 25 #[.string a, .string d] W fun e w' => e = .returned (.bool r) ∧ Below W.heap.size W w') := fun W hT => by rw [hr]; exact spBelow_any a d W hT
  have HU : Hid (∀ W, UtfAt W → Calls Tryd.prog 25 #[.string c, .string b] W fun e w' => e = .returned (.bool u) ∧ Below W.heap.size W w') := fun W hT => by rw [hu]; exact spBelow_any c b W hT
  have HX : Hid (meetB (a, b) (c, d) = (p && (q && (r && u)))) := by show _ = _; rw [hp, hq, hr, hu]; rfl
  have HT := Lib.hid hT
  have HT1 : Hid (UtfAt (((w.alloc (.cells #[.string a, .string b] 23))).alloc (.cells #[.string c, .string d] 23))) := hT.next (K2s.new w a b c d).1
  clear hp hq hr hu hT
  cases p
  · clear HQ HR HU
    go_enter Tryd.func20, Tryd.ntmps20
    go_wp2_with fail
    refine (HP.out _ HT1.out).mono ?_
    rintro e w1 ⟨rfl, hb1⟩
    have H1 := Lib.hid ((K2s.new w a b c d).next hb1)
    clear hb1
    go_wp2_with fail
    go_ret
    exact ⟨by rw [HX.out]; rfl, H1.out.1⟩
  cases q
  · clear HR HU
    go_enter Tryd.func20, Tryd.ntmps20
    go_wp2_with fail
    refine (HP.out _ HT1.out).mono ?_
    rintro e w1 ⟨rfl, hb1⟩
    have H1 := Lib.hid ((K2s.new w a b c d).next hb1)
    clear hb1
    obtain ⟨x1, x2⟩ := H1.out.2.1.cell
    obtain ⟨y1, y2⟩ := H1.out.2.2.cell
    go_wp2_with fail
    refine (HQ.out _ (HT.out.next H1.out.1)).mono ?_
    rintro e w2 ⟨rfl, hb2⟩
    have H2 := Lib.hid (H1.out.next hb2)
    clear hb2 H1 x1 x2 y1 y2
    go_wp2_with fail
    go_ret
    exact ⟨by rw [HX.out]; rfl, H2.out.1⟩
  cases r
  · clear HU
    go_enter Tryd.func20, Tryd.ntmps20
    go_wp2_with fail
    refine (HP.out _ HT1.out).mono ?_
    rintro e w1 ⟨rfl, hb1⟩
    have H1 := Lib.hid ((K2s.new w a b c d).next hb1)
    clear hb1
    obtain ⟨x1, x2⟩ := H1.out.2.1.cell
    obtain ⟨y1, y2⟩ := H1.out.2.2.cell
    go_wp2_with fail
    refine (HQ.out _ (HT.out.next H1.out.1)).mono ?_
    rintro e w2 ⟨rfl, hb2⟩
    have H2 := Lib.hid (H1.out.next hb2)
    clear hb2 H1 x1 x2 y1 y2
    obtain ⟨x1, x2⟩ := H2.out.2.1.cell
    obtain ⟨y1, y2⟩ := H2.out.2.2.cell
    go_wp2_with fail
    refine (HR.out _ (HT.out.next H2.out.1)).mono ?_
    rintro e w3 ⟨rfl, hb3⟩
    have H3 := Lib.hid (H2.out.next hb3)
    clear hb3 H2 x1 x2 y1 y2
    go_wp2_with fail
    go_ret
    exact ⟨by rw [HX.out]; rfl, H3.out.1⟩
  · skip
    go_enter Tryd.func20, Tryd.ntmps20
    go_wp2_with fail
    refine (HP.out _ HT1.out).mono ?_
    rintro e w1 ⟨rfl, hb1⟩
    have H1 := Lib.hid ((K2s.new w a b c d).next hb1)
    clear hb1
    obtain ⟨x1, x2⟩ := H1.out.2.1.cell
    obtain ⟨y1, y2⟩ := H1.out.2.2.cell
    go_wp2_with fail
    refine (HQ.out _ (HT.out.next H1.out.1)).mono ?_
    rintro e w2 ⟨rfl, hb2⟩
    have H2 := Lib.hid (H1.out.next hb2)
    clear hb2 H1 x1 x2 y1 y2
    obtain ⟨x1, x2⟩ := H2.out.2.1.cell
    obtain ⟨y1, y2⟩ := H2.out.2.2.cell
    go_wp2_with fail
    refine (HR.out _ (HT.out.next H2.out.1)).mono ?_
    rintro e w3 ⟨rfl, hb3⟩
    have H3 := Lib.hid (H2.out.next hb3)
    clear hb3 H2 x1 x2 y1 y2
    obtain ⟨x1, x2⟩ := H3.out.2.1.cell
    obtain ⟨y1, y2⟩ := H3.out.2.2.cell
    go_wp2_with fail
    refine (HU.out _ (HT.out.next H3.out.1)).mono ?_
    rintro e w4 ⟨rfl, hb4⟩
    have H4 := Lib.hid (H3.out.next hb4)
    clear hb4 H3 x1 x2 y1 y2
    go_wp2_with fail
    go_ret
    exact ⟨by rw [HX.out]; rfl, H4.out.1⟩

/-! ### Whole -/
theorem lnk_zero (l : List Spn) : lnk l 0 = spR (sat l 0) := by unfold lnk; simp
theorem lnk_succ (l : List Spn) (m : Nat) : lnk l (m + 1) = (spR (sat l (m + 1)) && adjB (sat l m).2 (sat l (m + 1)).1) := by
  unfold lnk adjB
  rw [decide_eq_false (by omega : ¬ m + 1 = 0), Bool.false_or, Nat.add_sub_cancel]
  congr 1
  by_cases h : (sat l (m + 1)).1 = (sat l m).2
  · rw [h, decide_eq_true rfl]
    by_cases h2 : (sat l m).2.size = 0
    · rw [decide_eq_false (by omega), decide_eq_true h2]; rfl
    · rw [decide_eq_true (by omega), decide_eq_false h2]; rfl
  · have h' : ¬ (sat l m).2 = (sat l (m + 1)).1 := fun e => h e.symm
    simp [h, h']
theorem whole_lo {l : List Spn} (h : ¬ (sat l 0).1.size = 0) : wholeB l = false := by unfold wholeB; exact decide_eq_false fun h2 => h h2.2.2.1
theorem whole_hi {l : List Spn} (h : ¬ (sat l (l.length - 1)).2.size = 0) : wholeB l = false := by unfold wholeB; exact decide_eq_false fun h2 => h h2.2.2.2
theorem whole_yes {l : List Spn} (h : 0 < l.length) (h2 : ∀ i, i < l.length → lnk l i = true) (h3 : (sat l 0).1.size = 0) (h4 : (sat l (l.length - 1)).2.size = 0) : wholeB l = true := by unfold wholeB; exact decide_eq_true ⟨h, h2, h3, h4⟩
set_option maxRecDepth 100000 in
set_option maxHeartbeats 2000000 in
theorem fSWhole : FSWhole := by
  intro w v l hT hv
  obtain ⟨ao, n, cap, rfl, hl, hle, hmx, hn, hrow⟩ := hv.opened
  have HL := Lib.hid hl
  have HT := Lib.hid hT
  obtain ⟨R, hR⟩ : ∃ R, R = wholeB l := ⟨_, rfl⟩
  rw [← hR]
  have HR := Lib.hid hR
  clear hR hT hv hle hmx hl
  rcases Nat.eq_zero_or_pos n with rfl | hp
  · have hR0 : R = false := by rw [HR.out]; unfold wholeB; exact decide_eq_false fun h => by have := HL.out; omega
    subst hR0
    clear hrow
    go_enter Tryd.func21, Tryd.ntmps21
    go_wp2_with fail
    go_ret
    exact ⟨rfl, Below.refl _ _⟩
  obtain ⟨b, off, rfl, hb, hcl⟩ := hrow hp
  obtain ⟨m, hm⟩ : ∃ m, n = m + 1 := ⟨n - 1, by omega⟩
  have c0 := (hcl 0 hp).1
  rw [Nat.zero_mul, Nat.add_zero] at c0
  have d0 := (hcl m (by omega)).2
  have q1 := IntWalk.i64_in (m : Int) (by omega)
  have q2 : ((n : Int) == 0) = false := beq_eq_false_iff_ne.2 (by omega)
  have q3 : m < n := by omega
  have q4 : (n : Int) - 1 = (m : Int) := by omega
  have q5 : ¬ n = 0 := by omega
  have l0 : (0 : Int) < (n : Int) := by omega
  obtain ⟨lo, hlo⟩ : ∃ lo, lo = (sat l 0).1 := ⟨_, rfl⟩
  obtain ⟨hi, hhi⟩ : ∃ hi, hi = (sat l m).2 := ⟨_, rfl⟩
  rw [← hlo] at c0
  rw [← hhi] at d0
  have HLO := Lib.hid hlo
  have HHI := Lib.hid hhi
  have HM := Lib.hid hm
  have HCL := Lib.hid hcl
  have HB := Lib.hid hb
  clear hlo hhi hm hrow hcl hb
  by_cases h0 : lo.size = 0
  · obtain rfl : lo = ({ data := #[] } : ByteArray) := emp_of h0
    clear h0
    by_cases h1 : hi.size = 0
    · obtain rfl : hi = ({ data := #[] } : ByteArray) := emp_of h1
      clear h1
      go_enter Tryd.func21, Tryd.ntmps21
      go_wp2_with fail
      clear c0 d0
      go_loopw [27] (fun i wr => ∃ k : Nat, k ≤ n ∧ i = .int .i64 k ∧ Hid (∀ j, j < k → lnk l j = true) ∧ Hid (Below w.heap.size w wr)) (fun i _ => n - (intOf i).toNat)
      case atStart => exact ⟨0, Nat.zero_le _, rfl, fun j hj => absurd hj (Nat.not_lt_zero _), Below.refl _ _⟩
      case round =>
        obtain ⟨k, hk, rfl, hok, hbel⟩ := hrel
        by_cases hlt : k < n
        · obtain ⟨x, hx⟩ : ∃ x, x = (sat l k).1 := ⟨_, rfl⟩
          obtain ⟨y, hy⟩ : ∃ y, y = (sat l k).2 := ⟨_, rfl⟩
          have HK : Hid (SpanAt wr b (off + k * 2) (x, y)) := by
            rw [hx, hy]; exact (HCL.out k hlt).next hbel.out HB.out
          obtain ⟨p, hp1⟩ : ∃ p, p = spR (x, y) := ⟨_, rfl⟩
          have HP : Hid (∀ W, Below w.heap.size w W → Calls Tryd.prog 10 #[(Go.Value.agg #[Go.Value.string x, Go.Value.string y])] W fun e w' => e = .returned (.bool p) ∧ Below W.heap.size W w') := fun W hW => by rw [hp1]; exact fSRight W x y (HT.out.next hW)
          obtain ⟨k0, k1⟩ := HK.out
          dsimp only at k0 k1
          clear q1 q2 q3 q4 q5 l0
          have hxy : sat l k = (x, y) := by rw [hx, hy]
          have HXY := Lib.hid hxy
          have HPP := Lib.hid hp1
          clear hx hy hxy hp1
          rcases Nat.eq_zero_or_pos k with rfl | hk0
          · have HLK : Hid (lnk l 0 = p) := by show _ = _; rw [lnk_zero, HXY.out, HPP.out]
            rw [Nat.zero_mul, Nat.add_zero] at k0 k1
            go_upto_region 6 with (fail)
            have H1 := Lib.hid (WRl.new hbel.out x y)
            clear k0 k1 HK
            generalize hw1 : wr.alloc _ = w1 at H1 ⊢
            generalize hg : wr.heap.size = g at H1 ⊢
            clear hw1 hg
            cases p
            · have hR0 : R = false := by rw [HR.out]; exact whole_at (i := 0) (by rw [HL.out]; exact hlt) HLK.out
              subst hR0
              refine wp_region_calm (WRl w g x y) (by kernel_rfl) (by kernel_rfl) (H1.out.next ((Below.refl _ _).drew)) ?_
              repeat ((with_reducible refine wpQuiet_step (fun K hK => ?_)); go_simp; first | (refine hK _ ?_; clear hK K) | (apply Exists.intro; refine ⟨fun wc hwc => ?_, hK _ ?_⟩; (focus (first | (first | (go_at_call 10; refine (HP.out _ hwc.1).mono ?_; rintro e w1 ⟨rfl, hb1⟩; exact ⟨rfl, hwc.next hb1⟩)) | (((obtain ⟨_, _, hx⟩ := hwc; obtain ⟨x0, x1⟩ := hx.cell; clear hx)); go_simp; done) | (((obtain ⟨_, _, hx⟩ := hwc; obtain ⟨x0, x1⟩ := hx.cell; clear hx)); go_simp; exact rfl))); clear hK K))
              refine wpQuiet_nil ?_
              intro wc hwc
              go_wp2_with fail
              go_ret
              exact ⟨rfl, hwc.1⟩
            · have HN : Hid (∀ j, j < 0 + 1 → lnk l j = true) := by
                intro j hj
                obtain rfl : j = 0 := by omega
                exact HLK.out
              refine wp_region_calm (WRl w g x y) (by kernel_rfl) (by kernel_rfl) (H1.out.next ((Below.refl _ _).drew)) ?_
              repeat ((with_reducible refine wpQuiet_step (fun K hK => ?_)); go_simp; first | (refine hK _ ?_; clear hK K) | (apply Exists.intro; refine ⟨fun wc hwc => ?_, hK _ ?_⟩; (focus (first | (first | (go_at_call 10; refine (HP.out _ hwc.1).mono ?_; rintro e w1 ⟨rfl, hb1⟩; exact ⟨rfl, hwc.next hb1⟩)) | (((obtain ⟨_, _, hx⟩ := hwc; obtain ⟨x0, x1⟩ := hx.cell; clear hx)); go_simp; done) | (((obtain ⟨_, _, hx⟩ := hwc; obtain ⟨x0, x1⟩ := hx.cell; clear hx)); go_simp; exact rfl))); clear hK K))
              refine wpQuiet_nil ?_
              intro wc hwc
              go_wp2_with fail
              go_roundw
              case rel => exact ⟨0 + 1, by omega, by go_num, HN, hwc.1⟩
              case measure => simp [intOf]; omega
          · obtain ⟨r, hr⟩ : ∃ r, k = r + 1 := ⟨k - 1, by omega⟩
            obtain ⟨c, hc⟩ : ∃ c, c = (sat l r).1 := ⟨_, rfl⟩
            obtain ⟨d, hd⟩ : ∃ d, d = (sat l r).2 := ⟨_, rfl⟩
            have HK2 : Hid (SpanAt wr b (off + r * 2) (c, d)) := by
              rw [hc, hd]; exact (HCL.out r (by omega)).next hbel.out HB.out
            obtain ⟨v, hv⟩ : ∃ v, v = adjB d x := ⟨_, rfl⟩
            have HV : Hid (∀ W, Calls Tryd.prog 30 #[(Go.Value.agg #[Go.Value.string c, Go.Value.string d]), (Go.Value.agg #[Go.Value.string x, Go.Value.string y])] W fun e w' => e = .returned (.bool v) ∧ Below W.heap.size W w') := fun W => by rw [hv]; exact spAdj_any c d x y W
            have HLK : Hid (lnk l k = (p && v)) := by
              show _ = _
              have e := HXY.out
              rw [hr] at e ⊢
              rw [lnk_succ, e, ← hd, HPP.out, hv]
            have s1 := IntWalk.i64_in (r : Int) (by omega)
            have s2 : decide (0 < (k : Int)) = true := decide_eq_true (by omega)
            have s3 : r < n := by omega
            have s4 : (k : Int) - 1 = (r : Int) := by omega
            have s5 : ¬ k = 0 := by omega
            have HRR := Lib.hid hr
            clear hc hd hv hr
            go_upto_region 6 with (fail)
            have H1 := Lib.hid (WC.of (WRl.new hbel.out x y) HB.out (SpanAt.next HK2.out (((Below.refl wr.heap.size wr).alloc (Nat.le_refl _) _)) (Nat.lt_of_lt_of_le HB.out hbel.out.size)))
            clear k0 k1 HK HK2
            generalize hw1 : wr.alloc _ = w1 at H1 ⊢
            generalize hg : wr.heap.size = g at H1 ⊢
            clear hw1 hg
            cases p
            · have hR0 : R = false := by rw [HR.out]; exact whole_at (i := k) (by rw [HL.out]; exact hlt) HLK.out
              subst hR0
              refine wp_region_calm (WC w g b (off + r * 2) x y c d) (by kernel_rfl) (by kernel_rfl) (H1.out.next ((Below.refl _ _).drew)) ?_
              repeat ((with_reducible refine wpQuiet_step (fun K hK => ?_)); go_simp; first | (refine hK _ ?_; clear hK K) | (apply Exists.intro; refine ⟨fun wc hwc => ?_, hK _ ?_⟩; (focus (first | (first | (go_at_call 10; refine (HP.out _ hwc.2.2.2.2.1.1).mono ?_; rintro e w1 ⟨rfl, hb1⟩; exact ⟨rfl, hwc.next hb1⟩) | (go_at_call 30; refine (HV.out _).mono ?_; rintro e w1 ⟨rfl, hb1⟩; exact ⟨rfl, hwc.next hb1⟩)) | (((obtain ⟨x0, x1, y0, y1, _⟩ := hwc)); go_simp; done) | (((obtain ⟨x0, x1, y0, y1, _⟩ := hwc)); go_simp; exact rfl))); clear hK K))
              refine wpQuiet_nil ?_
              intro wc hwc
              go_wp2_with fail
              go_ret
              exact ⟨rfl, hwc.2.2.2.2.1.1⟩
            cases v
            · have hR0 : R = false := by rw [HR.out]; exact whole_at (i := k) (by rw [HL.out]; exact hlt) HLK.out
              subst hR0
              refine wp_region_calm (WC w g b (off + r * 2) x y c d) (by kernel_rfl) (by kernel_rfl) (H1.out.next ((Below.refl _ _).drew)) ?_
              repeat ((with_reducible refine wpQuiet_step (fun K hK => ?_)); go_simp; first | (refine hK _ ?_; clear hK K) | (apply Exists.intro; refine ⟨fun wc hwc => ?_, hK _ ?_⟩; (focus (first | (first | (go_at_call 10; refine (HP.out _ hwc.2.2.2.2.1.1).mono ?_; rintro e w1 ⟨rfl, hb1⟩; exact ⟨rfl, hwc.next hb1⟩) | (go_at_call 30; refine (HV.out _).mono ?_; rintro e w1 ⟨rfl, hb1⟩; exact ⟨rfl, hwc.next hb1⟩)) | (((obtain ⟨x0, x1, y0, y1, _⟩ := hwc)); go_simp; done) | (((obtain ⟨x0, x1, y0, y1, _⟩ := hwc)); go_simp; exact rfl))); clear hK K))
              refine wpQuiet_nil ?_
              intro wc hwc
              go_wp2_with fail
              go_ret
              exact ⟨rfl, hwc.2.2.2.2.1.1⟩
            · have HN : Hid (∀ j, j < k + 1 → lnk l j = true) := by
                intro j hj
                by_cases hjk : j < k
                · exact hok.out j hjk
                · obtain rfl : j = k := by omega
                  exact HLK.out
              refine wp_region_calm (WC w g b (off + r * 2) x y c d) (by kernel_rfl) (by kernel_rfl) (H1.out.next ((Below.refl _ _).drew)) ?_
              repeat ((with_reducible refine wpQuiet_step (fun K hK => ?_)); go_simp; first | (refine hK _ ?_; clear hK K) | (apply Exists.intro; refine ⟨fun wc hwc => ?_, hK _ ?_⟩; (focus (first | (first | (go_at_call 10; refine (HP.out _ hwc.2.2.2.2.1.1).mono ?_; rintro e w1 ⟨rfl, hb1⟩; exact ⟨rfl, hwc.next hb1⟩) | (go_at_call 30; refine (HV.out _).mono ?_; rintro e w1 ⟨rfl, hb1⟩; exact ⟨rfl, hwc.next hb1⟩)) | (((obtain ⟨x0, x1, y0, y1, _⟩ := hwc)); go_simp; done) | (((obtain ⟨x0, x1, y0, y1, _⟩ := hwc)); go_simp; exact rfl))); clear hK K))
              refine wpQuiet_nil ?_
              intro wc hwc
              go_wp2_with fail
              go_roundw
              case rel => exact ⟨k + 1, by omega, by go_num, HN, hwc.2.2.2.2.1.1⟩
              case measure => simp [intOf]; omega
        · have hR0 : R = true := by
            rw [HR.out]
            exact whole_yes (by rw [HL.out]; exact hp) (fun i hi => hok.out i (by rw [HL.out] at hi; omega)) (by rw [← HLO.out]; rfl) (by rw [HL.out, HM.out, Nat.add_sub_cancel, ← HHI.out]; rfl)
          subst hR0
          go_wp2_with fail
          go_ret
          exact ⟨rfl, hbel.out⟩
    · have hR0 : R = false := by rw [HR.out]; exact whole_hi (by rw [HL.out, HM.out, Nat.add_sub_cancel, ← HHI.out]; exact h1)
      subst hR0
      obtain ⟨t1, t2, t3, t4, t6⟩ := nemp hi h1
      clear h1
      go_enter Tryd.func21, Tryd.ntmps21
      go_wp2_with fail
      go_ret
      exact ⟨rfl, Below.refl _ _⟩
  · have hR0 : R = false := by rw [HR.out]; exact whole_lo (by rw [← HLO.out]; exact h0)
    subst hR0
    obtain ⟨t1, t2, t3, t4, t6⟩ := nemp lo h0
    clear h0 d0
    go_enter Tryd.func21, Tryd.ntmps21
    go_wp2_with fail
    go_ret
    exact ⟨rfl, Below.refl _ _⟩

end Go.Proofs.YtpmellfgmlgknaaDoor
