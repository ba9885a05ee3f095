/-
  The contract of the document's Meet.
-/
import Derived.Test.YtpmellfgmlgknaaDoorSpRefCut
set_option linter.unusedVariables false
namespace Go.Proofs.YtpmellfgmlgknaaDoor
open Go.RowKit

/-- Two spans' blocks. -/
def K2s (w : World) (a b c d : ByteArray) (w1 : World) : Prop := Below w.heap.size w w1 ∧ PBox w1 w.heap.size a b ∧ PBox w1 (w.heap.size + 1) c d
theorem K2s.new (w : World) (a b c d : ByteArray) : K2s w a b c d (((w.alloc (.cells #[.string a, .string b] 23))).alloc (.cells #[.string c, .string d] 23)) := by
  refine ⟨((Below.refl w.heap.size w).alloc (Nat.le_refl _) _).alloc (by simp) _, (PBox.new w a b).alloc _, ?_⟩
  have h := PBox.new (w.alloc (.cells #[.string a, .string b] 23)) c d
  rwa [psize_alloc] at h
theorem K2s.next {w w1 w2 : World} {a b c d : ByteArray} (H : K2s w a b c d w1) (hb : Below w1.heap.size w1 w2) : K2s w a b c d w2 :=
  ⟨H.1.trans (hb.mono H.1.size), H.2.1.over hb, H.2.2.over hb⟩
/-- And the block of their common room. -/
def K3s (w : World) (a b c d : ByteArray) (g : Nat) (x y : ByteArray) (w1 : World) : Prop := K2s w a b c d w1 ∧ w.heap.size + 2 ≤ g ∧ PBox w1 g x y
theorem K3s.new {w w1 : World} {a b c d : ByteArray} (H : K2s w a b c d w1) : K3s w a b c d w1.heap.size a b (w1.alloc (.cells #[.string a, .string b] 23)) :=
  ⟨H.next ((Below.refl _ _).alloc (Nat.le_refl _) _), H.2.2.lt, PBox.new w1 a b⟩
theorem K3s.next {w w1 w2 : World} {a b c d x y : ByteArray} {g : Nat} (H : K3s w a b c d g x y w1) (hb : Below w1.heap.size w1 w2) : K3s w a b c d g x y w2 :=
  ⟨H.1.next hb, H.2.1, H.2.2.over hb⟩
theorem K2s.off {w w1 : World} {a b c d : ByteArray} (H : K2s w a b c d w1) (p : Addr) (v : Value) (h : w.heap.size + 2 ≤ p.block) : K2s w a b c d (w1.setCell p v) :=
  ⟨H.1.setCell (by omega) v, H.2.1.off _ _ (by omega), H.2.2.off _ _ (by omega)⟩
theorem K3s.set0 {w w1 : World} {a b c d x y : ByteArray} {g : Nat} (H : K3s w a b c d g x y w1) (u : ByteArray) : K3s w a b c d g u y (w1.setCell ⟨g, 0, none⟩ (.string u)) :=
  ⟨H.1.off _ _ H.2.1, H.2.1, H.2.2.set0 u⟩
theorem K3s.set1 {w w1 : World} {a b c d x y : ByteArray} {g : Nat} (H : K3s w a b c d g x y w1) (u : ByteArray) : K3s w a b c d g x u (w1.setCell ⟨g, 1, none⟩ (.string u)) :=
  ⟨H.1.off _ _ H.2.1, H.2.1, H.2.2.set1 u⟩

set_option maxRecDepth 100000 in
set_option maxHeartbeats 800000 in
theorem spRefMeet_any (a b c d : ByteArray) (w : World) : Calls Tryd.prog 19 #[(Go.Value.agg #[Go.Value.string a, Go.Value.string b]), (Go.Value.agg #[Go.Value.string c, Go.Value.string d])] w fun e w' => e = .returned (.bool (meetB (a, b) (c, d))) ∧ Below w.heap.size w w' := by
  obtain ⟨p, hp⟩ : ∃ p, p = spR (a, b) := ⟨_, rfl⟩
  obtain ⟨q, hq⟩ : ∃ q, q = spR (c, d) := ⟨_, rfl⟩
  obtain ⟨m, hm⟩ : ∃ m, m = Ky.compare c a := ⟨_, rfl⟩
  obtain ⟨n, hn⟩ : ∃ n, n = Ky.compare d b := ⟨_, rfl⟩
  obtain ⟨R, hR⟩ : ∃ R, R = meetB (a, b) (c, d) := ⟨_, rfl⟩
  rw [← hR]
  have HP : Hid (∀ W, Calls Tryd.prog 11 #[(Go.Value.agg #[Go.Value.string a, Go.Value.string b])] W fun e w' => e = .returned (.bool p) ∧ Below W.heap.size W w') := fun W => by rw [hp]; exact spRefRight_any a b W
  have HQ : Hid (∀ W, Calls Tryd.prog 11 #[(Go.Value.agg #[Go.Value.string c, Go.Value.string d])] W fun e w' => e = .returned (.bool q) ∧ Below W.heap.size W w') := fun W => by rw [hq]; exact spRefRight_any c d W
  cases p
  · have hR0 : R = false := by rw [hR]; unfold meetB; rw [← hp]; rfl
    subst hR0
    clear hp hq hm hn hR HQ
    go_enter Tryd.func19, Tryd.ntmps19
    go_wp2_with fail
    refine (HP.out _).mono ?_
    rintro e w1 ⟨rfl, hb1⟩
    have H1 := Lib.hid ((K2s.new w a b c d).next hb1)
    clear hb1
    go_wp2_with fail
    go_ret
    exact ⟨rfl, H1.out.1⟩
  cases q
  · have hR0 : R = false := by rw [hR]; unfold meetB; rw [← hp, ← hq]; rfl
    subst hR0
    clear hp hq hm hn hR
    go_enter Tryd.func19, Tryd.ntmps19
    go_wp2_with fail
    refine (HP.out _).mono ?_
    rintro e w1 ⟨rfl, hb1⟩
    have H1 := Lib.hid ((K2s.new w a b c d).next hb1)
    clear hb1
    obtain ⟨x1, x2⟩ := H1.out.2.2.cell
    go_wp2_with fail
    refine (HQ.out _).mono ?_
    rintro e w2 ⟨rfl, hb2⟩
    have H2 := Lib.hid (H1.out.next hb2)
    clear hb2 H1 x1 x2
    go_wp2_with fail
    go_ret
    exact ⟨rfl, H2.out.1⟩
  have h1 := spR_size hp.symm
  have h2 := spR_size hq.symm
  dsimp only at h1 h2
  have HM : Hid (∀ W, Calls Tryd.prog 26 #[.string c, .string a] W fun e w' => e = .returned (.int .i64 m) ∧ Below W.heap.size W w') := fun W => by rw [hm]; exact refCompare_any c a W (by omega) (by omega)
  have HN : Hid (∀ W, Calls Tryd.prog 26 #[.string d, .string b] W fun e w' => e = .returned (.int .i64 n) ∧ Below W.heap.size W w') := fun W => by rw [hn]; exact refCompare_any d b W (by omega) (by omega)
  obtain ⟨X, hX⟩ : ∃ X, X = (meetS (a, b) (c, d)).1 := ⟨_, rfl⟩
  obtain ⟨Y, hY⟩ : ∃ Y, Y = (meetS (a, b) (c, d)).2 := ⟨_, rfl⟩
  have HR : Hid (∀ W, Calls Tryd.prog 11 #[(Go.Value.agg #[Go.Value.string X, Go.Value.string Y])] W fun e w' => e = .returned (.bool R) ∧ Below W.heap.size W w') := fun W => by rw [hR, ← meet_doc hp.symm hq.symm, show meetS (a, b) (c, d) = (X, Y) by rw [hX, hY]]; exact spRefRight_any X Y W
  have hX2 : X = if 0 < m then c else a := by rw [hX, hm]; rfl
  have hY2 : Y = if 0 < d.size ∧ (b.size = 0 ∨ n < 0) then d else b := by rw [hY, hn]; rfl
  clear hp hq hm hn hR hX hY h1 h2
  have hx : (decide (0 < m) = true ∧ X = c) ∨ (decide (0 < m) = false ∧ X = a) := by
    by_cases h : 0 < m
    · exact .inl ⟨decide_eq_true h, by rw [hX2, if_pos h]⟩
    · exact .inr ⟨decide_eq_false h, by rw [hX2, if_neg h]⟩
  have hy : (decide (0 < d.size) = false ∧ Y = b) ∨ (decide (0 < d.size) = true ∧ ((b.size : Int) == 0) = true ∧ Y = d) ∨ (decide (0 < d.size) = true ∧ ((b.size : Int) == 0) = false ∧ decide (n < 0) = true ∧ Y = d) ∨ (decide (0 < d.size) = true ∧ ((b.size : Int) == 0) = false ∧ decide (n < 0) = false ∧ Y = b) := by
    by_cases h : 0 < d.size
    · by_cases h2 : b.size = 0
      · exact .inr (.inl ⟨decide_eq_true h, by rw [h2]; rfl, by rw [hY2, if_pos ⟨h, .inl h2⟩]⟩)
      · by_cases h3 : n < 0
        · exact .inr (.inr (.inl ⟨decide_eq_true h, beq_eq_false_iff_ne.2 (by omega), decide_eq_true h3, by rw [hY2, if_pos ⟨h, .inr h3⟩]⟩))
        · exact .inr (.inr (.inr ⟨decide_eq_true h, beq_eq_false_iff_ne.2 (by omega), decide_eq_false h3, by rw [hY2, if_neg (fun h4 => h4.2.elim h2 h3)]⟩))
    · exact .inl ⟨decide_eq_false h, by rw [hY2, if_neg (fun h4 => h h4.1)]⟩
  clear hX2 hY2
  rcases hx with ⟨hx, rfl⟩ | ⟨hx, rfl⟩
  · rcases hy with ⟨hy, rfl⟩ | ⟨hy, hz, rfl⟩ | ⟨hy, hz, hn, rfl⟩ | ⟨hy, hz, hn, rfl⟩
    · go_enter Tryd.func19, Tryd.ntmps19
      go_wp2_with fail
      refine (HP.out _).mono ?_
      rintro e w1 ⟨rfl, hb1⟩
      have H1 := Lib.hid ((K2s.new w _ _ _ _).next hb1)
      clear hb1
      obtain ⟨x1, x2⟩ := H1.out.2.2.cell
      go_wp2_with fail
      refine (HQ.out _).mono ?_
      rintro e w2 ⟨rfl, hb2⟩
      have H2 := Lib.hid (H1.out.next hb2)
      clear hb2 H1 x1 x2
      obtain ⟨x1, x2⟩ := H2.out.2.1.cell
      go_upto_region 4 with (fail)
      have H3 := Lib.hid (K3s.new H2.out)
      clear x1 x2
      generalize hw3 : w2.alloc _ = w3 at H3 ⊢
      clear hw3
      generalize hg : w2.heap.size = g at H3 ⊢
      clear hg H2 w2
      obtain ⟨x1, x2⟩ := H3.out.1.2.2.cell
      obtain ⟨y1, y2⟩ := H3.out.2.2.cell
      go_wp2_with fail
      refine (HM.out _).mono ?_
      rintro e w4 ⟨rfl, hb4⟩
      have H4 := Lib.hid (H3.out.next hb4)
      clear hb4 H3 x1 x2 y1 y2
      obtain ⟨x1, x2⟩ := H4.out.1.2.2.cell
      obtain ⟨y1, y2⟩ := H4.out.2.2.cell
      have y3 : ∀ i, w4.frozen? ⟨g, i, none⟩ = false := H4.out.2.2.frozen
      go_upto_region 6 with (fail)
      have H5 := Lib.hid (H4.out.set0 X)
      generalize hw5 : w4.setCell _ _ = w5 at H5 ⊢
      clear hw5 y3 x1 x2 y1 y2 H4
      obtain ⟨x1, x2⟩ := H5.out.1.2.2.cell
      obtain ⟨y1, y2⟩ := H5.out.2.2.cell
      have H6 := H5
      clear H5
      have H7 := H6
      clear H6
      go_wp2_with fail
      refine (HR.out _).mono ?_
      rintro e w8 ⟨rfl, hb8⟩
      go_wp2_with fail
      go_ret
      exact ⟨rfl, H7.out.1.1.trans (hb8.mono H7.out.1.1.size)⟩
    · go_enter Tryd.func19, Tryd.ntmps19
      go_wp2_with fail
      refine (HP.out _).mono ?_
      rintro e w1 ⟨rfl, hb1⟩
      have H1 := Lib.hid ((K2s.new w _ _ _ _).next hb1)
      clear hb1
      obtain ⟨x1, x2⟩ := H1.out.2.2.cell
      go_wp2_with fail
      refine (HQ.out _).mono ?_
      rintro e w2 ⟨rfl, hb2⟩
      have H2 := Lib.hid (H1.out.next hb2)
      clear hb2 H1 x1 x2
      obtain ⟨x1, x2⟩ := H2.out.2.1.cell
      go_upto_region 4 with (fail)
      have H3 := Lib.hid (K3s.new H2.out)
      clear x1 x2
      generalize hw3 : w2.alloc _ = w3 at H3 ⊢
      clear hw3
      generalize hg : w2.heap.size = g at H3 ⊢
      clear hg H2 w2
      obtain ⟨x1, x2⟩ := H3.out.1.2.2.cell
      obtain ⟨y1, y2⟩ := H3.out.2.2.cell
      go_wp2_with fail
      refine (HM.out _).mono ?_
      rintro e w4 ⟨rfl, hb4⟩
      have H4 := Lib.hid (H3.out.next hb4)
      clear hb4 H3 x1 x2 y1 y2
      obtain ⟨x1, x2⟩ := H4.out.1.2.2.cell
      obtain ⟨y1, y2⟩ := H4.out.2.2.cell
      have y3 : ∀ i, w4.frozen? ⟨g, i, none⟩ = false := H4.out.2.2.frozen
      go_upto_region 6 with (fail)
      have H5 := Lib.hid (H4.out.set0 X)
      generalize hw5 : w4.setCell _ _ = w5 at H5 ⊢
      clear hw5 y3 x1 x2 y1 y2 H4
      obtain ⟨x1, x2⟩ := H5.out.1.2.2.cell
      obtain ⟨y1, y2⟩ := H5.out.2.2.cell
      have H6 := H5
      clear H5
      have y3 : ∀ i, w5.frozen? ⟨g, i, none⟩ = false := H6.out.2.2.frozen
      go_upto_region 8 with (fail)
      have H7 := Lib.hid (H6.out.set1 Y)
      generalize hw7 : w5.setCell _ _ = w7 at H7 ⊢
      clear hw7 y3 x1 x2 y1 y2 H6
      obtain ⟨y1, y2⟩ := H7.out.2.2.cell
      go_wp2_with fail
      refine (HR.out _).mono ?_
      rintro e w8 ⟨rfl, hb8⟩
      go_wp2_with fail
      go_ret
      exact ⟨rfl, H7.out.1.1.trans (hb8.mono H7.out.1.1.size)⟩
    · go_enter Tryd.func19, Tryd.ntmps19
      go_wp2_with fail
      refine (HP.out _).mono ?_
      rintro e w1 ⟨rfl, hb1⟩
      have H1 := Lib.hid ((K2s.new w _ _ _ _).next hb1)
      clear hb1
      obtain ⟨x1, x2⟩ := H1.out.2.2.cell
      go_wp2_with fail
      refine (HQ.out _).mono ?_
      rintro e w2 ⟨rfl, hb2⟩
      have H2 := Lib.hid (H1.out.next hb2)
      clear hb2 H1 x1 x2
      obtain ⟨x1, x2⟩ := H2.out.2.1.cell
      go_upto_region 4 with (fail)
      have H3 := Lib.hid (K3s.new H2.out)
      clear x1 x2
      generalize hw3 : w2.alloc _ = w3 at H3 ⊢
      clear hw3
      generalize hg : w2.heap.size = g at H3 ⊢
      clear hg H2 w2
      obtain ⟨x1, x2⟩ := H3.out.1.2.2.cell
      obtain ⟨y1, y2⟩ := H3.out.2.2.cell
      go_wp2_with fail
      refine (HM.out _).mono ?_
      rintro e w4 ⟨rfl, hb4⟩
      have H4 := Lib.hid (H3.out.next hb4)
      clear hb4 H3 x1 x2 y1 y2
      obtain ⟨x1, x2⟩ := H4.out.1.2.2.cell
      obtain ⟨y1, y2⟩ := H4.out.2.2.cell
      have y3 : ∀ i, w4.frozen? ⟨g, i, none⟩ = false := H4.out.2.2.frozen
      go_upto_region 6 with (fail)
      have H5 := Lib.hid (H4.out.set0 X)
      generalize hw5 : w4.setCell _ _ = w5 at H5 ⊢
      clear hw5 y3 x1 x2 y1 y2 H4
      obtain ⟨x1, x2⟩ := H5.out.1.2.2.cell
      obtain ⟨y1, y2⟩ := H5.out.2.2.cell
      go_wp2_with fail
      refine (HN.out _).mono ?_
      rintro e w6 ⟨rfl, hb6⟩
      have H6 := Lib.hid (H5.out.next hb6)
      clear hb6 H5 x1 x2 y1 y2
      obtain ⟨x1, x2⟩ := H6.out.1.2.2.cell
      obtain ⟨y1, y2⟩ := H6.out.2.2.cell
      have y3 : ∀ i, w6.frozen? ⟨g, i, none⟩ = false := H6.out.2.2.frozen
      go_upto_region 8 with (fail)
      have H7 := Lib.hid (H6.out.set1 Y)
      generalize hw7 : w6.setCell _ _ = w7 at H7 ⊢
      clear hw7 y3 x1 x2 y1 y2 H6
      obtain ⟨y1, y2⟩ := H7.out.2.2.cell
      go_wp2_with fail
      refine (HR.out _).mono ?_
      rintro e w8 ⟨rfl, hb8⟩
      go_wp2_with fail
      go_ret
      exact ⟨rfl, H7.out.1.1.trans (hb8.mono H7.out.1.1.size)⟩
    · go_enter Tryd.func19, Tryd.ntmps19
      go_wp2_with fail
      refine (HP.out _).mono ?_
      rintro e w1 ⟨rfl, hb1⟩
      have H1 := Lib.hid ((K2s.new w _ _ _ _).next hb1)
      clear hb1
      obtain ⟨x1, x2⟩ := H1.out.2.2.cell
      go_wp2_with fail
      refine (HQ.out _).mono ?_
      rintro e w2 ⟨rfl, hb2⟩
      have H2 := Lib.hid (H1.out.next hb2)
      clear hb2 H1 x1 x2
      obtain ⟨x1, x2⟩ := H2.out.2.1.cell
      go_upto_region 4 with (fail)
      have H3 := Lib.hid (K3s.new H2.out)
      clear x1 x2
      generalize hw3 : w2.alloc _ = w3 at H3 ⊢
      clear hw3
      generalize hg : w2.heap.size = g at H3 ⊢
      clear hg H2 w2
      obtain ⟨x1, x2⟩ := H3.out.1.2.2.cell
      obtain ⟨y1, y2⟩ := H3.out.2.2.cell
      go_wp2_with fail
      refine (HM.out _).mono ?_
      rintro e w4 ⟨rfl, hb4⟩
      have H4 := Lib.hid (H3.out.next hb4)
      clear hb4 H3 x1 x2 y1 y2
      obtain ⟨x1, x2⟩ := H4.out.1.2.2.cell
      obtain ⟨y1, y2⟩ := H4.out.2.2.cell
      have y3 : ∀ i, w4.frozen? ⟨g, i, none⟩ = false := H4.out.2.2.frozen
      go_upto_region 6 with (fail)
      have H5 := Lib.hid (H4.out.set0 X)
      generalize hw5 : w4.setCell _ _ = w5 at H5 ⊢
      clear hw5 y3 x1 x2 y1 y2 H4
      obtain ⟨x1, x2⟩ := H5.out.1.2.2.cell
      obtain ⟨y1, y2⟩ := H5.out.2.2.cell
      go_wp2_with fail
      refine (HN.out _).mono ?_
      rintro e w6 ⟨rfl, hb6⟩
      have H6 := Lib.hid (H5.out.next hb6)
      clear hb6 H5 x1 x2 y1 y2
      obtain ⟨x1, x2⟩ := H6.out.1.2.2.cell
      obtain ⟨y1, y2⟩ := H6.out.2.2.cell
      have H7 := H6
      clear H6
      go_wp2_with fail
      refine (HR.out _).mono ?_
      rintro e w8 ⟨rfl, hb8⟩
      go_wp2_with fail
      go_ret
      exact ⟨rfl, H7.out.1.1.trans (hb8.mono H7.out.1.1.size)⟩
  · rcases hy with ⟨hy, rfl⟩ | ⟨hy, hz, rfl⟩ | ⟨hy, hz, hn, rfl⟩ | ⟨hy, hz, hn, rfl⟩
    · go_enter Tryd.func19, Tryd.ntmps19
      go_wp2_with fail
      refine (HP.out _).mono ?_
      rintro e w1 ⟨rfl, hb1⟩
      have H1 := Lib.hid ((K2s.new w _ _ _ _).next hb1)
      clear hb1
      obtain ⟨x1, x2⟩ := H1.out.2.2.cell
      go_wp2_with fail
      refine (HQ.out _).mono ?_
      rintro e w2 ⟨rfl, hb2⟩
      have H2 := Lib.hid (H1.out.next hb2)
      clear hb2 H1 x1 x2
      obtain ⟨x1, x2⟩ := H2.out.2.1.cell
      go_upto_region 4 with (fail)
      have H3 := Lib.hid (K3s.new H2.out)
      clear x1 x2
      generalize hw3 : w2.alloc _ = w3 at H3 ⊢
      clear hw3
      generalize hg : w2.heap.size = g at H3 ⊢
      clear hg H2 w2
      obtain ⟨x1, x2⟩ := H3.out.1.2.2.cell
      obtain ⟨y1, y2⟩ := H3.out.2.2.cell
      go_wp2_with fail
      refine (HM.out _).mono ?_
      rintro e w4 ⟨rfl, hb4⟩
      have H4 := Lib.hid (H3.out.next hb4)
      clear hb4 H3 x1 x2 y1 y2
      have H5 := H4
      clear H4
      obtain ⟨x1, x2⟩ := H5.out.1.2.2.cell
      obtain ⟨y1, y2⟩ := H5.out.2.2.cell
      have H6 := H5
      clear H5
      have H7 := H6
      clear H6
      go_wp2_with fail
      refine (HR.out _).mono ?_
      rintro e w8 ⟨rfl, hb8⟩
      go_wp2_with fail
      go_ret
      exact ⟨rfl, H7.out.1.1.trans (hb8.mono H7.out.1.1.size)⟩
    · go_enter Tryd.func19, Tryd.ntmps19
      go_wp2_with fail
      refine (HP.out _).mono ?_
      rintro e w1 ⟨rfl, hb1⟩
      have H1 := Lib.hid ((K2s.new w _ _ _ _).next hb1)
      clear hb1
      obtain ⟨x1, x2⟩ := H1.out.2.2.cell
      go_wp2_with fail
      refine (HQ.out _).mono ?_
      rintro e w2 ⟨rfl, hb2⟩
      have H2 := Lib.hid (H1.out.next hb2)
      clear hb2 H1 x1 x2
      obtain ⟨x1, x2⟩ := H2.out.2.1.cell
      go_upto_region 4 with (fail)
      have H3 := Lib.hid (K3s.new H2.out)
      clear x1 x2
      generalize hw3 : w2.alloc _ = w3 at H3 ⊢
      clear hw3
      generalize hg : w2.heap.size = g at H3 ⊢
      clear hg H2 w2
      obtain ⟨x1, x2⟩ := H3.out.1.2.2.cell
      obtain ⟨y1, y2⟩ := H3.out.2.2.cell
      go_wp2_with fail
      refine (HM.out _).mono ?_
      rintro e w4 ⟨rfl, hb4⟩
      have H4 := Lib.hid (H3.out.next hb4)
      clear hb4 H3 x1 x2 y1 y2
      have H5 := H4
      clear H4
      obtain ⟨x1, x2⟩ := H5.out.1.2.2.cell
      obtain ⟨y1, y2⟩ := H5.out.2.2.cell
      have H6 := H5
      clear H5
      have y3 : ∀ i, w4.frozen? ⟨g, i, none⟩ = false := H6.out.2.2.frozen
      go_upto_region 8 with (fail)
      have H7 := Lib.hid (H6.out.set1 Y)
      generalize hw7 : w4.setCell _ _ = w7 at H7 ⊢
      clear hw7 y3 x1 x2 y1 y2 H6
      obtain ⟨y1, y2⟩ := H7.out.2.2.cell
      go_wp2_with fail
      refine (HR.out _).mono ?_
      rintro e w8 ⟨rfl, hb8⟩
      go_wp2_with fail
      go_ret
      exact ⟨rfl, H7.out.1.1.trans (hb8.mono H7.out.1.1.size)⟩
    · go_enter Tryd.func19, Tryd.ntmps19
      go_wp2_with fail
      refine (HP.out _).mono ?_
      rintro e w1 ⟨rfl, hb1⟩
      have H1 := Lib.hid ((K2s.new w _ _ _ _).next hb1)
      clear hb1
      obtain ⟨x1, x2⟩ := H1.out.2.2.cell
      go_wp2_with fail
      refine (HQ.out _).mono ?_
      rintro e w2 ⟨rfl, hb2⟩
      have H2 := Lib.hid (H1.out.next hb2)
      clear hb2 H1 x1 x2
      obtain ⟨x1, x2⟩ := H2.out.2.1.cell
      go_upto_region 4 with (fail)
      have H3 := Lib.hid (K3s.new H2.out)
      clear x1 x2
      generalize hw3 : w2.alloc _ = w3 at H3 ⊢
      clear hw3
      generalize hg : w2.heap.size = g at H3 ⊢
      clear hg H2 w2
      obtain ⟨x1, x2⟩ := H3.out.1.2.2.cell
      obtain ⟨y1, y2⟩ := H3.out.2.2.cell
      go_wp2_with fail
      refine (HM.out _).mono ?_
      rintro e w4 ⟨rfl, hb4⟩
      have H4 := Lib.hid (H3.out.next hb4)
      clear hb4 H3 x1 x2 y1 y2
      have H5 := H4
      clear H4
      obtain ⟨x1, x2⟩ := H5.out.1.2.2.cell
      obtain ⟨y1, y2⟩ := H5.out.2.2.cell
      go_wp2_with fail
      refine (HN.out _).mono ?_
      rintro e w6 ⟨rfl, hb6⟩
      have H6 := Lib.hid (H5.out.next hb6)
      clear hb6 H5 x1 x2 y1 y2
      obtain ⟨x1, x2⟩ := H6.out.1.2.2.cell
      obtain ⟨y1, y2⟩ := H6.out.2.2.cell
      have y3 : ∀ i, w6.frozen? ⟨g, i, none⟩ = false := H6.out.2.2.frozen
      go_upto_region 8 with (fail)
      have H7 := Lib.hid (H6.out.set1 Y)
      generalize hw7 : w6.setCell _ _ = w7 at H7 ⊢
      clear hw7 y3 x1 x2 y1 y2 H6
      obtain ⟨y1, y2⟩ := H7.out.2.2.cell
      go_wp2_with fail
      refine (HR.out _).mono ?_
      rintro e w8 ⟨rfl, hb8⟩
      go_wp2_with fail
      go_ret
      exact ⟨rfl, H7.out.1.1.trans (hb8.mono H7.out.1.1.size)⟩
    · go_enter Tryd.func19, Tryd.ntmps19
      go_wp2_with fail
      refine (HP.out _).mono ?_
      rintro e w1 ⟨rfl, hb1⟩
      have H1 := Lib.hid ((K2s.new w _ _ _ _).next hb1)
      clear hb1
      obtain ⟨x1, x2⟩ := H1.out.2.2.cell
      go_wp2_with fail
      refine (HQ.out _).mono ?_
      rintro e w2 ⟨rfl, hb2⟩
      have H2 := Lib.hid (H1.out.next hb2)
      clear hb2 H1 x1 x2
      obtain ⟨x1, x2⟩ := H2.out.2.1.cell
      go_upto_region 4 with (fail)
      have H3 := Lib.hid (K3s.new H2.out)
      clear x1 x2
      generalize hw3 : w2.alloc _ = w3 at H3 ⊢
      clear hw3
      generalize hg : w2.heap.size = g at H3 ⊢
      clear hg H2 w2
      obtain ⟨x1, x2⟩ := H3.out.1.2.2.cell
      obtain ⟨y1, y2⟩ := H3.out.2.2.cell
      go_wp2_with fail
      refine (HM.out _).mono ?_
      rintro e w4 ⟨rfl, hb4⟩
      have H4 := Lib.hid (H3.out.next hb4)
      clear hb4 H3 x1 x2 y1 y2
      have H5 := H4
      clear H4
      obtain ⟨x1, x2⟩ := H5.out.1.2.2.cell
      obtain ⟨y1, y2⟩ := H5.out.2.2.cell
      go_wp2_with fail
      refine (HN.out _).mono ?_
      rintro e w6 ⟨rfl, hb6⟩
      have H6 := Lib.hid (H5.out.next hb6)
      clear hb6 H5 x1 x2 y1 y2
      obtain ⟨x1, x2⟩ := H6.out.1.2.2.cell
      obtain ⟨y1, y2⟩ := H6.out.2.2.cell
      have H7 := H6
      clear H6
      go_wp2_with fail
      refine (HR.out _).mono ?_
      rintro e w8 ⟨rfl, hb8⟩
      go_wp2_with fail
      go_ret
      exact ⟨rfl, H7.out.1.1.trans (hb8.mono H7.out.1.1.size)⟩

end Go.Proofs.YtpmellfgmlgknaaDoor
