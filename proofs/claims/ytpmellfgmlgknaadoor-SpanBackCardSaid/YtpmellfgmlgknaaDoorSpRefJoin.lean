/-
  The contract of the document's Join.
-/
import Derived.Test.YtpmellfgmlgknaaDoorSpRefHas
set_option linter.unusedVariables false
namespace Go.Proofs.YtpmellfgmlgknaaDoor
open Go.RowKit

/-- Two spans' blocks and a result's. -/
def J3 (w : World) (a b c d : ByteArray) (w1 : World) : Prop := Below w.heap.size w w1 ∧ PBox w1 w.heap.size a b ∧ PBox w1 (w.heap.size + 1) c d ∧ PBox w1 (w.heap.size + 2) emp emp
theorem J3.new (w : World) (a b c d : ByteArray) : J3 w a b c d (((((w.alloc (.cells #[.string a, .string b] 23))).alloc (.cells #[.string c, .string d] 23))).alloc (.cells #[.string emp, .string emp] 23)) := by
  refine ⟨(((Below.refl w.heap.size w).alloc (Nat.le_refl _) _).alloc (by simp) _).alloc (by simp; omega) _, ((PBox.new w a b).alloc _).alloc _, ?_, ?_⟩
  · have h := (PBox.new (w.alloc (.cells #[.string a, .string b] 23)) c d).alloc (.cells #[.string emp, .string emp] 23)
    rwa [psize_alloc] at h
  · have h := PBox.new (((w.alloc (.cells #[.string a, .string b] 23))).alloc (.cells #[.string c, .string d] 23)) emp emp
    rwa [psize_alloc, psize_alloc] at h
theorem J3.next {w w1 w2 : World} {a b c d : ByteArray} (H : J3 w a b c d w1) (hb : Below w1.heap.size w1 w2) : J3 w a b c d w2 :=
  ⟨H.1.trans (hb.mono H.1.size), H.2.1.over hb, H.2.2.1.over hb, H.2.2.2.over hb⟩

set_option maxRecDepth 100000 in
set_option maxHeartbeats 400000 in
theorem spRefJoin_any (a b c d : ByteArray) (w : World) : Calls Tryd.prog 18 #[(Go.Value.agg #[Go.Value.string a, Go.Value.string b]), (Go.Value.agg #[Go.Value.string c, Go.Value.string d])] w fun e w' => e = .returned (.tuple #[(Go.Value.agg #[Go.Value.string ((joinS (a, b) (c, d)).1), Go.Value.string ((joinS (a, b) (c, d)).2)]), .int .i64 (joinE (a, b) (c, d))]) ∧ Below w.heap.size w w' := by
  obtain ⟨p, hp⟩ : ∃ p, p = spR (a, b) := ⟨_, rfl⟩
  obtain ⟨q, hq⟩ : ∃ q, q = spR (c, d) := ⟨_, rfl⟩
  have HP : Hid (∀ W, Calls Tryd.prog 11 #[(Go.Value.agg #[Go.Value.string a, Go.Value.string b])] W fun e w' => e = .returned (.bool p) ∧ Below W.heap.size W w') := fun W => by rw [hp]; exact spRefRight_any a b W
  have HQ : Hid (∀ W, Calls Tryd.prog 11 #[(Go.Value.agg #[Go.Value.string c, Go.Value.string d])] W fun e w' => e = .returned (.bool q) ∧ Below W.heap.size W w') := fun W => by rw [hq]; exact spRefRight_any c d W
  have hJ : ∀ E : Int, joinE (a, b) (c, d) = E → E ≠ 0 → joinS (a, b) (c, d) = (emp, emp) := fun E h h2 => if_neg (by rw [h]; exact h2)
  obtain ⟨E, hE⟩ : ∃ E, joinE (a, b) (c, d) = E := ⟨_, rfl⟩
  obtain ⟨X, hX⟩ : ∃ X, (joinS (a, b) (c, d)).1 = X := ⟨_, rfl⟩
  obtain ⟨Y, hY⟩ : ∃ Y, (joinS (a, b) (c, d)).2 = Y := ⟨_, rfl⟩
  rw [hE, hX, hY]
  have hcase : (p = false ∧ E = 1 ∧ X = emp ∧ Y = emp) ∨ (p = true ∧ q = false ∧ E = 1 ∧ X = emp ∧ Y = emp) ∨ (p = true ∧ q = true ∧ b.size = 0 ∧ E = 9 ∧ X = emp ∧ Y = emp) ∨ (p = true ∧ q = true ∧ b.size ≠ 0 ∧ b ≠ c ∧ E = 9 ∧ X = emp ∧ Y = emp) ∨ (p = true ∧ q = true ∧ b.size ≠ 0 ∧ b = c ∧ E = 0 ∧ X = a ∧ Y = d) := by
    have hd : E = (if p && q then (if b.size = 0 ∨ b ≠ c then 9 else 0) else 1) := by rw [← hE, hp, hq]; rfl
    have h9 : E ≠ 0 → X = emp ∧ Y = emp := fun h => by rw [← hX, ← hY, hJ E hE h]; exact ⟨rfl, rfl⟩
    have h0 : E = 0 → X = a ∧ Y = d := fun h => by rw [← hX, ← hY]; unfold joinS; rw [if_pos (hE.trans h)]; exact ⟨rfl, rfl⟩
    cases p
    · have : E = 1 := hd
      exact .inl ⟨rfl, this, h9 (by omega)⟩
    cases q
    · have : E = 1 := hd
      exact .inr (.inl ⟨rfl, rfl, this, h9 (by omega)⟩)
    by_cases h1 : b.size = 0
    · have hd : E = if b.size = 0 ∨ b ≠ c then 9 else 0 := hd
      have : E = 9 := hd.trans (if_pos (Or.inl h1))
      exact .inr (.inr (.inl ⟨rfl, rfl, h1, this, h9 (by omega)⟩))
    by_cases h2 : b = c
    · have hd : E = if b.size = 0 ∨ b ≠ c then 9 else 0 := hd
      have : E = 0 := hd.trans (if_neg fun h => Or.elim h h1 (fun h => h h2))
      exact .inr (.inr (.inr (.inr ⟨rfl, rfl, h1, h2, this, h0 this⟩)))
    · have hd : E = if b.size = 0 ∨ b ≠ c then 9 else 0 := hd
      have : E = 9 := hd.trans (if_pos (Or.inr h2))
      exact .inr (.inr (.inr (.inl ⟨rfl, rfl, h1, h2, this, h9 (by omega)⟩)))
  clear hp hq hJ hE hX hY
  rcases hcase with ⟨rfl, rfl, rfl, rfl⟩ | ⟨rfl, rfl, rfl, rfl, rfl⟩ | ⟨rfl, rfl, h1, rfl, rfl, rfl⟩ | ⟨rfl, rfl, h1, h2, rfl, rfl, rfl⟩ | ⟨rfl, rfl, h1, rfl, rfl, rfl, rfl⟩
  · go_enter Tryd.func18, Tryd.ntmps18
    go_wp2_with fail
    refine (HP.out _).mono ?_
    rintro e w1 ⟨rfl, hb1⟩
    have H1 : Hid (J3 w a b c d w1) := (J3.new w a b c d).next hb1
    clear hb1
    go_wp2_with (first | (refine pbox_store (w.heap.size + 2) H1.out.2.2.2 rfl _ _ rfl rfl rfl ?_))
    exact bodyPost_ret (pbox_result2 rfl _ _ (w.heap.size + 2) rfl (H1.out.2.2.2.set emp emp)) rfl ⟨rfl, below_setRow H1.out.1 (by omega) _⟩
  · go_enter Tryd.func18, Tryd.ntmps18
    go_wp2_with fail
    refine (HP.out _).mono ?_
    rintro e w1 ⟨rfl, hb1⟩
    have H1 : Hid (J3 w a b c d w1) := (J3.new w a b c d).next hb1
    clear hb1
    obtain ⟨x1, x2⟩ := H1.out.2.2.1.cell
    go_wp2_with (first | (refine pbox_store (w.heap.size + 2) H1.out.2.2.2 rfl _ _ rfl rfl rfl ?_))
    refine (HQ.out _).mono ?_
    rintro e w2 ⟨rfl, hb2⟩
    have H2 : Hid (J3 w a b c d w2) := H1.out.next hb2
    clear x1 x2 H1 hb2
    go_wp2_with (first | (refine pbox_store (w.heap.size + 2) H2.out.2.2.2 rfl _ _ rfl rfl rfl ?_))
    exact bodyPost_ret (pbox_result2 rfl _ _ (w.heap.size + 2) rfl (H2.out.2.2.2.set emp emp)) rfl ⟨rfl, below_setRow H2.out.1 (by omega) _⟩
  · have g1 : ((b.size : Int) == 0) = true := by rw [h1]; rfl
    go_enter Tryd.func18, Tryd.ntmps18
    go_wp2_with fail
    refine (HP.out _).mono ?_
    rintro e w1 ⟨rfl, hb1⟩
    have H1 : Hid (J3 w a b c d w1) := (J3.new w a b c d).next hb1
    clear hb1
    obtain ⟨x1, x2⟩ := H1.out.2.2.1.cell
    go_wp2_with fail
    refine (HQ.out _).mono ?_
    rintro e w2 ⟨rfl, hb2⟩
    have H2 : Hid (J3 w a b c d w2) := H1.out.next hb2
    clear x1 x2 H1 hb2
    obtain ⟨x1, x2⟩ := H2.out.2.1.cell
    obtain ⟨y1, y2⟩ := H2.out.2.2.1.cell
    go_wp2_with (first | (refine pbox_store (w.heap.size + 2) H2.out.2.2.2 rfl _ _ rfl rfl rfl ?_))
    exact bodyPost_ret (pbox_result2 rfl _ _ (w.heap.size + 2) rfl (H2.out.2.2.2.set emp emp)) rfl ⟨rfl, below_setRow H2.out.1 (by omega) _⟩
  · have g1 : ((b.size : Int) == 0) = false := beq_eq_false_iff_ne.2 (by omega)
    have g2 : (b.toList == c.toList) = false := beq_eq_false_iff_ne.2 fun e => h2 (list_inj e)
    go_enter Tryd.func18, Tryd.ntmps18
    go_wp2_with fail
    refine (HP.out _).mono ?_
    rintro e w1 ⟨rfl, hb1⟩
    have H1 : Hid (J3 w a b c d w1) := (J3.new w a b c d).next hb1
    clear hb1
    obtain ⟨x1, x2⟩ := H1.out.2.2.1.cell
    go_wp2_with fail
    refine (HQ.out _).mono ?_
    rintro e w2 ⟨rfl, hb2⟩
    have H2 : Hid (J3 w a b c d w2) := H1.out.next hb2
    clear x1 x2 H1 hb2
    obtain ⟨x1, x2⟩ := H2.out.2.1.cell
    obtain ⟨y1, y2⟩ := H2.out.2.2.1.cell
    go_wp2_with (first | (refine pbox_store (w.heap.size + 2) H2.out.2.2.2 rfl _ _ rfl rfl rfl ?_))
    exact bodyPost_ret (pbox_result2 rfl _ _ (w.heap.size + 2) rfl (H2.out.2.2.2.set emp emp)) rfl ⟨rfl, below_setRow H2.out.1 (by omega) _⟩
  · have g1 : ((b.size : Int) == 0) = false := beq_eq_false_iff_ne.2 (by omega)
    go_enter Tryd.func18, Tryd.ntmps18
    go_wp2_with fail
    refine (HP.out _).mono ?_
    rintro e w1 ⟨rfl, hb1⟩
    have H1 := Lib.hid ((J3.new w _ b b _).next hb1)
    clear hb1
    obtain ⟨x1, x2⟩ := H1.out.2.2.1.cell
    go_wp2_with fail
    refine (HQ.out _).mono ?_
    rintro e w2 ⟨rfl, hb2⟩
    have H2 := Lib.hid (H1.out.next hb2)
    clear x1 x2 H1 hb2
    obtain ⟨x1, x2⟩ := H2.out.2.1.cell
    obtain ⟨y1, y2⟩ := H2.out.2.2.1.cell
    go_wp2_with (first | (refine pbox_store (w.heap.size + 2) H2.out.2.2.2 rfl _ _ rfl rfl rfl ?_))
    exact bodyPost_ret (pbox_result2 rfl _ _ (w.heap.size + 2) rfl (H2.out.2.2.2.set _ _)) rfl ⟨rfl, below_setRow H2.out.1 (by omega) _⟩

end Go.Proofs.YtpmellfgmlgknaaDoor
