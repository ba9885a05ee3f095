/-
  The contracts of the document's Right and Has.
-/
import Derived.Test.YtpmellfgmlgknaaDoorSpBox
import Derived.Test.YtpmellfgmlgknaaDoorIxRefIn
import Derived.Test.YtpmellfgmlgknaaDoorKyRefRight
set_option linter.unusedVariables false
namespace Go.Proofs.YtpmellfgmlgknaaDoor
open Go.RowKit

set_option maxRecDepth 100000 in
set_option maxHeartbeats 400000 in
theorem spRefRight_any (lo hi : ByteArray) (w : World) : Calls Tryd.prog 11 #[(Go.Value.agg #[Go.Value.string lo, Go.Value.string hi])] w fun e w' => e = .returned (.bool (spR (lo, hi))) ∧ Below w.heap.size w w' := by
  obtain ⟨p, hp⟩ : ∃ p, p = Ky.right lo := ⟨_, rfl⟩
  obtain ⟨q, hq⟩ : ∃ q, q = Ky.right hi := ⟨_, rfl⟩
  obtain ⟨c, hc⟩ : ∃ c, c = Ky.compare lo hi := ⟨_, rfl⟩
  have HP : Hid (∀ W, Calls Tryd.prog 23 #[.string lo] W fun e w' => e = .returned (.bool p) ∧ Below W.heap.size W w') := fun W => by rw [hp]; exact (kRefRight_any lo W).mono fun e w' h => ⟨h.1, h.2 ▸ Below.refl _ _⟩
  have HQ : Hid (∀ W, Calls Tryd.prog 23 #[.string hi] W fun e w' => e = .returned (.bool q) ∧ Below W.heap.size W w') := fun W => by rw [hq]; exact (kRefRight_any hi W).mono fun e w' h => ⟨h.1, h.2 ▸ Below.refl _ _⟩
  have HC : Hid ((lo.size = 0 ∨ p = true) → q = true → ∀ W, Calls Tryd.prog 26 #[.string lo, .string hi] W fun e w' => e = .returned (.int .i64 c) ∧ Below W.heap.size W w') := fun h1 h2 W => by
    rw [hc]
    have h3 := right_size (hq ▸ h2)
    refine refCompare_any lo hi W ?_ (by omega)
    rcases h1 with h1 | h1
    · omega
    · have := right_size (hp ▸ h1); omega
  have hc1 : c = -1 ∨ 0 ≤ c := by rw [hc]; rcases cmp_in lo hi with h | h | h <;> omega
  have HX : Hid (spR (lo, hi) = ((decide (lo.size = 0) || p) && (decide (hi.size = 0) || (q && decide (c < 0))))) := by show _ = _; rw [hp, hq, hc]; rfl
  clear hp hq hc
  have hc2 : (c == -1) = decide (c < 0) := by
    rcases hc1 with h | h
    · rw [h]; rfl
    · rw [decide_eq_false (by omega)]; exact beq_eq_false_iff_ne.2 (by omega)
  clear hc1
  by_cases h0 : lo.size = 0
  · have g0 : decide (0 < lo.size) = false := decide_eq_false (by omega)
    rw [decide_eq_true h0, Bool.true_or, Bool.true_and] at HX
    have HD := Lib.hid (HC.out (.inl h0))
    clear h0 HC
    by_cases h1 : hi.size = 0
    · have g1 : ((hi.size : Int) == 0) = true := by rw [h1]; rfl
      rw [decide_eq_true h1] at HX
      clear HD h1
      go_enter Tryd.func11, Tryd.ntmps11
      go_wp2_with fail
      go_ret
      exact ⟨by rw [HX.out]; rfl, (Below.refl _ _).alloc (Nat.le_refl _) _⟩
    · have g1 : ((hi.size : Int) == 0) = false := beq_eq_false_iff_ne.2 (by omega)
      rw [decide_eq_false h1, Bool.false_or] at HX
      clear h1
      cases q
      · clear HD
        go_enter Tryd.func11, Tryd.ntmps11
        go_wp2_with fail
        refine (HQ.out _).mono ?_
        rintro e w1 ⟨rfl, hb1⟩
        go_wp2_with fail
        go_ret
        exact ⟨by rw [HX.out]; rfl, ((Below.refl _ _).alloc (Nat.le_refl _) _).trans (hb1.mono (by simp))⟩
      · have HE := Lib.hid (HD.out rfl)
        go_enter Tryd.func11, Tryd.ntmps11
        go_wp2_with fail
        refine (HQ.out _).mono ?_
        rintro e w1 ⟨rfl, hb1⟩
        obtain ⟨H1, hz1⟩ := P1_next hb1
        obtain ⟨hx1, hy1⟩ := H1.cell
        go_wp2_with fail
        refine (HE.out _).mono ?_
        rintro e w2 ⟨rfl, hb2⟩
        go_wp2_with fail
        go_ret
        exact ⟨by rw [HX.out, ← hc2]; rfl, hz1.trans (hb2.mono hz1.size)⟩
  · have g0 : decide (0 < lo.size) = true := decide_eq_true (by omega)
    rw [decide_eq_false h0, Bool.false_or] at HX
    clear h0
    cases p
    · clear HC
      go_enter Tryd.func11, Tryd.ntmps11
      go_wp2_with fail
      refine (HP.out _).mono ?_
      rintro e w1 ⟨rfl, hb1⟩
      obtain ⟨H1, hz1⟩ := P1_next hb1
      go_wp2_with fail
      go_ret
      exact ⟨by rw [HX.out]; rfl, hz1⟩
    · rw [Bool.true_and] at HX
      have HD := Lib.hid (HC.out (.inr rfl))
      clear HC
      by_cases h1 : hi.size = 0
      · have g1 : ((hi.size : Int) == 0) = true := by rw [h1]; rfl
        rw [decide_eq_true h1] at HX
        clear HD h1
        go_enter Tryd.func11, Tryd.ntmps11
        go_wp2_with fail
        refine (HP.out _).mono ?_
        rintro e w1 ⟨rfl, hb1⟩
        obtain ⟨H1, hz1⟩ := P1_next hb1
        obtain ⟨hx1, hy1⟩ := H1.cell
        go_wp2_with fail
        go_ret
        exact ⟨by rw [HX.out]; rfl, hz1⟩
      · have g1 : ((hi.size : Int) == 0) = false := beq_eq_false_iff_ne.2 (by omega)
        rw [decide_eq_false h1, Bool.false_or] at HX
        clear h1
        cases q
        · clear HD
          go_enter Tryd.func11, Tryd.ntmps11
          go_wp2_with fail
          refine (HP.out _).mono ?_
          rintro e w1 ⟨rfl, hb1⟩
          obtain ⟨H1, hz1⟩ := P1_next hb1
          obtain ⟨hx1, hy1⟩ := H1.cell
          go_wp2_with fail
          refine (HQ.out _).mono ?_
          rintro e w2 ⟨rfl, hb2⟩
          go_wp2_with fail
          go_ret
          exact ⟨by rw [HX.out]; rfl, hz1.trans (hb2.mono hz1.size)⟩
        · have HE := Lib.hid (HD.out rfl)
          go_enter Tryd.func11, Tryd.ntmps11
          go_wp2_with fail
          refine (HP.out _).mono ?_
          rintro e w1 ⟨rfl, hb1⟩
          obtain ⟨H1, hz1⟩ := P1_next hb1
          obtain ⟨hx1, hy1⟩ := H1.cell
          go_wp2_with fail
          refine (HQ.out _).mono ?_
          rintro e w2 ⟨rfl, hb2⟩
          have H2 := H1.over hb2
          have hz2 := hz1.trans (hb2.mono hz1.size)
          obtain ⟨hx2, hy2⟩ := H2.cell
          go_wp2_with fail
          refine (HE.out _).mono ?_
          rintro e w3 ⟨rfl, hb3⟩
          go_wp2_with fail
          go_ret
          exact ⟨by rw [HX.out, ← hc2]; rfl, hz2.trans (hb3.mono hz2.size)⟩

end Go.Proofs.YtpmellfgmlgknaaDoor
