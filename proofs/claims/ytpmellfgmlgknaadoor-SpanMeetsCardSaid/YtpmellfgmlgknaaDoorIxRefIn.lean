/-
  The contract of the document's In of layer 8.
-/
import Derived.Test.YtpmellfgmlgknaaDoorIxPlain
import Derived.Test.YtpmellfgmlgknaaDoorKyRefCompare
set_option linter.unusedVariables false
namespace Go.Proofs.YtpmellfgmlgknaaDoor
open Go.RowKit

set_option maxRecDepth 100000 in
set_option maxHeartbeats 400000 in
theorem refIn_any (k lo hi : ByteArray) (w : World) (h1 : k.size ≤ 1048576) (h2 : lo.size ≤ 1048576) (h3 : hi.size ≤ 1048576) : Calls Tryd.prog 29 #[.string k, .string lo, .string hi] w fun e w' => e = .returned (.bool (inR k lo hi)) ∧ Below w.heap.size w w' := by
  obtain ⟨p, hp⟩ : ∃ p, p = Ky.compare k lo := ⟨_, rfl⟩
  obtain ⟨q, hq⟩ : ∃ q, q = Ky.compare k hi := ⟨_, rfl⟩
  have HP : Hid (∀ W, Calls Tryd.prog 26 #[.string k, .string lo] W fun e w' => e = .returned (.int .i64 p) ∧ Below W.heap.size W w') := fun W => by rw [hp]; exact refCompare_any k lo W h1 h2
  have HQ : Hid (∀ W, Calls Tryd.prog 26 #[.string k, .string hi] W fun e w' => e = .returned (.int .i64 q) ∧ Below W.heap.size W w') := fun W => by rw [hq]; exact refCompare_any k hi W h1 h3
  have HX : Hid (inR k lo hi = (decide (0 ≤ p) && (decide (hi.size = 0) || decide (q < 0)))) := by show _ = _; rw [hp, hq]; rfl
  clear hp hq h1 h2 h3
  cases hd : decide (0 ≤ p)
  · rw [hd] at HX
    go_enter Tryd.func29, Tryd.ntmps29
    go_wp2_with fail
    refine (HP.out _).mono ?_
    rintro e w1 ⟨rfl, hb1⟩
    go_wp2_with fail
    go_ret
    exact ⟨by rw [HX.out]; rfl, hb1⟩
  · rw [hd] at HX
    by_cases h0 : hi.size = 0
    · rw [decide_eq_true h0] at HX
      have e0 : ((hi.size : Int) == 0) = true := by rw [h0]; rfl
      go_enter Tryd.func29, Tryd.ntmps29
      go_wp2_with fail
      refine (HP.out _).mono ?_
      rintro e w1 ⟨rfl, hb1⟩
      go_wp2_with fail
      go_ret
      exact ⟨by rw [HX.out]; rfl, hb1⟩
    · rw [decide_eq_false h0] at HX
      have e0 : ((hi.size : Int) == 0) = false := beq_eq_false_iff_ne.2 (by omega)
      cases hd2 : decide (q < 0)
      all_goals
        rw [hd2] at HX
        go_enter Tryd.func29, Tryd.ntmps29
        go_wp2_with fail
        refine (HP.out _).mono ?_
        rintro e w1 ⟨rfl, hb1⟩
        go_wp2_with fail
        refine (HQ.out _).mono ?_
        rintro e w2 ⟨rfl, hb2⟩
        go_wp2_with fail
        go_ret
        exact ⟨by rw [HX.out]; rfl, hb1.trans (hb2.mono hb1.size)⟩

end Go.Proofs.YtpmellfgmlgknaaDoor
