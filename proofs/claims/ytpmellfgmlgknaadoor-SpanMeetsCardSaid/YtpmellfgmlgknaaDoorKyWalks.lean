/-
  Contracts of package key's small functions; a text's rest.
-/
import Derived.Test.YtpmellfgmlgknaaDoorShelf
import Derived.Test.YtpmellfgmlgknaaDoorBase
import Derived.Test.YtpmellfgmlgknaaDoorKyRest
import Derived.Lib.OthersKept
namespace Go.Proofs.YtpmellfgmlgknaaDoor
open Go.RowKit
set_option linter.unusedVariables false

set_option maxRecDepth 100000 in
set_option maxHeartbeats 400000 in
theorem plain_any (c n : Nat) (w : World) (hc : c ≤ 1114111) (hn : n ≤ 4) :
    Calls Tryd.prog 34 #[.int .i32 c, .int .i64 n] w fun e w' => e = .returned (.bool (Ky.plainB c n)) ∧ w = w' := by
  obtain ⟨R, hR⟩ : ∃ R, Ky.plainB c n = R := ⟨_, rfl⟩
  rw [hR]
  have H := Lib.hid hR
  clear hR
  by_cases h1 : c = 65533
  · subst h1
    by_cases h2 : n = 1
    · subst h2
      go_enter Tryd.func34, Tryd.ntmps34
      go_wp2
      go_ret
      rw [← H.out]
      exact ⟨rfl, rfl⟩
    · have h2' : ((n : Int) == 1) = false := by simp; omega
      go_enter Tryd.func34, Tryd.ntmps34
      go_wp2
      go_ret
      rw [← H.out]
      simp [Ky.plainB, h2]
  · have h1' : ((c : Int) == 65533) = false := by simp; omega
    go_enter Tryd.func34, Tryd.ntmps34
    go_wp2
    all_goals go_ret
    all_goals (rw [← H.out]; simp [Ky.plainB, h1]; first | omega | (rw [Bool.eq_iff_iff]; simp only [Bool.or_eq_true, Bool.and_eq_true, decide_eq_true_eq]; omega))

set_option maxRecDepth 100000 in
set_option maxHeartbeats 400000 in
theorem size_any (t : ByteArray) (c n : Nat) (w : World) (ht : 0 < t.size) (hd : Utf8.decode t 0 = (c, n)) :
    Calls Tryd.prog 35 #[.int .i32 c, .string t] w fun e w' => e = .returned (.int .i64 n) ∧ w = w' := by
  have H := Lib.hid (Ky.size_eq t c n ht hd)
  clear hd
  obtain ⟨R, hR⟩ : ∃ R, Ky.prefB t = R := ⟨_, rfl⟩
  rw [hR] at H
  have cP : ∀ W, Calls Tryd.prog 39 #[.string t, .string { data := #[239, 191, 189] }] W fun e w' => e = .returned (.bool R) ∧ w' = W := fun W => by
    rw [← hR]; exact Tryd.strings_HasPrefix t _ W
  clear hR
  have HP := Lib.hid cP
  clear cP
  by_cases h1 : c = 65533
  · subst h1
    cases R
    · go_enter Tryd.func35, Tryd.ntmps35
      go_wp2_with (go_at_call 39; refine (HP.out _).mono ?_; rintro e w1 ⟨rfl, rfl⟩)
      go_ret
      have := H.out
      simp at this
      rw [← this]
      simp
    · go_enter Tryd.func35, Tryd.ntmps35
      go_wp2_with (first | (go_at_call 39; refine (HP.out _).mono ?_; rintro e w1 ⟨rfl, rfl⟩) | (go_at_call 40; refine (Tryd.utf8_RuneLen _ _).mono ?_; rintro e w1 ⟨rfl, rfl⟩))
      go_ret
      have := H.out
      simp at this
      rw [← this]
      simp
  · have h1' : ((c : Int) == 65533) = false := by simp; omega
    go_enter Tryd.func35, Tryd.ntmps35
    go_wp2_with (go_at_call 40; refine (Tryd.utf8_RuneLen _ _).mono ?_; rintro e w1 ⟨rfl, rfl⟩)
    go_ret
    have := H.out
    simp [h1] at this
    rw [this]
    simp

end Go.Proofs.YtpmellfgmlgknaaDoor
