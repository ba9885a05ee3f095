/-
  Whether a text is a key: the document's answer (stratigraphref04).
-/
import Derived.Test.YtpmellfgmlgknaaDoorKyRefLetter
namespace Go.Proofs.YtpmellfgmlgknaaDoor
open Go.RowKit
set_option linter.unusedVariables false

set_option maxRecDepth 100000 in
set_option maxHeartbeats 400000 in
theorem kRefRight_any (s : ByteArray) (w : World) :
    Calls Tryd.prog 23 #[.string s] w fun e w' => e = .returned (.bool (Ky.right s)) ∧ w = w' := by
  obtain ⟨R, hR⟩ : ∃ R, Ky.right s = R := ⟨_, rfl⟩
  rw [hR]
  have H := Lib.hid hR
  clear hR
  by_cases h0 : s.size = 0
  · have h0' : (s.size : Int) = 0 := by omega
    have hr := H.out
    have h1 : R = false := by rw [← hr]; simp [Ky.right, h0]
    subst h1
    clear H hr
    go_enter Tryd.func23, Tryd.ntmps23
    go_wp2
    go_ret
    exact ⟨rfl, rfl⟩
  have h0' : ((s.size : Int) == 0) = false := beq_eq_false_iff_ne.2 (by omega)
  by_cases h16 : 16 < s.size
  · have h16' : (16 : Int) < s.size := by omega
    have hr := H.out
    have h1 : R = false := by rw [← hr]; simp [Ky.right, h16]
    subst h1
    clear H hr
    go_enter Tryd.func23, Tryd.ntmps23
    go_wp2
    go_ret
    exact ⟨rfl, rfl⟩
  have h16' : ¬ (16 : Int) < s.size := by omega
  have hr := H.out
  have hA : Hid (Ky.allPl s 0 = R) := by
    show _ = _
    rw [← hr]; simp [Ky.right, h0, h16]
  clear H hr
  have HZ := Lib.hid (Ky.rest_zero s)
  go_enter Tryd.func23, Tryd.ntmps23
  go_wp2
  go_loop [0, 3, 4] (fun v _ _ => ∃ (p : Nat) (t : ByteArray), p ≤ s.size ∧ v = .string t ∧ Hid (t.size = s.size - p) ∧ Hid (t = s.extract p s.size) ∧ Hid (Ky.allPl s p = R)) (fun v _ _ => match v with | .string t => t.size | _ => 0)
  case atStart => exact ⟨0, s, Nat.zero_le _, rfl, Lib.hid (show s.size = s.size - 0 by omega), HZ.out.symm, hA⟩
  case round =>
    obtain ⟨p, t, hp, rfl, hts0, ht, hall⟩ := hrel
    by_cases hlt : p < s.size
    · obtain ⟨c, m, d1, d2, m1, m4, hpm, hc, hts, hte⟩ := rest_facts s t p hlt ht.out
      have htp : (0 : Int) < t.size := by omega
      have htl : t.size ≤ 16 := by omega
      obtain ⟨C, M, hCM⟩ : ∃ C M, Ky.refL (Utf8.decode t 0) = (C, M) := ⟨_, _, rfl⟩
      have hL : Hid (∀ W, Calls Tryd.prog 31 #[.string t] W fun e w' => e = .returned (.tuple #[.int .i64 C, .int .i64 M]) ∧ W = w') := fun W => letter_any t W (by omega) (by omega) C M hCM
      have hst := hall.out
      rw [Ky.allPl_step s p hlt, d1] at hst
      clear hall
      rw [d2] at hCM
      have hpl := Ky.plain_ref c m
      rw [hCM] at hpl
      dsimp only at hpl
      have hM : M = m := by
        have := congrArg Prod.snd hCM
        unfold Ky.refL at this
        split at this
        · rename_i h; simp at this; omega
        · simpa using this.symm
      have hCr : -1 ≤ C ∧ C ≤ 1114111 := by
        have := congrArg Prod.fst hCM
        unfold Ky.refL at this
        split at this
        · simp at this; omega
        · simp at this; omega
      subst hM
      dsimp only at hst
      rw [← hpl] at hst
      have HST := Lib.hid hst
      have HTE := Lib.hid hte
      have hMle : (M : Int) ≤ t.size := by omega
      clear hst hte d1 d2 hpl hCM hts
      obtain ⟨B, hB⟩ : ∃ B, Ky.plainI C = B := ⟨_, rfl⟩
      have HP : Hid (∀ W, Calls Tryd.prog 32 #[.int .i64 C] W fun e w' => e = .returned (.bool B) ∧ W = w') := fun W => by
        rw [← hB]; exact refPlain_any C W hCr.1 hCr.2
      have HB := Lib.hid hB
      clear hB
      cases B
      · have hR : R = false := by
          have := HST.out
          rw [← this, HB.out]; rfl
        subst hR
        clear HST HB
        go_wp2_with (first | (go_at_call 31; refine (hL.out _).mono ?_; rintro e W2 ⟨rfl, rfl⟩) | (go_at_call 32; refine (HP.out _).mono ?_; rintro e W2 ⟨rfl, rfl⟩))
        go_ret
        exact ⟨rfl, rfl⟩
      · have hA2 : Hid (Ky.allPl s (p + M) = R) := by
          have := HST.out
          show _ = _
          rw [← this, HB.out]; rfl
        clear HST HB
        go_wp2_with (first | (go_at_call 31; refine (hL.out _).mono ?_; rintro e W2 ⟨rfl, rfl⟩) | (go_at_call 32; refine (HP.out _).mono ?_; rintro e W2 ⟨rfl, rfl⟩))
        go_round
        case rel => exact ⟨p + M, t.extract M t.size, hpm, rfl, (show _ = _ by rw [HTE.out, Ky.rest_size]), HTE, hA2⟩
        case measure =>
          have e2 : (t.extract M t.size).size = s.size - (p + M) := by rw [HTE.out, Ky.rest_size]
          show (t.extract M t.size).size < t.size
          rw [e2, hts0.out]; omega
    · have hR : R = true := by
        have := hall.out
        rw [← this, Ky.allPl_end s p hlt]
      subst hR
      have htz : ¬ (0 : Int) < t.size := by have := hts0.out; omega
      clear hall
      go_wp2
      go_ret
      exact ⟨rfl, rfl⟩

end Go.Proofs.YtpmellfgmlgknaaDoor
