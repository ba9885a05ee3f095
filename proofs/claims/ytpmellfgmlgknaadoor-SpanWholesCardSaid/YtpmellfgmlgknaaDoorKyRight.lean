/-
  Whether a text is a key: package key's function.
-/
import Derived.Test.YtpmellfgmlgknaaDoorKyWalks
namespace Go.Proofs.YtpmellfgmlgknaaDoor
open Go.RowKit
set_option linter.unusedVariables false

set_option maxRecDepth 100000 in
set_option maxHeartbeats 400000 in
theorem right_any (s : ByteArray) (w : World) :
    Calls Tryd.prog 27 #[.string s] w fun e w' => e = .returned (.bool (Ky.right s)) ∧ Below w.heap.size w w' := by
  obtain ⟨R, hR⟩ : ∃ R, Ky.right s = R := ⟨_, rfl⟩
  rw [hR]
  have H := Lib.hid hR
  clear hR
  by_cases h0 : s.size = 0
  · have e : s = ByteArray.empty := by
      apply bytes_inj
      exact List.eq_nil_of_length_eq_zero (by rw [bytes_len]; exact h0)
    have hr := H.out
    have h1 : R = false := by rw [← hr]; simp [Ky.right, h0]
    subst h1
    clear H hr h0
    subst e
    go_enter Tryd.func27, Tryd.ntmps27
    go_wp2
    go_ret
    exact ⟨rfl, Below.refl _ _⟩
  have hne : s.toList.isEmpty = false := not_empty s (by omega)
  by_cases h16 : 16 < s.size
  · have h16' : (16 : Int) < s.size := by omega
    have hr := H.out
    have h1 : R = false := by rw [← hr]; simp [Ky.right, h16]
    subst h1
    clear H hr
    go_enter Tryd.func27, Tryd.ntmps27
    go_wp2
    go_ret
    exact ⟨rfl, Below.refl _ _⟩
  have h16' : ¬ (16 : Int) < s.size := by omega
  have hr := H.out
  have hA : Hid (Ky.allPl s 0 = R) := by
    show _ = _
    rw [← hr]; simp [Ky.right, h0, h16]
  clear H hr
  go_enter Tryd.func27, Tryd.ntmps27
  go_wp2
  go_loopw [3, 4] (fun _ _ wr => ∃ p : Nat, p ≤ s.size ∧ wr.heap[w.heap.size]? = some (.stringIter s p) ∧ Below w.heap.size w wr ∧ Hid (Ky.allPl s p = R)) (fun _ _ wr => s.size - wr.iterPos w.heap.size)
  case atStart => exact ⟨0, Nat.zero_le _, World.iter_heap w s 0, (Below.refl _ _).alloc (Nat.le_refl _) _, hA⟩
  case round =>
    obtain ⟨p, hp, hk, hb, hall⟩ := hrel
    by_cases hlt : p < s.size
    · obtain ⟨t, ht⟩ : ∃ t, t = s.extract p s.size := ⟨_, rfl⟩
      obtain ⟨c, m, d1, d2, m1, m4, hpm, hc, hts, hte⟩ := rest_facts s t p hlt ht
      have hnext : ∀ ty, (Instr.next (.pointer (some ⟨w.heap.size, 0, none⟩)) true ty).run Tryd.prog wr = _ := fun ty => Lib.run_next_any_at wr w.heap.size s p ty hk hlt
      have hk1 := Lib.iterAt_heap wr w.heap.size s p (p + (Utf8.decode s p).2) hk
      have hb1 : Below w.heap.size w (wr.iterAt w.heap.size s (p + (Utf8.decode s p).2)) := Lib.below_iterAt hb (Nat.le_refl _) s (p + (Utf8.decode s p).2)
      have hmu : wr.iterPos w.heap.size = p := by simp [World.iterPos, hk]
      have HS : Hid (∀ W, Calls Tryd.prog 35 #[.int .i32 c, .string (s.extract p s.size)] W fun e w' => e = .returned (.int .i64 m) ∧ W = w') := fun W => by
        rw [← ht]; exact size_any t c m W (by omega) d2
      have hst := hall.out
      rw [Ky.allPl_step s p hlt] at hst
      rw [d1] at hnext hk1 hb1 hst
      clear hall
      have HST := Lib.hid hst
      clear hst d1 d2 ht hte
      dsimp only at hnext hk1 hb1
      generalize wr.iterAt w.heap.size s (p + m) = W1 at hnext hk1 hb1
      have hple : (p : Int) ≤ s.size := by omega
      obtain ⟨B, hB⟩ : ∃ B, Ky.plainB c m = B := ⟨_, rfl⟩
      have HP : Hid (∀ W, Calls Tryd.prog 34 #[.int .i32 c, .int .i64 m] W fun e w' => e = .returned (.bool B) ∧ W = w') := fun W => by
        rw [← hB]; exact plain_any c m W hc m4
      have HB := Lib.hid hB
      clear hB
      cases B
      · have hR : R = false := by
          have := HST.out
          rw [← this]
          show (Ky.plainB c m && _) = false
          rw [HB.out]; rfl
        subst hR
        clear HST HB
        go_wp2_with (first | (go_at_call 35; refine (HS.out _).mono ?_; rintro e W2 ⟨rfl, rfl⟩) | (go_at_call 34; refine (HP.out _).mono ?_; rintro e W2 ⟨rfl, rfl⟩))
        go_ret
        exact ⟨rfl, hb1⟩
      · have hA2 : Hid (Ky.allPl s (p + m) = R) := by
          have := HST.out
          show _ = _
          rw [← this]
          show _ = (Ky.plainB c m && _)
          rw [HB.out]; rfl
        clear HST HB
        go_wp2_with (first | (go_at_call 35; refine (HS.out _).mono ?_; rintro e W2 ⟨rfl, rfl⟩) | (go_at_call 34; refine (HP.out _).mono ?_; rintro e W2 ⟨rfl, rfl⟩))
        go_roundw
        case rel => exact ⟨p + m, hpm, hk1, hb1, hA2⟩
        case measure =>
          have hmu2 : W1.iterPos w.heap.size = p + m := by simp [World.iterPos, hk1]
          rw [hmu, hmu2]; omega
    · have hnext : ∀ ty, (Instr.next (.pointer (some ⟨w.heap.size, 0, none⟩)) true ty).run Tryd.prog wr = _ := fun ty => Lib.run_next_end_at wr w.heap.size s p ty hk hlt
      have hR : R = true := by
        have := hall.out
        rw [← this, Ky.allPl_end s p hlt]
      subst hR
      clear hall
      go_wp2
      go_ret
      exact ⟨rfl, hb⟩

end Go.Proofs.YtpmellfgmlgknaaDoor
