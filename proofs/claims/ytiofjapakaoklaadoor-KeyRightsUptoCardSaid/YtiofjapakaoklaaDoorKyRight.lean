/-
  Whether a text is a key: package key's function and the document's.
-/
import Derived.Test.YtiofjapakaoklaaDoorKyLetter
namespace Go.Proofs.YtiofjapakaoklaaDoor
open Go.RowKit

/-- A text's rest from place p on, and the letter there. -/
theorem rest_facts (s t : ByteArray) (p : Nat) (hp : p < s.size) (ht : t = s.extract p s.size) :
    ∃ c m, Utf8.decode s p = (c, m) ∧ Utf8.decode t 0 = (c, m) ∧ 1 ≤ m ∧ m ≤ 4 ∧ p + m ≤ s.size ∧ c ≤ 1114111 ∧ t.size = s.size - p ∧ t.extract m t.size = s.extract (p + m) s.size := by
  have h := Ky.width s p hp
  refine ⟨(Utf8.decode s p).1, (Utf8.decode s p).2, rfl, ?_, h.1, h.2.1, h.2.2.1, h.2.2.2, ?_, ?_⟩
  · rw [ht, Ky.dec_rest s p (by omega)]
  · rw [ht, Ky.rest_size]
  · have e : t.size = s.size - p := by rw [ht, Ky.rest_size]
    rw [e, ht, Ky.rest_rest s p _ (by omega)]

theorem not_empty (s : ByteArray) (h : 0 < s.size) : s.toList.isEmpty = false := by
  rw [ByteArray.toList_eq]
  cases e : s.data.toList with
  | nil =>
    have e2 : s.size = 0 := by rw [← bytes_len, e]; rfl
    omega
  | cons _ _ => rfl

theorem is_empty (s : ByteArray) (h : s.size = 0) : s.toList.isEmpty = true := by
  rw [ByteArray.toList_eq, List.isEmpty_iff]
  exact List.eq_nil_of_length_eq_zero (by rw [bytes_len]; exact h)
theorem lt_of_iter {w : World} {k : Nat} {s : ByteArray} {p : Nat} (h : w.heap[k]? = some (.stringIter s p)) : k < w.heap.size := by
  rcases Nat.lt_or_ge k w.heap.size with h1 | h1
  · exact h1
  · rw [Array.getElem?_eq_none h1] at h; cases h

set_option maxRecDepth 100000 in
set_option maxHeartbeats 400000 in
theorem right_any (s : ByteArray) (w : World) :
    Calls Tryd.prog 13 #[.string s] w fun e w' => e = .returned (.bool (Ky.right s)) ∧ Below w.heap.size w w' := by
  obtain ⟨R, hR⟩ : ∃ R, Ky.right s = R := ⟨_, rfl⟩
  rw [hR]
  have H := Lib.hid hR
  clear hR
  by_cases h0 : s.size = 0
  · have e : s = ByteArray.empty := by
      apply bytes_inj
      exact List.eq_nil_of_length_eq_zero (by rw [bytes_len]; exact h0)
    have hr := H.out
    have h1 : R = false := by rw [← hr]; simp [Ky.right, h0]
    subst h1
    clear H hr h0
    subst e
    go_enter Tryd.func13, Tryd.ntmps13
    go_wp2
    go_ret
    exact ⟨rfl, Below.refl _ _⟩
  have hne : s.toList.isEmpty = false := not_empty s (by omega)
  by_cases h16 : 16 < s.size
  · have h16' : (16 : Int) < s.size := by omega
    have hr := H.out
    have h1 : R = false := by rw [← hr]; simp [Ky.right, h16]
    subst h1
    clear H hr
    go_enter Tryd.func13, Tryd.ntmps13
    go_wp2
    go_ret
    exact ⟨rfl, Below.refl _ _⟩
  have h16' : ¬ (16 : Int) < s.size := by omega
  have hr := H.out
  have hA : Hid (Ky.allPl s 0 = R) := by
    show _ = _
    rw [← hr]; simp [Ky.right, h0, h16]
  clear H hr
  go_enter Tryd.func13, Tryd.ntmps13
  go_wp2
  go_loopw [3, 4] (fun _ _ wr => ∃ p : Nat, p ≤ s.size ∧ wr.heap[w.heap.size]? = some (.stringIter s p) ∧ Below w.heap.size w wr ∧ Hid (Ky.allPl s p = R)) (fun _ _ wr => s.size - wr.iterPos w.heap.size)
  case atStart => exact ⟨0, Nat.zero_le _, World.iter_heap w s 0, (Below.refl _ _).alloc (Nat.le_refl _) _, hA⟩
  case round =>
    obtain ⟨p, hp, hk, hb, hall⟩ := hrel
    by_cases hlt : p < s.size
    · obtain ⟨t, ht⟩ : ∃ t, t = s.extract p s.size := ⟨_, rfl⟩
      obtain ⟨c, m, d1, d2, m1, m4, hpm, hc, hts, hte⟩ := rest_facts s t p hlt ht
      have hnext : ∀ ty, (Instr.next (.pointer (some ⟨w.heap.size, 0, none⟩)) true ty).run Tryd.prog wr = _ := fun ty => Lib.run_next_any_at wr w.heap.size s p ty hk hlt
      have hk1 := Lib.iterAt_heap wr w.heap.size s p (p + (Utf8.decode s p).2) hk
      have hb1 : Below w.heap.size w (wr.iterAt w.heap.size s (p + (Utf8.decode s p).2)) := Lib.below_iterAt hb (Nat.le_refl _) s (p + (Utf8.decode s p).2)
      have hmu : wr.iterPos w.heap.size = p := by simp [World.iterPos, hk]
      have HS : Hid (∀ W, Calls Tryd.prog 24 #[.int .i32 c, .string (s.extract p s.size)] W fun e w' => e = .returned (.int .i64 m) ∧ W = w') := fun W => by
        rw [← ht]; exact size_any t c m W (by omega) d2
      have hst := hall.out
      rw [Ky.allPl_step s p hlt] at hst
      rw [d1] at hnext hk1 hb1 hst
      clear hall
      have HST := Lib.hid hst
      clear hst d1 d2 ht hte
      dsimp only at hnext hk1 hb1
      generalize wr.iterAt w.heap.size s (p + m) = W1 at hnext hk1 hb1
      have hple : (p : Int) ≤ s.size := by omega
      obtain ⟨B, hB⟩ : ∃ B, Ky.plainB c m = B := ⟨_, rfl⟩
      have HP : Hid (∀ W, Calls Tryd.prog 23 #[.int .i32 c, .int .i64 m] W fun e w' => e = .returned (.bool B) ∧ W = w') := fun W => by
        rw [← hB]; exact plain_any c m W hc m4
      have HB := Lib.hid hB
      clear hB
      cases B
      · have hR : R = false := by
          have := HST.out
          rw [← this]
          show (Ky.plainB c m && _) = false
          rw [HB.out]; rfl
        subst hR
        clear HST HB
        go_wp2_with (first | (go_at_call 24; refine (HS.out _).mono ?_; rintro e W2 ⟨rfl, rfl⟩) | (go_at_call 23; refine (HP.out _).mono ?_; rintro e W2 ⟨rfl, rfl⟩))
        go_ret
        exact ⟨rfl, hb1⟩
      · have hA2 : Hid (Ky.allPl s (p + m) = R) := by
          have := HST.out
          show _ = _
          rw [← this]
          show _ = (Ky.plainB c m && _)
          rw [HB.out]; rfl
        clear HST HB
        go_wp2_with (first | (go_at_call 24; refine (HS.out _).mono ?_; rintro e W2 ⟨rfl, rfl⟩) | (go_at_call 23; refine (HP.out _).mono ?_; rintro e W2 ⟨rfl, rfl⟩))
        go_roundw
        case rel => exact ⟨p + m, hpm, hk1, hb1, hA2⟩
        case measure =>
          have hmu2 : W1.iterPos w.heap.size = p + m := by simp [World.iterPos, hk1]
          rw [hmu, hmu2]; omega
    · have hnext : ∀ ty, (Instr.next (.pointer (some ⟨w.heap.size, 0, none⟩)) true ty).run Tryd.prog wr = _ := fun ty => Lib.run_next_end_at wr w.heap.size s p ty hk hlt
      have hR : R = true := by
        have := hall.out
        rw [← this, Ky.allPl_end s p hlt]
      subst hR
      clear hall
      go_wp2
      go_ret
      exact ⟨rfl, hb⟩

set_option maxRecDepth 100000 in
set_option maxHeartbeats 400000 in
theorem refRight_any (s : ByteArray) (w : World) :
    Calls Tryd.prog 14 #[.string s] w fun e w' => e = .returned (.bool (Ky.right s)) ∧ w = w' := by
  obtain ⟨R, hR⟩ : ∃ R, Ky.right s = R := ⟨_, rfl⟩
  rw [hR]
  have H := Lib.hid hR
  clear hR
  by_cases h0 : s.size = 0
  · have h0' : (s.size : Int) = 0 := by omega
    have hr := H.out
    have h1 : R = false := by rw [← hr]; simp [Ky.right, h0]
    subst h1
    clear H hr
    go_enter Tryd.func14, Tryd.ntmps14
    go_wp2
    go_ret
    exact ⟨rfl, rfl⟩
  have h0' : ((s.size : Int) == 0) = false := beq_eq_false_iff_ne.2 (by omega)
  by_cases h16 : 16 < s.size
  · have h16' : (16 : Int) < s.size := by omega
    have hr := H.out
    have h1 : R = false := by rw [← hr]; simp [Ky.right, h16]
    subst h1
    clear H hr
    go_enter Tryd.func14, Tryd.ntmps14
    go_wp2
    go_ret
    exact ⟨rfl, rfl⟩
  have h16' : ¬ (16 : Int) < s.size := by omega
  have hr := H.out
  have hA : Hid (Ky.allPl s 0 = R) := by
    show _ = _
    rw [← hr]; simp [Ky.right, h0, h16]
  clear H hr
  have HZ := Lib.hid (Ky.rest_zero s)
  go_enter Tryd.func14, Tryd.ntmps14
  go_wp2
  go_loop [0, 3, 4] (fun v _ _ => ∃ (p : Nat) (t : ByteArray), p ≤ s.size ∧ v = .string t ∧ Hid (t.size = s.size - p) ∧ Hid (t = s.extract p s.size) ∧ Hid (Ky.allPl s p = R)) (fun v _ _ => match v with | .string t => t.size | _ => 0)
  case atStart => exact ⟨0, s, Nat.zero_le _, rfl, Lib.hid (show s.size = s.size - 0 by omega), HZ.out.symm, hA⟩
  case round =>
    obtain ⟨p, t, hp, rfl, hts0, ht, hall⟩ := hrel
    by_cases hlt : p < s.size
    · obtain ⟨c, m, d1, d2, m1, m4, hpm, hc, hts, hte⟩ := rest_facts s t p hlt ht.out
      have htp : (0 : Int) < t.size := by omega
      have htl : t.size ≤ 16 := by omega
      obtain ⟨C, M, hCM⟩ : ∃ C M, Ky.refL (Utf8.decode t 0) = (C, M) := ⟨_, _, rfl⟩
      have hL : Hid (∀ W, Calls Tryd.prog 22 #[.string t] W fun e w' => e = .returned (.tuple #[.int .i64 C, .int .i64 M]) ∧ W = w') := fun W => letter_any t W (by omega) (by omega) C M hCM
      have hst := hall.out
      rw [Ky.allPl_step s p hlt, d1] at hst
      clear hall
      rw [d2] at hCM
      have hpl := Ky.plain_ref c m
      rw [hCM] at hpl
      dsimp only at hpl
      have hM : M = m := by
        have := congrArg Prod.snd hCM
        unfold Ky.refL at this
        split at this
        · rename_i h; simp at this; omega
        · simpa using this.symm
      have hCr : -1 ≤ C ∧ C ≤ 1114111 := by
        have := congrArg Prod.fst hCM
        unfold Ky.refL at this
        split at this
        · simp at this; omega
        · simp at this; omega
      subst hM
      dsimp only at hst
      rw [← hpl] at hst
      have HST := Lib.hid hst
      have HTE := Lib.hid hte
      have hMle : (M : Int) ≤ t.size := by omega
      clear hst hte d1 d2 hpl hCM hts
      obtain ⟨B, hB⟩ : ∃ B, Ky.plainI C = B := ⟨_, rfl⟩
      have HP : Hid (∀ W, Calls Tryd.prog 25 #[.int .i64 C] W fun e w' => e = .returned (.bool B) ∧ W = w') := fun W => by
        rw [← hB]; exact refPlain_any C W hCr.1 hCr.2
      have HB := Lib.hid hB
      clear hB
      cases B
      · have hR : R = false := by
          have := HST.out
          rw [← this, HB.out]; rfl
        subst hR
        clear HST HB
        go_wp2_with (first | (go_at_call 22; refine (hL.out _).mono ?_; rintro e W2 ⟨rfl, rfl⟩) | (go_at_call 25; refine (HP.out _).mono ?_; rintro e W2 ⟨rfl, rfl⟩))
        go_ret
        exact ⟨rfl, rfl⟩
      · have hA2 : Hid (Ky.allPl s (p + M) = R) := by
          have := HST.out
          show _ = _
          rw [← this, HB.out]; rfl
        clear HST HB
        go_wp2_with (first | (go_at_call 22; refine (hL.out _).mono ?_; rintro e W2 ⟨rfl, rfl⟩) | (go_at_call 25; refine (HP.out _).mono ?_; rintro e W2 ⟨rfl, rfl⟩))
        go_round
        case rel => exact ⟨p + M, t.extract M t.size, hpm, rfl, (show _ = _ by rw [HTE.out, Ky.rest_size]), HTE, hA2⟩
        case measure =>
          have e2 : (t.extract M t.size).size = s.size - (p + M) := by rw [HTE.out, Ky.rest_size]
          show (t.extract M t.size).size < t.size
          rw [e2, hts0.out]; omega
    · have hR : R = true := by
        have := hall.out
        rw [← this, Ky.allPl_end s p hlt]
      subst hR
      have htz : ¬ (0 : Int) < t.size := by have := hts0.out; omega
      clear hall
      go_wp2
      go_ret
      exact ⟨rfl, rfl⟩

end Go.Proofs.YtiofjapakaoklaaDoor
