/-
  Contracts of package key's small functions and of the document's letter.
-/
import Derived.Test.YtiofjapakaoklaaDoorShelf
import Derived.Test.YtiofjapakaoklaaDoorOwns
import Derived.Test.YtiofjapakaoklaaDoorKyPlain
import Derived.Lib.OthersKept
namespace Go.Proofs.YtiofjapakaoklaaDoor
open Go.RowKit

set_option maxRecDepth 100000 in
set_option maxHeartbeats 400000 in
theorem plain_any (c n : Nat) (w : World) (hc : c ≤ 1114111) (hn : n ≤ 4) :
    Calls Tryd.prog 23 #[.int .i32 c, .int .i64 n] w fun e w' => e = .returned (.bool (Ky.plainB c n)) ∧ w = w' := by
  obtain ⟨R, hR⟩ : ∃ R, Ky.plainB c n = R := ⟨_, rfl⟩
  rw [hR]
  have H := Lib.hid hR
  clear hR
  by_cases h1 : c = 65533
  · subst h1
    by_cases h2 : n = 1
    · subst h2
      go_enter Tryd.func23, Tryd.ntmps23
      go_wp2
      go_ret
      rw [← H.out]
      exact ⟨rfl, rfl⟩
    · have h2' : ((n : Int) == 1) = false := by simp; omega
      go_enter Tryd.func23, Tryd.ntmps23
      go_wp2
      go_ret
      rw [← H.out]
      simp [Ky.plainB, h2]
  · have h1' : ((c : Int) == 65533) = false := by simp; omega
    go_enter Tryd.func23, Tryd.ntmps23
    go_wp2
    all_goals go_ret
    all_goals (rw [← H.out]; simp [Ky.plainB, h1]; first | omega | (rw [Bool.eq_iff_iff]; simp only [Bool.or_eq_true, Bool.and_eq_true, decide_eq_true_eq]; omega))

set_option maxRecDepth 100000 in
set_option maxHeartbeats 400000 in
theorem size_any (t : ByteArray) (c n : Nat) (w : World) (ht : 0 < t.size) (hd : Utf8.decode t 0 = (c, n)) :
    Calls Tryd.prog 24 #[.int .i32 c, .string t] w fun e w' => e = .returned (.int .i64 n) ∧ w = w' := by
  have H := Lib.hid (Ky.size_eq t c n ht hd)
  clear hd
  obtain ⟨R, hR⟩ : ∃ R, Ky.prefB t = R := ⟨_, rfl⟩
  rw [hR] at H
  have cP : ∀ W, Calls Tryd.prog 33 #[.string t, .string { data := #[239, 191, 189] }] W fun e w' => e = .returned (.bool R) ∧ w' = W := fun W => by
    rw [← hR]; exact Tryd.strings_HasPrefix t _ W
  clear hR
  have HP := Lib.hid cP
  clear cP
  by_cases h1 : c = 65533
  · subst h1
    cases R
    · go_enter Tryd.func24, Tryd.ntmps24
      go_wp2_with (go_at_call 33; refine (HP.out _).mono ?_; rintro e w1 ⟨rfl, rfl⟩)
      go_ret
      have := H.out
      simp at this
      rw [← this]
      simp
    · go_enter Tryd.func24, Tryd.ntmps24
      go_wp2_with (first | (go_at_call 33; refine (HP.out _).mono ?_; rintro e w1 ⟨rfl, rfl⟩) | (go_at_call 34; refine (Tryd.utf8_RuneLen _ _).mono ?_; rintro e w1 ⟨rfl, rfl⟩))
      go_ret
      have := H.out
      simp at this
      rw [← this]
      simp
  · have h1' : ((c : Int) == 65533) = false := by simp; omega
    go_enter Tryd.func24, Tryd.ntmps24
    go_wp2_with (go_at_call 34; refine (Tryd.utf8_RuneLen _ _).mono ?_; rintro e w1 ⟨rfl, rfl⟩)
    go_ret
    have := H.out
    simp [h1] at this
    rw [this]
    simp

set_option maxRecDepth 100000 in
set_option maxHeartbeats 400000 in
theorem refPlain_any (c : Int) (w : World) (h0 : -1 ≤ c) (h1 : c ≤ 1114111) :
    Calls Tryd.prog 25 #[.int .i64 c] w fun e w' => e = .returned (.bool (Ky.plainI c)) ∧ w = w' := by
  obtain ⟨R, hR⟩ : ∃ R, Ky.plainI c = R := ⟨_, rfl⟩
  rw [hR]
  have H := Lib.hid hR
  clear hR
  go_enter Tryd.func25, Tryd.ntmps25
  go_wp2
  all_goals go_ret
  all_goals (rw [← H.out]; simp_all [Ky.plainI]; try omega)

/-! ### The document's letter -/
/-- The letter so far, behind i bytes. -/
def accN (s : ByteArray) (lead : Nat) : Nat → Nat
  | 0 => lead
  | 1 => lead
  | k + 2 => 64 * accN s lead (k + 1) + (s.get! (k + 1)).toNat - 128
theorem acc1 (s : ByteArray) (l : Nat) : accN s l 1 = l := rfl
theorem acc2 (s : ByteArray) (l : Nat) : accN s l 2 = 64 * l + (s.get! 1).toNat - 128 := rfl
theorem acc3 (s : ByteArray) (l : Nat) : accN s l 3 = 64 * (64 * l + (s.get! 1).toNat - 128) + (s.get! 2).toNat - 128 := rfl
theorem acc4 (s : ByteArray) (l : Nat) : accN s l 4 = 64 * (64 * (64 * l + (s.get! 1).toNat - 128) + (s.get! 2).toNat - 128) + (s.get! 3).toNat - 128 := rfl
theorem acc_next (s : ByteArray) (l k : Nat) (hk : 1 ≤ k) : accN s l (k + 1) = 64 * accN s l k + (s.get! k).toNat - 128 := by
  obtain ⟨j, rfl⟩ : ∃ j, k = j + 1 := ⟨k - 1, by omega⟩
  rfl
theorem accN_lt (s : ByteArray) (lead : Nat) (hl : lead < 32) (k : Nat) (h1 : 1 ≤ k) (h4 : k ≤ 4) : accN s lead k < 2147483648 := by
  have := (s.get! 1).toNat_lt
  have := (s.get! 2).toNat_lt
  have := (s.get! 3).toNat_lt
  obtain rfl | rfl | rfl | rfl : k = 1 ∨ k = 2 ∨ k = 3 ∨ k = 4 := by omega
  · rw [acc1]; omega
  · rw [acc2]; omega
  · rw [acc3]; omega
  · rw [acc4]; omega

/-- The bytes behind the first are continuations, as far as place k. -/
def contN (s : ByteArray) (k : Nat) : Prop := ∀ i, 1 ≤ i → i < k → 128 ≤ (s.get! i).toNat ∧ (s.get! i).toNat ≤ 191

set_option maxHeartbeats 1000000 in
theorem bad_len (s : ByteArray) (hs : 0 < s.size) (m : Nat) (h : s.size < m)
    (hb : (m = 2 ∧ 192 ≤ (s.get! 0).toNat ∧ (s.get! 0).toNat < 224) ∨ (m = 3 ∧ 224 ≤ (s.get! 0).toNat ∧ (s.get! 0).toNat < 240) ∨ (m = 4 ∧ 240 ≤ (s.get! 0).toNat)) : Utf8.decode s 0 = (65533, 1) := by
  rw [Lib.decode_at]
  unfold Lib.decodeN
  have := (s.get! 0).toNat_lt
  repeat' split
  all_goals first | rfl | (exfalso; omega)

set_option maxHeartbeats 1000000 in
theorem bad_cont (s : ByteArray) (hs : 0 < s.size) (i : Nat) (h1 : 1 ≤ i) (h : (s.get! i).toNat < 128 ∨ 191 < (s.get! i).toNat)
    (hb : (i < 2 ∧ 192 ≤ (s.get! 0).toNat ∧ (s.get! 0).toNat < 224) ∨ (i < 3 ∧ 224 ≤ (s.get! 0).toNat ∧ (s.get! 0).toNat < 240) ∨ (i < 4 ∧ 240 ≤ (s.get! 0).toNat)) : Utf8.decode s 0 = (65533, 1) := by
  rw [Lib.decode_at]
  have := (s.get! 0).toNat_lt
  obtain rfl | rfl | rfl : i = 1 ∨ i = 2 ∨ i = 3 := by omega
  all_goals
    unfold Lib.decodeN
    simp only [Nat.zero_add]
    repeat' split
    all_goals first | rfl | (exfalso; omega)

theorem bad_first (s : ByteArray) (h : (128 ≤ (s.get! 0).toNat ∧ (s.get! 0).toNat < 194) ∨ 245 ≤ (s.get! 0).toNat) : Utf8.decode s 0 = (65533, 1) := by
  rw [Lib.decode_at]
  have := (s.get! 0).toNat_lt
  have := (s.get! 1).toNat_lt
  have := (s.get! 2).toNat_lt
  have := (s.get! 3).toNat_lt
  unfold Lib.decodeN
  simp only [Nat.zero_add]
  repeat' split
  all_goals first | rfl | (exfalso; omega)

set_option maxRecDepth 100000 in
theorem good2 (s : ByteArray) (h : 2 ≤ s.size) (hb : 194 ≤ (s.get! 0).toNat ∧ (s.get! 0).toNat < 224) (hc : contN s 2) :
    Utf8.decode s 0 = (accN s ((s.get! 0).toNat - 192) 2, 2) ∧ 128 ≤ accN s ((s.get! 0).toNat - 192) 2 ∧ accN s ((s.get! 0).toNat - 192) 2 < 2048 := by
  have c1 := hc 1 (by omega) (by omega)
  rw [Lib.decode_at, acc2]
  simp only [Nat.zero_add, Nat.sub_zero]
  generalize (s.get! 0).toNat = b0 at *
  generalize (s.get! 1).toNat = b1 at *
  unfold Lib.decodeN
  refine ⟨?_, by omega, by omega⟩
  repeat' split
  all_goals first | (apply Prod.ext <;> simp only <;> omega) | (exfalso; omega)

set_option maxRecDepth 100000 in
set_option maxHeartbeats 1000000 in
theorem good3 (s : ByteArray) (h : 3 ≤ s.size) (hb : 224 ≤ (s.get! 0).toNat ∧ (s.get! 0).toNat < 240) (hc : contN s 3) :
    Utf8.decode s 0 = (if accN s ((s.get! 0).toNat - 224) 3 < 2048 ∨ (55296 ≤ accN s ((s.get! 0).toNat - 224) 3 ∧ accN s ((s.get! 0).toNat - 224) 3 < 57344) then (65533, 1) else (accN s ((s.get! 0).toNat - 224) 3, 3)) ∧ accN s ((s.get! 0).toNat - 224) 3 < 65536 := by
  have c1 := hc 1 (by omega) (by omega)
  have c2 := hc 2 (by omega) (by omega)
  rw [Lib.decode_at, acc3]
  simp only [Nat.zero_add, Nat.sub_zero]
  generalize (s.get! 0).toNat = b0 at *
  generalize (s.get! 1).toNat = b1 at *
  generalize (s.get! 2).toNat = b2 at *
  unfold Lib.decodeN
  refine ⟨?_, by omega⟩
  repeat' split
  all_goals first | rfl | (exfalso; omega) | (apply Prod.ext <;> simp only <;> omega)

set_option maxRecDepth 100000 in
set_option maxHeartbeats 1000000 in
theorem good4 (s : ByteArray) (h : 4 ≤ s.size) (hb : 240 ≤ (s.get! 0).toNat ∧ (s.get! 0).toNat < 245) (hc : contN s 4) :
    Utf8.decode s 0 = (if accN s ((s.get! 0).toNat - 240) 4 < 65536 ∨ 1114111 < accN s ((s.get! 0).toNat - 240) 4 then (65533, 1) else (accN s ((s.get! 0).toNat - 240) 4, 4)) := by
  have c1 := hc 1 (by omega) (by omega)
  have c2 := hc 2 (by omega) (by omega)
  have c3 := hc 3 (by omega) (by omega)
  rw [Lib.decode_at, acc4]
  simp only [Nat.zero_add, Nat.sub_zero]
  generalize (s.get! 0).toNat = b0 at *
  generalize (s.get! 1).toNat = b1 at *
  generalize (s.get! 2).toNat = b2 at *
  generalize (s.get! 3).toNat = b3 at *
  unfold Lib.decodeN
  repeat' split
  all_goals first | rfl | (exfalso; omega) | (apply Prod.ext <;> simp only <;> omega)

end Go.Proofs.YtiofjapakaoklaaDoor
