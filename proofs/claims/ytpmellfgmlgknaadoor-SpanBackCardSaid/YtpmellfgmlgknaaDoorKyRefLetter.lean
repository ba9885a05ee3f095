/-
  The document's letter (stratigraphref04).
-/
import Derived.Test.YtpmellfgmlgknaaDoorKyRest
namespace Go.Proofs.YtpmellfgmlgknaaDoor
open Go.RowKit
set_option linter.unusedVariables false

set_option maxRecDepth 100000 in
set_option maxHeartbeats 400000 in
theorem refPlain_any (c : Int) (w : World) (h0 : -1 ≤ c) (h1 : c ≤ 1114111) :
    Calls Tryd.prog 32 #[.int .i64 c] w fun e w' => e = .returned (.bool (Ky.plainI c)) ∧ w = w' := by
  obtain ⟨R, hR⟩ : ∃ R, Ky.plainI c = R := ⟨_, rfl⟩
  rw [hR]
  have H := Lib.hid hR
  clear hR
  go_enter Tryd.func32, Tryd.ntmps32
  go_wp2
  all_goals go_ret
  all_goals (rw [← H.out]; simp_all [Ky.plainI]; try omega)

/-! ### The document's letter -/
/-- The letter so far, behind i bytes. -/
def accN (s : ByteArray) (lead : Nat) : Nat → Nat
  | 0 => lead
  | 1 => lead
  | k + 2 => 64 * accN s lead (k + 1) + (s.get! (k + 1)).toNat - 128
theorem acc1 (s : ByteArray) (l : Nat) : accN s l 1 = l := rfl
theorem acc2 (s : ByteArray) (l : Nat) : accN s l 2 = 64 * l + (s.get! 1).toNat - 128 := rfl
theorem acc3 (s : ByteArray) (l : Nat) : accN s l 3 = 64 * (64 * l + (s.get! 1).toNat - 128) + (s.get! 2).toNat - 128 := rfl
theorem acc4 (s : ByteArray) (l : Nat) : accN s l 4 = 64 * (64 * (64 * l + (s.get! 1).toNat - 128) + (s.get! 2).toNat - 128) + (s.get! 3).toNat - 128 := rfl
theorem acc_next (s : ByteArray) (l k : Nat) (hk : 1 ≤ k) : accN s l (k + 1) = 64 * accN s l k + (s.get! k).toNat - 128 := by
  obtain ⟨j, rfl⟩ : ∃ j, k = j + 1 := ⟨k - 1, by omega⟩
  rfl
theorem accN_lt (s : ByteArray) (lead : Nat) (hl : lead < 32) (k : Nat) (h1 : 1 ≤ k) (h4 : k ≤ 4) : accN s lead k < 2147483648 := by
  have := (s.get! 1).toNat_lt
  have := (s.get! 2).toNat_lt
  have := (s.get! 3).toNat_lt
  obtain rfl | rfl | rfl | rfl : k = 1 ∨ k = 2 ∨ k = 3 ∨ k = 4 := by omega
  · rw [acc1]; omega
  · rw [acc2]; omega
  · rw [acc3]; omega
  · rw [acc4]; omega

/-- The bytes behind the first are continuations, as far as place k. -/
def contN (s : ByteArray) (k : Nat) : Prop := ∀ i, 1 ≤ i → i < k → 128 ≤ (s.get! i).toNat ∧ (s.get! i).toNat ≤ 191

set_option maxHeartbeats 1000000 in
theorem bad_len (s : ByteArray) (hs : 0 < s.size) (m : Nat) (h : s.size < m)
    (hb : (m = 2 ∧ 192 ≤ (s.get! 0).toNat ∧ (s.get! 0).toNat < 224) ∨ (m = 3 ∧ 224 ≤ (s.get! 0).toNat ∧ (s.get! 0).toNat < 240) ∨ (m = 4 ∧ 240 ≤ (s.get! 0).toNat)) : Utf8.decode s 0 = (65533, 1) := by
  rw [Lib.decode_at]
  unfold Lib.decodeN
  have := (s.get! 0).toNat_lt
  repeat' split
  all_goals first | rfl | (exfalso; omega)

set_option maxHeartbeats 1000000 in
theorem bad_cont (s : ByteArray) (hs : 0 < s.size) (i : Nat) (h1 : 1 ≤ i) (h : (s.get! i).toNat < 128 ∨ 191 < (s.get! i).toNat)
    (hb : (i < 2 ∧ 192 ≤ (s.get! 0).toNat ∧ (s.get! 0).toNat < 224) ∨ (i < 3 ∧ 224 ≤ (s.get! 0).toNat ∧ (s.get! 0).toNat < 240) ∨ (i < 4 ∧ 240 ≤ (s.get! 0).toNat)) : Utf8.decode s 0 = (65533, 1) := by
  rw [Lib.decode_at]
  have := (s.get! 0).toNat_lt
  obtain rfl | rfl | rfl : i = 1 ∨ i = 2 ∨ i = 3 := by omega
  all_goals
    unfold Lib.decodeN
    simp only [Nat.zero_add]
    repeat' split
    all_goals first | rfl | (exfalso; omega)

theorem bad_first (s : ByteArray) (h : (128 ≤ (s.get! 0).toNat ∧ (s.get! 0).toNat < 194) ∨ 245 ≤ (s.get! 0).toNat) : Utf8.decode s 0 = (65533, 1) := by
  rw [Lib.decode_at]
  have := (s.get! 0).toNat_lt
  have := (s.get! 1).toNat_lt
  have := (s.get! 2).toNat_lt
  have := (s.get! 3).toNat_lt
  unfold Lib.decodeN
  simp only [Nat.zero_add]
  repeat' split
  all_goals first | rfl | (exfalso; omega)

set_option maxRecDepth 100000 in
theorem good2 (s : ByteArray) (h : 2 ≤ s.size) (hb : 194 ≤ (s.get! 0).toNat ∧ (s.get! 0).toNat < 224) (hc : contN s 2) :
    Utf8.decode s 0 = (accN s ((s.get! 0).toNat - 192) 2, 2) ∧ 128 ≤ accN s ((s.get! 0).toNat - 192) 2 ∧ accN s ((s.get! 0).toNat - 192) 2 < 2048 := by
  have c1 := hc 1 (by omega) (by omega)
  rw [Lib.decode_at, acc2]
  simp only [Nat.zero_add, Nat.sub_zero]
  generalize (s.get! 0).toNat = b0 at *
  generalize (s.get! 1).toNat = b1 at *
  unfold Lib.decodeN
  refine ⟨?_, by omega, by omega⟩
  repeat' split
  all_goals first | (apply Prod.ext <;> simp only <;> omega) | (exfalso; omega)

set_option maxRecDepth 100000 in
set_option maxHeartbeats 1000000 in
theorem good3 (s : ByteArray) (h : 3 ≤ s.size) (hb : 224 ≤ (s.get! 0).toNat ∧ (s.get! 0).toNat < 240) (hc : contN s 3) :
    Utf8.decode s 0 = (if accN s ((s.get! 0).toNat - 224) 3 < 2048 ∨ (55296 ≤ accN s ((s.get! 0).toNat - 224) 3 ∧ accN s ((s.get! 0).toNat - 224) 3 < 57344) then (65533, 1) else (accN s ((s.get! 0).toNat - 224) 3, 3)) ∧ accN s ((s.get! 0).toNat - 224) 3 < 65536 := by
  have c1 := hc 1 (by omega) (by omega)
  have c2 := hc 2 (by omega) (by omega)
  rw [Lib.decode_at, acc3]
  simp only [Nat.zero_add, Nat.sub_zero]
  generalize (s.get! 0).toNat = b0 at *
  generalize (s.get! 1).toNat = b1 at *
  generalize (s.get! 2).toNat = b2 at *
  unfold Lib.decodeN
  refine ⟨?_, by omega⟩
  repeat' split
  all_goals first | rfl | (exfalso; omega) | (apply Prod.ext <;> simp only <;> omega)

set_option maxRecDepth 100000 in
set_option maxHeartbeats 1000000 in
theorem good4 (s : ByteArray) (h : 4 ≤ s.size) (hb : 240 ≤ (s.get! 0).toNat ∧ (s.get! 0).toNat < 245) (hc : contN s 4) :
    Utf8.decode s 0 = (if accN s ((s.get! 0).toNat - 240) 4 < 65536 ∨ 1114111 < accN s ((s.get! 0).toNat - 240) 4 then (65533, 1) else (accN s ((s.get! 0).toNat - 240) 4, 4)) := by
  have c1 := hc 1 (by omega) (by omega)
  have c2 := hc 2 (by omega) (by omega)
  have c3 := hc 3 (by omega) (by omega)
  rw [Lib.decode_at, acc4]
  simp only [Nat.zero_add, Nat.sub_zero]
  generalize (s.get! 0).toNat = b0 at *
  generalize (s.get! 1).toNat = b1 at *
  generalize (s.get! 2).toNat = b2 at *
  generalize (s.get! 3).toNat = b3 at *
  unfold Lib.decodeN
  repeat' split
  all_goals first | rfl | (exfalso; omega) | (apply Prod.ext <;> simp only <;> omega)

theorem refL_bad : Ky.refL (65533, 1) = (-1, 1) := rfl
theorem refL_good {c n : Nat} (h : ¬ (c = 65533 ∧ n = 1)) : Ky.refL (c, n) = ((c : Int), n) := by simp [Ky.refL, h]

set_option maxRecDepth 100000 in
set_option maxHeartbeats 400000 in
theorem letter1 (s : ByteArray) (w : World) (hs : 0 < s.size) (hb : (s.get! 0).toNat < 128 ∨ (128 ≤ (s.get! 0).toNat ∧ (s.get! 0).toNat < 194) ∨ 245 ≤ (s.get! 0).toNat) (c : Int) (n : Nat) (hd : Ky.refL (Utf8.decode s 0) = (c, n)) :
    Calls Tryd.prog 31 #[.string s] w fun e w' => e = .returned (.tuple #[.int .i64 c, .int .i64 n]) ∧ w = w' := by
  have H := Lib.hid hd
  clear hd
  have hz0 : (0 : Int) < (s.size : Int) := by omega
  have BF := Lib.hid (bad_first s)
  have DA : Hid ((s.get! 0).toNat < 128 → Utf8.decode s 0 = ((s.get! 0).toNat, 1)) := by
    intro h
    rw [Lib.decode_at]
    unfold Lib.decodeN
    rw [if_pos h]
  obtain ⟨x0, hx0⟩ : ∃ x0, s.get! 0 = x0 := ⟨_, rfl⟩
  have hs0 : s[0]'hs = x0 := by rw [← hx0]; exact (Ky.get!_lt s 0 hs).symm
  rw [hx0] at hb BF DA
  clear hx0
  have l0 := x0.toNat_lt
  by_cases h1 : x0.toNat < 128
  · have h1' : (x0.toNat : Int) < 128 := by omega
    go_enter Tryd.func31, Tryd.ntmps31
    go_wp2
    go_ret2
    have h := H.out
    rw [DA.out h1, refL_good (by omega)] at h
    cases h
    exact ⟨rfl, rfl⟩
  · have h1' : ¬ (x0.toNat : Int) < 128 := by omega
    have hb2 : (x0.toNat : Int) < 194 ∨ (245 : Int) ≤ x0.toNat := by omega
    have h := H.out
    rw [BF.out (by omega), refL_bad] at h
    obtain ⟨rfl, rfl⟩ : (-1 : Int) = c ∧ 1 = n := by simpa using h
    clear h H BF DA hb
    rcases hb2 with hb2 | hb2
    · go_enter Tryd.func31, Tryd.ntmps31
      go_wp2
      go_ret2
      exact ⟨rfl, rfl⟩
    · go_enter Tryd.func31, Tryd.ntmps31
      go_wp2
      go_ret2
      exact ⟨rfl, rfl⟩

set_option maxRecDepth 100000 in
set_option maxHeartbeats 400000 in
theorem letter2 (s : ByteArray) (w : World) (hs : 0 < s.size) (hlim : s.size ≤ 9223372036854775807) (hb : 194 ≤ (s.get! 0).toNat ∧ (s.get! 0).toNat < 224) (c : Int) (n : Nat) (hd : Ky.refL (Utf8.decode s 0) = (c, n)) :
    Calls Tryd.prog 31 #[.string s] w fun e w' => e = .returned (.tuple #[.int .i64 c, .int .i64 n]) ∧ w = w' := by
  have H := Lib.hid hd
  clear hd
  have hz0 : (0 : Int) < (s.size : Int) := by omega
  have BL := Lib.hid (bad_len s hs 2)
  have BC := Lib.hid (bad_cont s hs)
  have GO := Lib.hid (good2 s)
  have AL := Lib.hid (accN_lt s ((s.get! 0).toNat - 192) (by omega))
  have AN := Lib.hid (acc_next s ((s.get! 0).toNat - 192))
  have A1 := Lib.hid (acc1 s ((s.get! 0).toNat - 192))
  obtain ⟨x0, hx0⟩ : ∃ x0, s.get! 0 = x0 := ⟨_, rfl⟩
  have hs0 : s[0]'hs = x0 := by rw [← hx0]; exact (Ky.get!_lt s 0 hs).symm
  rw [hx0] at hb BL BC GO AL AN A1
  clear hx0
  have l0 := x0.toNat_lt
  have hb1 : (194 : Int) ≤ (x0.toNat : Int) := by omega
  have hb2 : (x0.toNat : Int) < 224 := by omega
  by_cases hsz : s.size < 2
  · have hsz' : (s.size : Int) < 2 := by omega
    have h := H.out
    rw [BL.out hsz (by omega), refL_bad] at h
    obtain ⟨rfl, rfl⟩ : (-1 : Int) = c ∧ 1 = n := by simpa using h
    clear h H BL BC GO AL AN A1 hb
    go_enter Tryd.func31, Tryd.ntmps31
    go_wp2
    go_ret2
    exact ⟨rfl, rfl⟩
  · have hsz' : ¬ (s.size : Int) < 2 := by omega
    clear BL
    obtain ⟨A, hA⟩ : ∃ A, accN s (x0.toNat - 192) = A := ⟨_, rfl⟩
    rw [hA] at GO AL AN A1
    clear hA
    go_enter Tryd.func31, Tryd.ntmps31
    go_wp2
    go_loop [4, 7] (fun a i => ∃ k : Nat, 1 ≤ k ∧ k ≤ 2 ∧ i = .int .i64 k ∧ a = .int .i64 (A k) ∧ contN s k) (fun _ i => 2 - (intOf i).toNat)
    case atStart => exact ⟨1, by omega, by omega, rfl, by rw [A1.out]; go_num, fun i h1 h2 => by omega⟩
    case round =>
      obtain ⟨k, hk1, hk, rfl, rfl, hc0⟩ := hrel
      have hc := Lib.hid hc0
      clear hc0
      by_cases hlt : k < 2
      · have hks : k < s.size := by omega
        obtain ⟨x, hx⟩ : ∃ x, s.get! k = x := ⟨_, rfl⟩
        have hsk : s[k]'hks = x := by rw [← hx]; exact (Ky.get!_lt s k hks).symm
        have HX := Lib.hid hx
        clear hx
        have hA := AL.out k hk1 (by omega)
        have hlx := x.toNat_lt
        by_cases hx1 : x.toNat < 128
        · have hx1' : (x.toNat : Int) < 128 := by omega
          have h := H.out
          rw [BC.out k hk1 (by rw [HX.out]; omega) (by omega), refL_bad] at h
          obtain ⟨rfl, rfl⟩ : (-1 : Int) = c ∧ 1 = n := by simpa using h
          clear h H BC GO AL AN A1 hb
          go_wp2
          go_ret2
          exact ⟨rfl, rfl⟩
        · have hx1' : ¬ (x.toNat : Int) < 128 := by omega
          by_cases hx2 : 191 < x.toNat
          · have hx2' : (191 : Int) < x.toNat := by omega
            have h := H.out
            rw [BC.out k hk1 (by rw [HX.out]; omega) (by omega), refL_bad] at h
            obtain ⟨rfl, rfl⟩ : (-1 : Int) = c ∧ 1 = n := by simpa using h
            clear h H BC GO AL AN A1 hb
            go_wp2
            go_ret2
            exact ⟨rfl, rfl⟩
          · have hx2' : ¬ (191 : Int) < x.toNat := by omega
            have hm1 : 0 ≤ (64 : Int) * (A k : Int) := by omega
            have hm2 : (64 : Int) * (A k : Int) ≤ 9223372036854775000 := by omega
            go_wp2
            go_round
            case rel =>
              refine ⟨k + 1, by omega, by omega, by go_num, ?_, ?_⟩
              · rw [AN.out k hk1, HX.out]
                go_num
              · intro i h1 h2
                by_cases e : i = k
                · subst e
                  rw [HX.out]; omega
                · exact hc.out i h1 (by omega)
            case measure => simp [intOf]; omega
      · obtain rfl : k = 2 := by omega
        have hA := AL.out 2 (by omega) (by omega)
        have G := GO.out (by omega) (by omega) hc.out
        have h := H.out
        clear H BC GO AL AN A1 hb hc
        generalize A 2 = v at *
        have G2 := Lib.hid G
        have h2 := Lib.hid h
        clear G h
        go_wp2
        all_goals go_ret2
        all_goals have G := G2.out
        all_goals have h := h2.out
        all_goals rw [G.1, refL_good (by omega)] at h
        all_goals have g2 := G.2
        all_goals first | (cases h; exact ⟨rfl, rfl⟩) | (exfalso; omega)

set_option maxRecDepth 100000 in
set_option maxHeartbeats 400000 in
theorem letter3 (s : ByteArray) (w : World) (hs : 0 < s.size) (hlim : s.size ≤ 9223372036854775807) (hb : 224 ≤ (s.get! 0).toNat ∧ (s.get! 0).toNat < 240) (c : Int) (n : Nat) (hd : Ky.refL (Utf8.decode s 0) = (c, n)) :
    Calls Tryd.prog 31 #[.string s] w fun e w' => e = .returned (.tuple #[.int .i64 c, .int .i64 n]) ∧ w = w' := by
  have H := Lib.hid hd
  clear hd
  have hz0 : (0 : Int) < (s.size : Int) := by omega
  have BL := Lib.hid (bad_len s hs 3)
  have BC := Lib.hid (bad_cont s hs)
  have GO := Lib.hid (good3 s)
  have AL := Lib.hid (accN_lt s ((s.get! 0).toNat - 224) (by omega))
  have AN := Lib.hid (acc_next s ((s.get! 0).toNat - 224))
  have A1 := Lib.hid (acc1 s ((s.get! 0).toNat - 224))
  obtain ⟨x0, hx0⟩ : ∃ x0, s.get! 0 = x0 := ⟨_, rfl⟩
  have hs0 : s[0]'hs = x0 := by rw [← hx0]; exact (Ky.get!_lt s 0 hs).symm
  rw [hx0] at hb BL BC GO AL AN A1
  clear hx0
  have l0 := x0.toNat_lt
  have hb1 : (224 : Int) ≤ (x0.toNat : Int) := by omega
  have hb2 : (x0.toNat : Int) < 240 := by omega
  by_cases hsz : s.size < 3
  · have hsz' : (s.size : Int) < 3 := by omega
    have h := H.out
    rw [BL.out hsz (by omega), refL_bad] at h
    obtain ⟨rfl, rfl⟩ : (-1 : Int) = c ∧ 1 = n := by simpa using h
    clear h H BL BC GO AL AN A1 hb
    go_enter Tryd.func31, Tryd.ntmps31
    go_wp2
    go_ret2
    exact ⟨rfl, rfl⟩
  · have hsz' : ¬ (s.size : Int) < 3 := by omega
    clear BL
    obtain ⟨A, hA⟩ : ∃ A, accN s (x0.toNat - 224) = A := ⟨_, rfl⟩
    rw [hA] at GO AL AN A1
    clear hA
    go_enter Tryd.func31, Tryd.ntmps31
    go_wp2
    go_loop [4, 7] (fun a i => ∃ k : Nat, 1 ≤ k ∧ k ≤ 3 ∧ i = .int .i64 k ∧ a = .int .i64 (A k) ∧ contN s k) (fun _ i => 3 - (intOf i).toNat)
    case atStart => exact ⟨1, by omega, by omega, rfl, by rw [A1.out]; go_num, fun i h1 h2 => by omega⟩
    case round =>
      obtain ⟨k, hk1, hk, rfl, rfl, hc0⟩ := hrel
      have hc := Lib.hid hc0
      clear hc0
      by_cases hlt : k < 3
      · have hks : k < s.size := by omega
        obtain ⟨x, hx⟩ : ∃ x, s.get! k = x := ⟨_, rfl⟩
        have hsk : s[k]'hks = x := by rw [← hx]; exact (Ky.get!_lt s k hks).symm
        have HX := Lib.hid hx
        clear hx
        have hA := AL.out k hk1 (by omega)
        have hlx := x.toNat_lt
        by_cases hx1 : x.toNat < 128
        · have hx1' : (x.toNat : Int) < 128 := by omega
          have h := H.out
          rw [BC.out k hk1 (by rw [HX.out]; omega) (by omega), refL_bad] at h
          obtain ⟨rfl, rfl⟩ : (-1 : Int) = c ∧ 1 = n := by simpa using h
          clear h H BC GO AL AN A1 hb
          go_wp2
          go_ret2
          exact ⟨rfl, rfl⟩
        · have hx1' : ¬ (x.toNat : Int) < 128 := by omega
          by_cases hx2 : 191 < x.toNat
          · have hx2' : (191 : Int) < x.toNat := by omega
            have h := H.out
            rw [BC.out k hk1 (by rw [HX.out]; omega) (by omega), refL_bad] at h
            obtain ⟨rfl, rfl⟩ : (-1 : Int) = c ∧ 1 = n := by simpa using h
            clear h H BC GO AL AN A1 hb
            go_wp2
            go_ret2
            exact ⟨rfl, rfl⟩
          · have hx2' : ¬ (191 : Int) < x.toNat := by omega
            have hm1 : 0 ≤ (64 : Int) * (A k : Int) := by omega
            have hm2 : (64 : Int) * (A k : Int) ≤ 9223372036854775000 := by omega
            go_wp2
            go_round
            case rel =>
              refine ⟨k + 1, by omega, by omega, by go_num, ?_, ?_⟩
              · rw [AN.out k hk1, HX.out]
                go_num
              · intro i h1 h2
                by_cases e : i = k
                · subst e
                  rw [HX.out]; omega
                · exact hc.out i h1 (by omega)
            case measure => simp [intOf]; omega
      · obtain rfl : k = 3 := by omega
        have hA := AL.out 3 (by omega) (by omega)
        have G := GO.out (by omega) (by omega) hc.out
        have h := H.out
        clear H BC GO AL AN A1 hb hc
        generalize A 3 = v at *
        have G2 := Lib.hid G
        have h2 := Lib.hid h
        clear G h
        go_wp2
        all_goals go_ret2
        all_goals have G := G2.out
        all_goals have h := h2.out
        all_goals rw [G.1] at h
        all_goals have g2 := G.2
        all_goals (split at h <;> first | (exfalso; omega) | (rw [refL_bad] at h; obtain ⟨rfl, rfl⟩ : (-1 : Int) = c ∧ 1 = n := by simpa using h
                                                              exact ⟨rfl, rfl⟩) | (rw [refL_good (by omega)] at h; cases h; exact ⟨rfl, rfl⟩))

set_option maxRecDepth 100000 in
set_option maxHeartbeats 400000 in
theorem letter4 (s : ByteArray) (w : World) (hs : 0 < s.size) (hlim : s.size ≤ 9223372036854775807) (hb : 240 ≤ (s.get! 0).toNat ∧ (s.get! 0).toNat < 245) (c : Int) (n : Nat) (hd : Ky.refL (Utf8.decode s 0) = (c, n)) :
    Calls Tryd.prog 31 #[.string s] w fun e w' => e = .returned (.tuple #[.int .i64 c, .int .i64 n]) ∧ w = w' := by
  have H := Lib.hid hd
  clear hd
  have hz0 : (0 : Int) < (s.size : Int) := by omega
  have BL := Lib.hid (bad_len s hs 4)
  have BC := Lib.hid (bad_cont s hs)
  have GO := Lib.hid (good4 s)
  have AL := Lib.hid (accN_lt s ((s.get! 0).toNat - 240) (by omega))
  have AN := Lib.hid (acc_next s ((s.get! 0).toNat - 240))
  have A1 := Lib.hid (acc1 s ((s.get! 0).toNat - 240))
  obtain ⟨x0, hx0⟩ : ∃ x0, s.get! 0 = x0 := ⟨_, rfl⟩
  have hs0 : s[0]'hs = x0 := by rw [← hx0]; exact (Ky.get!_lt s 0 hs).symm
  rw [hx0] at hb BL BC GO AL AN A1
  clear hx0
  have l0 := x0.toNat_lt
  have hb1 : (240 : Int) ≤ (x0.toNat : Int) := by omega
  have hb2 : (x0.toNat : Int) < 245 := by omega
  by_cases hsz : s.size < 4
  · have hsz' : (s.size : Int) < 4 := by omega
    have h := H.out
    rw [BL.out hsz (by omega), refL_bad] at h
    obtain ⟨rfl, rfl⟩ : (-1 : Int) = c ∧ 1 = n := by simpa using h
    clear h H BL BC GO AL AN A1 hb
    go_enter Tryd.func31, Tryd.ntmps31
    go_wp2
    go_ret2
    exact ⟨rfl, rfl⟩
  · have hsz' : ¬ (s.size : Int) < 4 := by omega
    clear BL
    obtain ⟨A, hA⟩ : ∃ A, accN s (x0.toNat - 240) = A := ⟨_, rfl⟩
    rw [hA] at GO AL AN A1
    clear hA
    go_enter Tryd.func31, Tryd.ntmps31
    go_wp2
    go_loop [4, 7] (fun a i => ∃ k : Nat, 1 ≤ k ∧ k ≤ 4 ∧ i = .int .i64 k ∧ a = .int .i64 (A k) ∧ contN s k) (fun _ i => 4 - (intOf i).toNat)
    case atStart => exact ⟨1, by omega, by omega, rfl, by rw [A1.out]; go_num, fun i h1 h2 => by omega⟩
    case round =>
      obtain ⟨k, hk1, hk, rfl, rfl, hc0⟩ := hrel
      have hc := Lib.hid hc0
      clear hc0
      by_cases hlt : k < 4
      · have hks : k < s.size := by omega
        obtain ⟨x, hx⟩ : ∃ x, s.get! k = x := ⟨_, rfl⟩
        have hsk : s[k]'hks = x := by rw [← hx]; exact (Ky.get!_lt s k hks).symm
        have HX := Lib.hid hx
        clear hx
        have hA := AL.out k hk1 (by omega)
        have hlx := x.toNat_lt
        by_cases hx1 : x.toNat < 128
        · have hx1' : (x.toNat : Int) < 128 := by omega
          have h := H.out
          rw [BC.out k hk1 (by rw [HX.out]; omega) (by omega), refL_bad] at h
          obtain ⟨rfl, rfl⟩ : (-1 : Int) = c ∧ 1 = n := by simpa using h
          clear h H BC GO AL AN A1 hb
          go_wp2
          go_ret2
          exact ⟨rfl, rfl⟩
        · have hx1' : ¬ (x.toNat : Int) < 128 := by omega
          by_cases hx2 : 191 < x.toNat
          · have hx2' : (191 : Int) < x.toNat := by omega
            have h := H.out
            rw [BC.out k hk1 (by rw [HX.out]; omega) (by omega), refL_bad] at h
            obtain ⟨rfl, rfl⟩ : (-1 : Int) = c ∧ 1 = n := by simpa using h
            clear h H BC GO AL AN A1 hb
            go_wp2
            go_ret2
            exact ⟨rfl, rfl⟩
          · have hx2' : ¬ (191 : Int) < x.toNat := by omega
            have hm1 : 0 ≤ (64 : Int) * (A k : Int) := by omega
            have hm2 : (64 : Int) * (A k : Int) ≤ 9223372036854775000 := by omega
            go_wp2
            go_round
            case rel =>
              refine ⟨k + 1, by omega, by omega, by go_num, ?_, ?_⟩
              · rw [AN.out k hk1, HX.out]
                go_num
              · intro i h1 h2
                by_cases e : i = k
                · subst e
                  rw [HX.out]; omega
                · exact hc.out i h1 (by omega)
            case measure => simp [intOf]; omega
      · obtain rfl : k = 4 := by omega
        have hA := AL.out 4 (by omega) (by omega)
        have G := GO.out (by omega) (by omega) hc.out
        have h := H.out
        clear H BC GO AL AN A1 hb hc
        generalize A 4 = v at *
        have G2 := Lib.hid G
        have h2 := Lib.hid h
        clear G h
        go_wp2
        all_goals go_ret2
        all_goals have G := G2.out
        all_goals have h := h2.out
        all_goals rw [G] at h
        all_goals (split at h <;> first | (exfalso; omega) | (rw [refL_bad] at h; obtain ⟨rfl, rfl⟩ : (-1 : Int) = c ∧ 1 = n := by simpa using h
                                                              exact ⟨rfl, rfl⟩) | (rw [refL_good (by omega)] at h; cases h; exact ⟨rfl, rfl⟩))

theorem letter_any (s : ByteArray) (w : World) (hs : 0 < s.size) (hlim : s.size ≤ 9223372036854775807) (c : Int) (n : Nat) (hd : Ky.refL (Utf8.decode s 0) = (c, n)) :
    Calls Tryd.prog 31 #[.string s] w fun e w' => e = .returned (.tuple #[.int .i64 c, .int .i64 n]) ∧ w = w' := by
  have := (s.get! 0).toNat_lt
  by_cases h2 : 194 ≤ (s.get! 0).toNat ∧ (s.get! 0).toNat < 224
  · exact letter2 s w hs hlim h2 c n hd
  by_cases h3 : 224 ≤ (s.get! 0).toNat ∧ (s.get! 0).toNat < 240
  · exact letter3 s w hs hlim h3 c n hd
  by_cases h4 : 240 ≤ (s.get! 0).toNat ∧ (s.get! 0).toNat < 245
  · exact letter4 s w hs hlim h4 c n hd
  exact letter1 s w hs (by omega) c n hd

/-- The document's letter at a place: what the call answers, its code point, its width. -/
theorem ref_facts (s t : ByteArray) (p : Nat) (hp : p < s.size) (hlim : s.size ≤ 9223372036854775807) (ht : t = s.extract p s.size) :
    ∃ (C : Int) (c m : Nat), Utf8.decode s p = (c, m) ∧ -1 ≤ C ∧ C ≤ 1114111 ∧ (C = if c = 65533 ∧ m = 1 then -1 else (c : Int)) ∧ Ky.plainI C = Ky.plainB c m ∧ 1 ≤ m ∧ m ≤ 4 ∧ p + m ≤ s.size ∧ c ≤ 1114111 ∧ t.size = s.size - p ∧ t.extract m t.size = s.extract (p + m) s.size ∧
      Hid (∀ W, Calls Tryd.prog 31 #[.string t] W fun e w' => e = .returned (.tuple #[.int .i64 C, .int .i64 m]) ∧ W = w') := by
  obtain ⟨c, m, d1, d2, m1, m4, hpm, hc, hts, hte⟩ := rest_facts s t p hp ht
  have e : Ky.refL (Utf8.decode t 0) = (if c = 65533 ∧ m = 1 then (-1 : Int) else (c : Int), m) := by
    rw [d2]
    unfold Ky.refL
    by_cases h : c = 65533 ∧ m = 1
    · simp only [if_pos h]
      rw [h.2]
    · simp only [if_neg h]
  have hpl := Ky.plain_ref c m
  rw [← d2, e] at hpl
  dsimp only at hpl
  refine ⟨if c = 65533 ∧ m = 1 then (-1 : Int) else (c : Int), c, m, d1, ?_, ?_, rfl, hpl, m1, m4, hpm, hc, hts, hte, fun W => letter_any t W (by omega) (by omega) _ m e⟩
  · split <;> omega
  · split <;> omega

end Go.Proofs.YtpmellfgmlgknaaDoor
