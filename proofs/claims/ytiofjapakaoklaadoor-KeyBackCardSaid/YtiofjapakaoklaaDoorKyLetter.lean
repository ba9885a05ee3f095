/-
  The contract of the document's letter.
-/
import Derived.Test.YtiofjapakaoklaaDoorKyWalks
namespace Go.Proofs.YtiofjapakaoklaaDoor
open Go.RowKit

theorem refL_bad : Ky.refL (65533, 1) = (-1, 1) := rfl
theorem refL_good {c n : Nat} (h : ¬ (c = 65533 ∧ n = 1)) : Ky.refL (c, n) = ((c : Int), n) := by simp [Ky.refL, h]

set_option maxRecDepth 100000 in
set_option maxHeartbeats 400000 in
theorem letter1 (s : ByteArray) (w : World) (hs : 0 < s.size) (hb : (s.get! 0).toNat < 128 ∨ (128 ≤ (s.get! 0).toNat ∧ (s.get! 0).toNat < 194) ∨ 245 ≤ (s.get! 0).toNat) (c : Int) (n : Nat) (hd : Ky.refL (Utf8.decode s 0) = (c, n)) :
    Calls Tryd.prog 22 #[.string s] w fun e w' => e = .returned (.tuple #[.int .i64 c, .int .i64 n]) ∧ w = w' := by
  have H := Lib.hid hd
  clear hd
  have hz0 : (0 : Int) < (s.size : Int) := by omega
  have BF := Lib.hid (bad_first s)
  have DA : Hid ((s.get! 0).toNat < 128 → Utf8.decode s 0 = ((s.get! 0).toNat, 1)) := by
    intro h
    rw [Lib.decode_at]
    unfold Lib.decodeN
    rw [if_pos h]
  obtain ⟨x0, hx0⟩ : ∃ x0, s.get! 0 = x0 := ⟨_, rfl⟩
  have hs0 : s[0]'hs = x0 := by rw [← hx0]; exact (Ky.get!_lt s 0 hs).symm
  rw [hx0] at hb BF DA
  clear hx0
  have l0 := x0.toNat_lt
  by_cases h1 : x0.toNat < 128
  · have h1' : (x0.toNat : Int) < 128 := by omega
    go_enter Tryd.func22, Tryd.ntmps22
    go_wp2
    go_ret2
    have h := H.out
    rw [DA.out h1, refL_good (by omega)] at h
    cases h
    exact ⟨rfl, rfl⟩
  · have h1' : ¬ (x0.toNat : Int) < 128 := by omega
    have hb2 : (x0.toNat : Int) < 194 ∨ (245 : Int) ≤ x0.toNat := by omega
    have h := H.out
    rw [BF.out (by omega), refL_bad] at h
    obtain ⟨rfl, rfl⟩ : (-1 : Int) = c ∧ 1 = n := by simpa using h
    clear h H BF DA hb
    rcases hb2 with hb2 | hb2
    · go_enter Tryd.func22, Tryd.ntmps22
      go_wp2
      go_ret2
      exact ⟨rfl, rfl⟩
    · go_enter Tryd.func22, Tryd.ntmps22
      go_wp2
      go_ret2
      exact ⟨rfl, rfl⟩

set_option maxRecDepth 100000 in
set_option maxHeartbeats 400000 in
theorem letter2 (s : ByteArray) (w : World) (hs : 0 < s.size) (hlim : s.size ≤ 9223372036854775807) (hb : 194 ≤ (s.get! 0).toNat ∧ (s.get! 0).toNat < 224) (c : Int) (n : Nat) (hd : Ky.refL (Utf8.decode s 0) = (c, n)) :
    Calls Tryd.prog 22 #[.string s] w fun e w' => e = .returned (.tuple #[.int .i64 c, .int .i64 n]) ∧ w = w' := by
  have H := Lib.hid hd
  clear hd
  have hz0 : (0 : Int) < (s.size : Int) := by omega
  have BL := Lib.hid (bad_len s hs 2)
  have BC := Lib.hid (bad_cont s hs)
  have GO := Lib.hid (good2 s)
  have AL := Lib.hid (accN_lt s ((s.get! 0).toNat - 192) (by omega))
  have AN := Lib.hid (acc_next s ((s.get! 0).toNat - 192))
  have A1 := Lib.hid (acc1 s ((s.get! 0).toNat - 192))
  obtain ⟨x0, hx0⟩ : ∃ x0, s.get! 0 = x0 := ⟨_, rfl⟩
  have hs0 : s[0]'hs = x0 := by rw [← hx0]; exact (Ky.get!_lt s 0 hs).symm
  rw [hx0] at hb BL BC GO AL AN A1
  clear hx0
  have l0 := x0.toNat_lt
  have hb1 : (194 : Int) ≤ (x0.toNat : Int) := by omega
  have hb2 : (x0.toNat : Int) < 224 := by omega
  by_cases hsz : s.size < 2
  · have hsz' : (s.size : Int) < 2 := by omega
    have h := H.out
    rw [BL.out hsz (by omega), refL_bad] at h
    obtain ⟨rfl, rfl⟩ : (-1 : Int) = c ∧ 1 = n := by simpa using h
    clear h H BL BC GO AL AN A1 hb
    go_enter Tryd.func22, Tryd.ntmps22
    go_wp2
    go_ret2
    exact ⟨rfl, rfl⟩
  · have hsz' : ¬ (s.size : Int) < 2 := by omega
    clear BL
    obtain ⟨A, hA⟩ : ∃ A, accN s (x0.toNat - 192) = A := ⟨_, rfl⟩
    rw [hA] at GO AL AN A1
    clear hA
    go_enter Tryd.func22, Tryd.ntmps22
    go_wp2
    go_loop [4, 7] (fun a i => ∃ k : Nat, 1 ≤ k ∧ k ≤ 2 ∧ i = .int .i64 k ∧ a = .int .i64 (A k) ∧ contN s k) (fun _ i => 2 - (intOf i).toNat)
    case atStart => exact ⟨1, by omega, by omega, rfl, by rw [A1.out]; go_num, fun i h1 h2 => by omega⟩
    case round =>
      obtain ⟨k, hk1, hk, rfl, rfl, hc0⟩ := hrel
      have hc := Lib.hid hc0
      clear hc0
      by_cases hlt : k < 2
      · have hks : k < s.size := by omega
        obtain ⟨x, hx⟩ : ∃ x, s.get! k = x := ⟨_, rfl⟩
        have hsk : s[k]'hks = x := by rw [← hx]; exact (Ky.get!_lt s k hks).symm
        have HX := Lib.hid hx
        clear hx
        have hA := AL.out k hk1 (by omega)
        have hlx := x.toNat_lt
        by_cases hx1 : x.toNat < 128
        · have hx1' : (x.toNat : Int) < 128 := by omega
          have h := H.out
          rw [BC.out k hk1 (by rw [HX.out]; omega) (by omega), refL_bad] at h
          obtain ⟨rfl, rfl⟩ : (-1 : Int) = c ∧ 1 = n := by simpa using h
          clear h H BC GO AL AN A1 hb
          go_wp2
          go_ret2
          exact ⟨rfl, rfl⟩
        · have hx1' : ¬ (x.toNat : Int) < 128 := by omega
          by_cases hx2 : 191 < x.toNat
          · have hx2' : (191 : Int) < x.toNat := by omega
            have h := H.out
            rw [BC.out k hk1 (by rw [HX.out]; omega) (by omega), refL_bad] at h
            obtain ⟨rfl, rfl⟩ : (-1 : Int) = c ∧ 1 = n := by simpa using h
            clear h H BC GO AL AN A1 hb
            go_wp2
            go_ret2
            exact ⟨rfl, rfl⟩
          · have hx2' : ¬ (191 : Int) < x.toNat := by omega
            have hm1 : 0 ≤ (64 : Int) * (A k : Int) := by omega
            have hm2 : (64 : Int) * (A k : Int) ≤ 9223372036854775000 := by omega
            go_wp2
            go_round
            case rel =>
              refine ⟨k + 1, by omega, by omega, by go_num, ?_, ?_⟩
              · rw [AN.out k hk1, HX.out]
                go_num
              · intro i h1 h2
                by_cases e : i = k
                · subst e
                  rw [HX.out]; omega
                · exact hc.out i h1 (by omega)
            case measure => simp [intOf]; omega
      · obtain rfl : k = 2 := by omega
        have hA := AL.out 2 (by omega) (by omega)
        have G := GO.out (by omega) (by omega) hc.out
        have h := H.out
        clear H BC GO AL AN A1 hb hc
        generalize A 2 = v at *
        have G2 := Lib.hid G
        have h2 := Lib.hid h
        clear G h
        go_wp2
        all_goals go_ret2
        all_goals have G := G2.out
        all_goals have h := h2.out
        all_goals rw [G.1, refL_good (by omega)] at h
        all_goals have g2 := G.2
        all_goals first | (cases h; exact ⟨rfl, rfl⟩) | (exfalso; omega)

set_option maxRecDepth 100000 in
set_option maxHeartbeats 400000 in
theorem letter3 (s : ByteArray) (w : World) (hs : 0 < s.size) (hlim : s.size ≤ 9223372036854775807) (hb : 224 ≤ (s.get! 0).toNat ∧ (s.get! 0).toNat < 240) (c : Int) (n : Nat) (hd : Ky.refL (Utf8.decode s 0) = (c, n)) :
    Calls Tryd.prog 22 #[.string s] w fun e w' => e = .returned (.tuple #[.int .i64 c, .int .i64 n]) ∧ w = w' := by
  have H := Lib.hid hd
  clear hd
  have hz0 : (0 : Int) < (s.size : Int) := by omega
  have BL := Lib.hid (bad_len s hs 3)
  have BC := Lib.hid (bad_cont s hs)
  have GO := Lib.hid (good3 s)
  have AL := Lib.hid (accN_lt s ((s.get! 0).toNat - 224) (by omega))
  have AN := Lib.hid (acc_next s ((s.get! 0).toNat - 224))
  have A1 := Lib.hid (acc1 s ((s.get! 0).toNat - 224))
  obtain ⟨x0, hx0⟩ : ∃ x0, s.get! 0 = x0 := ⟨_, rfl⟩
  have hs0 : s[0]'hs = x0 := by rw [← hx0]; exact (Ky.get!_lt s 0 hs).symm
  rw [hx0] at hb BL BC GO AL AN A1
  clear hx0
  have l0 := x0.toNat_lt
  have hb1 : (224 : Int) ≤ (x0.toNat : Int) := by omega
  have hb2 : (x0.toNat : Int) < 240 := by omega
  by_cases hsz : s.size < 3
  · have hsz' : (s.size : Int) < 3 := by omega
    have h := H.out
    rw [BL.out hsz (by omega), refL_bad] at h
    obtain ⟨rfl, rfl⟩ : (-1 : Int) = c ∧ 1 = n := by simpa using h
    clear h H BL BC GO AL AN A1 hb
    go_enter Tryd.func22, Tryd.ntmps22
    go_wp2
    go_ret2
    exact ⟨rfl, rfl⟩
  · have hsz' : ¬ (s.size : Int) < 3 := by omega
    clear BL
    obtain ⟨A, hA⟩ : ∃ A, accN s (x0.toNat - 224) = A := ⟨_, rfl⟩
    rw [hA] at GO AL AN A1
    clear hA
    go_enter Tryd.func22, Tryd.ntmps22
    go_wp2
    go_loop [4, 7] (fun a i => ∃ k : Nat, 1 ≤ k ∧ k ≤ 3 ∧ i = .int .i64 k ∧ a = .int .i64 (A k) ∧ contN s k) (fun _ i => 3 - (intOf i).toNat)
    case atStart => exact ⟨1, by omega, by omega, rfl, by rw [A1.out]; go_num, fun i h1 h2 => by omega⟩
    case round =>
      obtain ⟨k, hk1, hk, rfl, rfl, hc0⟩ := hrel
      have hc := Lib.hid hc0
      clear hc0
      by_cases hlt : k < 3
      · have hks : k < s.size := by omega
        obtain ⟨x, hx⟩ : ∃ x, s.get! k = x := ⟨_, rfl⟩
        have hsk : s[k]'hks = x := by rw [← hx]; exact (Ky.get!_lt s k hks).symm
        have HX := Lib.hid hx
        clear hx
        have hA := AL.out k hk1 (by omega)
        have hlx := x.toNat_lt
        by_cases hx1 : x.toNat < 128
        · have hx1' : (x.toNat : Int) < 128 := by omega
          have h := H.out
          rw [BC.out k hk1 (by rw [HX.out]; omega) (by omega), refL_bad] at h
          obtain ⟨rfl, rfl⟩ : (-1 : Int) = c ∧ 1 = n := by simpa using h
          clear h H BC GO AL AN A1 hb
          go_wp2
          go_ret2
          exact ⟨rfl, rfl⟩
        · have hx1' : ¬ (x.toNat : Int) < 128 := by omega
          by_cases hx2 : 191 < x.toNat
          · have hx2' : (191 : Int) < x.toNat := by omega
            have h := H.out
            rw [BC.out k hk1 (by rw [HX.out]; omega) (by omega), refL_bad] at h
            obtain ⟨rfl, rfl⟩ : (-1 : Int) = c ∧ 1 = n := by simpa using h
            clear h H BC GO AL AN A1 hb
            go_wp2
            go_ret2
            exact ⟨rfl, rfl⟩
          · have hx2' : ¬ (191 : Int) < x.toNat := by omega
            have hm1 : 0 ≤ (64 : Int) * (A k : Int) := by omega
            have hm2 : (64 : Int) * (A k : Int) ≤ 9223372036854775000 := by omega
            go_wp2
            go_round
            case rel =>
              refine ⟨k + 1, by omega, by omega, by go_num, ?_, ?_⟩
              · rw [AN.out k hk1, HX.out]
                go_num
              · intro i h1 h2
                by_cases e : i = k
                · subst e
                  rw [HX.out]; omega
                · exact hc.out i h1 (by omega)
            case measure => simp [intOf]; omega
      · obtain rfl : k = 3 := by omega
        have hA := AL.out 3 (by omega) (by omega)
        have G := GO.out (by omega) (by omega) hc.out
        have h := H.out
        clear H BC GO AL AN A1 hb hc
        generalize A 3 = v at *
        have G2 := Lib.hid G
        have h2 := Lib.hid h
        clear G h
        go_wp2
        all_goals go_ret2
        all_goals have G := G2.out
        all_goals have h := h2.out
        all_goals rw [G.1] at h
        all_goals have g2 := G.2
        all_goals (split at h <;> first | (exfalso; omega) | (rw [refL_bad] at h; obtain ⟨rfl, rfl⟩ : (-1 : Int) = c ∧ 1 = n := by simpa using h
                                                              exact ⟨rfl, rfl⟩) | (rw [refL_good (by omega)] at h; cases h; exact ⟨rfl, rfl⟩))

set_option maxRecDepth 100000 in
set_option maxHeartbeats 400000 in
theorem letter4 (s : ByteArray) (w : World) (hs : 0 < s.size) (hlim : s.size ≤ 9223372036854775807) (hb : 240 ≤ (s.get! 0).toNat ∧ (s.get! 0).toNat < 245) (c : Int) (n : Nat) (hd : Ky.refL (Utf8.decode s 0) = (c, n)) :
    Calls Tryd.prog 22 #[.string s] w fun e w' => e = .returned (.tuple #[.int .i64 c, .int .i64 n]) ∧ w = w' := by
  have H := Lib.hid hd
  clear hd
  have hz0 : (0 : Int) < (s.size : Int) := by omega
  have BL := Lib.hid (bad_len s hs 4)
  have BC := Lib.hid (bad_cont s hs)
  have GO := Lib.hid (good4 s)
  have AL := Lib.hid (accN_lt s ((s.get! 0).toNat - 240) (by omega))
  have AN := Lib.hid (acc_next s ((s.get! 0).toNat - 240))
  have A1 := Lib.hid (acc1 s ((s.get! 0).toNat - 240))
  obtain ⟨x0, hx0⟩ : ∃ x0, s.get! 0 = x0 := ⟨_, rfl⟩
  have hs0 : s[0]'hs = x0 := by rw [← hx0]; exact (Ky.get!_lt s 0 hs).symm
  rw [hx0] at hb BL BC GO AL AN A1
  clear hx0
  have l0 := x0.toNat_lt
  have hb1 : (240 : Int) ≤ (x0.toNat : Int) := by omega
  have hb2 : (x0.toNat : Int) < 245 := by omega
  by_cases hsz : s.size < 4
  · have hsz' : (s.size : Int) < 4 := by omega
    have h := H.out
    rw [BL.out hsz (by omega), refL_bad] at h
    obtain ⟨rfl, rfl⟩ : (-1 : Int) = c ∧ 1 = n := by simpa using h
    clear h H BL BC GO AL AN A1 hb
    go_enter Tryd.func22, Tryd.ntmps22
    go_wp2
    go_ret2
    exact ⟨rfl, rfl⟩
  · have hsz' : ¬ (s.size : Int) < 4 := by omega
    clear BL
    obtain ⟨A, hA⟩ : ∃ A, accN s (x0.toNat - 240) = A := ⟨_, rfl⟩
    rw [hA] at GO AL AN A1
    clear hA
    go_enter Tryd.func22, Tryd.ntmps22
    go_wp2
    go_loop [4, 7] (fun a i => ∃ k : Nat, 1 ≤ k ∧ k ≤ 4 ∧ i = .int .i64 k ∧ a = .int .i64 (A k) ∧ contN s k) (fun _ i => 4 - (intOf i).toNat)
    case atStart => exact ⟨1, by omega, by omega, rfl, by rw [A1.out]; go_num, fun i h1 h2 => by omega⟩
    case round =>
      obtain ⟨k, hk1, hk, rfl, rfl, hc0⟩ := hrel
      have hc := Lib.hid hc0
      clear hc0
      by_cases hlt : k < 4
      · have hks : k < s.size := by omega
        obtain ⟨x, hx⟩ : ∃ x, s.get! k = x := ⟨_, rfl⟩
        have hsk : s[k]'hks = x := by rw [← hx]; exact (Ky.get!_lt s k hks).symm
        have HX := Lib.hid hx
        clear hx
        have hA := AL.out k hk1 (by omega)
        have hlx := x.toNat_lt
        by_cases hx1 : x.toNat < 128
        · have hx1' : (x.toNat : Int) < 128 := by omega
          have h := H.out
          rw [BC.out k hk1 (by rw [HX.out]; omega) (by omega), refL_bad] at h
          obtain ⟨rfl, rfl⟩ : (-1 : Int) = c ∧ 1 = n := by simpa using h
          clear h H BC GO AL AN A1 hb
          go_wp2
          go_ret2
          exact ⟨rfl, rfl⟩
        · have hx1' : ¬ (x.toNat : Int) < 128 := by omega
          by_cases hx2 : 191 < x.toNat
          · have hx2' : (191 : Int) < x.toNat := by omega
            have h := H.out
            rw [BC.out k hk1 (by rw [HX.out]; omega) (by omega), refL_bad] at h
            obtain ⟨rfl, rfl⟩ : (-1 : Int) = c ∧ 1 = n := by simpa using h
            clear h H BC GO AL AN A1 hb
            go_wp2
            go_ret2
            exact ⟨rfl, rfl⟩
          · have hx2' : ¬ (191 : Int) < x.toNat := by omega
            have hm1 : 0 ≤ (64 : Int) * (A k : Int) := by omega
            have hm2 : (64 : Int) * (A k : Int) ≤ 9223372036854775000 := by omega
            go_wp2
            go_round
            case rel =>
              refine ⟨k + 1, by omega, by omega, by go_num, ?_, ?_⟩
              · rw [AN.out k hk1, HX.out]
                go_num
              · intro i h1 h2
                by_cases e : i = k
                · subst e
                  rw [HX.out]; omega
                · exact hc.out i h1 (by omega)
            case measure => simp [intOf]; omega
      · obtain rfl : k = 4 := by omega
        have hA := AL.out 4 (by omega) (by omega)
        have G := GO.out (by omega) (by omega) hc.out
        have h := H.out
        clear H BC GO AL AN A1 hb hc
        generalize A 4 = v at *
        have G2 := Lib.hid G
        have h2 := Lib.hid h
        clear G h
        go_wp2
        all_goals go_ret2
        all_goals have G := G2.out
        all_goals have h := h2.out
        all_goals rw [G] at h
        all_goals (split at h <;> first | (exfalso; omega) | (rw [refL_bad] at h; obtain ⟨rfl, rfl⟩ : (-1 : Int) = c ∧ 1 = n := by simpa using h
                                                              exact ⟨rfl, rfl⟩) | (rw [refL_good (by omega)] at h; cases h; exact ⟨rfl, rfl⟩))

theorem letter_any (s : ByteArray) (w : World) (hs : 0 < s.size) (hlim : s.size ≤ 9223372036854775807) (c : Int) (n : Nat) (hd : Ky.refL (Utf8.decode s 0) = (c, n)) :
    Calls Tryd.prog 22 #[.string s] w fun e w' => e = .returned (.tuple #[.int .i64 c, .int .i64 n]) ∧ w = w' := by
  have := (s.get! 0).toNat_lt
  by_cases h2 : 194 ≤ (s.get! 0).toNat ∧ (s.get! 0).toNat < 224
  · exact letter2 s w hs hlim h2 c n hd
  by_cases h3 : 224 ≤ (s.get! 0).toNat ∧ (s.get! 0).toNat < 240
  · exact letter3 s w hs hlim h3 c n hd
  by_cases h4 : 240 ≤ (s.get! 0).toNat ∧ (s.get! 0).toNat < 245
  · exact letter4 s w hs hlim h4 c n hd
  exact letter1 s w hs (by omega) c n hd

end Go.Proofs.YtiofjapakaoklaaDoor
