/-
  Contracts of package pack's functions and of the document's answers for them: what each call returns, and that it leaves all memory that was there as it was.
-/
import Derived.Test.YtccieoofjopbkaaDoorOwns
import Derived.Test.YtccieoofjopbkaaDoorPkPlain
namespace Go.Proofs.YtccieoofjopbkaaDoor
open Go.RowKit


/-- The place of the first byte below 128 in s. -/
def stopS (s : ByteArray) : Nat := Pk.stop s.data.toList

theorem stopS_le (s : ByteArray) : stopS s ≤ s.size := by have := Pk.stop_le s.data.toList; rw [bytes_len] at this; exact this
theorem stopS_big (s : ByteArray) (k : Nat) (h : k < s.size) (hk : k < stopS s) : 128 ≤ (s[k].toNat : Int) := by
  have := Pk.stop_big s.data.toList k (by simpa using h) hk
  rw [bytes_at s k h] at this; omega
theorem stopS_small (s : ByteArray) (h : stopS s < s.size) : (s[stopS s].toNat : Int) < 128 := by
  have h' : Pk.stop s.data.toList < s.data.toList.length := by rw [bytes_len]; exact h
  have := Pk.stop_small s.data.toList h'
  have e : (s.data.toList[Pk.stop s.data.toList]'h') = s[stopS s] := rfl
  rw [e] at this; omega

/-! ### pack.lastDigit -/
set_option maxRecDepth 100000 in
set_option maxHeartbeats 400000 in
theorem lastDigit_none (s : ByteArray) (w : World) (hs : s.size ≤ 9223372036854775807) (hn : ¬ stopS s < s.size) :
    Calls Tryd.prog 40 #[.string s] w fun e w' => e = .returned (.int .i64 (-1)) ∧ w = w' := by
  go_enter Tryd.func40, Tryd.ntmps40
  go_wp2
  go_loop [3, 6] (fun _ i => ∃ k : Nat, k ≤ s.size ∧ i = .int .i64 k) (fun _ i => s.size - (intOf i).toNat)
  case atStart => exact ⟨0, Nat.zero_le _, rfl⟩
  case round =>
    obtain ⟨k, hk, rfl⟩ := hrel
    by_cases hlt : k < s.size
    · have HB := Lib.hid (stopS_big s k hlt (by omega))
      go_wp2
      · exact absurd HB.out (by omega)
      go_round
      case rel => exact ⟨k + 1, by omega, by go_num⟩
      case measure => simp [intOf]; omega
    · go_wp2
      go_ret
      exact ⟨rfl, rfl⟩

set_option maxRecDepth 100000 in
set_option maxHeartbeats 400000 in
theorem lastDigit_at (s : ByteArray) (w : World) (hs : s.size ≤ 9223372036854775807) (hn : stopS s < s.size) :
    Calls Tryd.prog 40 #[.string s] w fun e w' => e = .returned (.int .i64 (stopS s)) ∧ w = w' := by
  have HS := Lib.hid (stopS_small s hn)
  go_enter Tryd.func40, Tryd.ntmps40
  go_wp2
  go_loop [3, 6] (fun _ i => ∃ k : Nat, k ≤ stopS s ∧ i = .int .i64 k) (fun _ i => s.size - (intOf i).toNat)
  case atStart => exact ⟨0, Nat.zero_le _, rfl⟩
  case round =>
    obtain ⟨k, hk, rfl⟩ := hrel
    by_cases hlt : k < stopS s
    · have HB := Lib.hid (stopS_big s k (by omega) hlt)
      go_wp2
      · exact absurd HB.out (by omega)
      go_round
      case rel => exact ⟨k + 1, by omega, by go_num⟩
      case measure => simp [intOf]; omega
    · obtain rfl : k = stopS s := by omega
      go_wp2
      · go_ret
        exact ⟨rfl, rfl⟩
      · exact absurd HS.out (by omega)

/-! ### pack.number -/
theorem val_drop (s : ByteArray) (k : Nat) (h : k < s.size) : Pk.val (s.data.toList.drop k) = s[k].toNat % 128 + 128 * Pk.val (s.data.toList.drop (k + 1)) := by
  rw [List.drop_eq_getElem_cons (by simpa using h)]; rfl

theorem val_end (s : ByteArray) : Pk.val (s.data.toList.drop s.size) = 0 := by
  rw [List.drop_of_length_le (by simp)]; rfl

set_option maxRecDepth 100000 in
set_option maxHeartbeats 400000 in
theorem number_any (s : ByteArray) (w : World) (hs : s.size ≤ 9) :
    Calls Tryd.prog 41 #[.string s] w fun e w' => e = .returned (.int .i64 (Pk.val s.data.toList)) ∧ w = w' := by
  go_enter Tryd.func41, Tryd.ntmps41
  go_wp2
  go_loop [3, 4] (fun n i => ∃ k : Nat, k ≤ s.size ∧ i = .int .i64 ((k : Int) - 1) ∧ n = .int .i64 (Pk.val (s.data.toList.drop k))) (fun _ i => (intOf i + 1).toNat)
  case atStart => exact ⟨s.size, Nat.le_refl _, rfl, by rw [val_end]; rfl⟩
  case round =>
    obtain ⟨k, hk, rfl, rfl⟩ := hrel
    cases k with
    | zero =>
      go_wp2
      go_ret
      exact ⟨by simp, rfl⟩
    | succ j =>
      have hd := val_drop s j (by omega)
      have hv := Pk.val_lt63 (l := s.data.toList.drop j) (by simp; omega)
      have HD := Lib.hid hd
      have hlt : 128 * Pk.val (s.data.toList.drop (j + 1)) < 9223372036854775808 := by omega
      have hle : (Pk.val (s.data.toList.drop (j + 1)) : Int) * 128 ≤ 9223372036854775807 := by omega
      clear hd hv
      go_wp2
      go_round
      case rel => exact ⟨j, by omega, rfl, by rw [HD.out]; go_num⟩
      case measure => simp [intOf]

/-! ### pack.appendNumber -/
set_option maxRecDepth 100000 in
set_option maxHeartbeats 400000 in
theorem appendNumber_any (B : Nat) (v0 : Value) (xs : List UInt8) (n : Nat) (w : World) (hB : B ≤ w.heap.size) (hn : n < 9223372036854775808) (hx : xs.length ≤ 70000000000000) (hown : Owns w B v0 xs) :
    Calls Tryd.prog 39 #[v0, .int .i64 n] w fun e w' => ∃ v, e = .returned v ∧ Owns w' B v (xs ++ Pk.enc n) ∧ Below B w w' := by
  obtain ⟨i0, hi, hz0, hz1, hz2⟩ := info_parts info_byte
  have hl9 := Pk.enc_len9 hn
  obtain ⟨T, hT⟩ : ∃ T, T = xs ++ Pk.enc n := ⟨_, rfl⟩
  rw [← hT]
  have hTl : T.length ≤ 70000000000009 := by rw [hT]; simp; omega
  have HT := Lib.hid hT
  clear hT hl9
  go_enter Tryd.func39, Tryd.ntmps39
  go_wp2
  go_loopw [0, 1] (fun v i wr => ∃ (m : Nat) (l : List UInt8), i = .int .i64 m ∧ m < 9223372036854775808 ∧ Hid (l ++ Pk.enc m = T) ∧ Owns wr B v l ∧ Below B w wr) (fun _ i _ => (intOf i).toNat)
  case atStart => exact ⟨n, xs, rfl, hn, HT.out.symm, hown, Below.refl _ _⟩
  case round =>
    obtain ⟨m, l, rfl, hm, hl, ho, hb⟩ := hrel
    have ho' : wr.ownsRow B 5 1 u0 l.length (bytesV l) := ho
    have hll : l.length + 1 ≤ 70000000000009 := by
      have := hl.out
      have := Pk.enc_pos m
      have : (l ++ Pk.enc m).length = T.length := by rw [hl.out]
      simp at this; omega
    have hsz := hb.size
    by_cases hm8 : m < 128
    · go_wp2_with (at_builtin; refine wpList_append_own _ rfl (.tmp 16) (.tmp 19) 60 rfl B 5 i0 (.int .u8 0) 1 1 Tryd.underlying60 hi hz0 hz1 hz2 rfl (by decide) _ _ _ rfl (ho'.alloc _) ⟨wr.heap.size, 0, none⟩ 1 1 [.int .u8 (m : Int)] rfl rfl (cell_one_new _ _ _) (ints_oneCell .u8 [(m : Int)]) (by unfold maxLen; omega) (by omega) (by simp; omega) ?_; intro v' w1 hown1 hgrow1 _)
      have hb1 := (hb.alloc (by omega) _).grown hgrow1 (by simp; omega) (fun k hk => (ho'.lt k hk).1)
      have ho1 := hown1
      rw [bytesV_snoc l m (by omega)] at ho1
      have hT2 := hl.out
      rw [Pk.enc_small hm8] at hT2
      go_ret
      refine ⟨v', rfl, ?_, hb1⟩
      rw [← hT2]
      simpa [Owns] using ho1
    · have hgt : ¬ m < 128 := hm8
      go_wp2_with (at_builtin; refine wpList_append_own _ rfl (.tmp 7) (.tmp 12) 60 rfl B 5 i0 (.int .u8 0) 1 1 Tryd.underlying60 hi hz0 hz1 hz2 rfl (by decide) _ _ _ rfl (ho'.alloc _) ⟨wr.heap.size, 0, none⟩ 1 1 [.int .u8 ((m : Int) % 128 + 128)] rfl rfl (cell_one_new _ _ _) (ints_oneCell .u8 [((m : Int) % 128 + 128)]) (by unfold maxLen; omega) (by omega) (by simp; omega) ?_; intro v' w1 hown1 hgrow1 _)
      have hb1 := (hb.alloc (by omega) _).grown hgrow1 (by simp; omega) (fun k hk => (ho'.lt k hk).1)
      have ho1 := hown1
      have e1 : ((m : Int) % 128 + 128) = ((m % 128 + 128 : Nat) : Int) := by omega
      rw [e1, bytesV_snoc l (m % 128 + 128) (by omega)] at ho1
      have hT2 := hl.out
      rw [Pk.enc_big hm8] at hT2
      have HT2 : Hid (l ++ [UInt8.ofNat (m % 128 + 128)] ++ Pk.enc (m / 128) = T) := by
        show _ = _
        rw [← hT2]; simp
      have HO1 : Owns w1 B v' (l ++ [UInt8.ofNat (m % 128 + 128)]) := by simpa [Owns] using ho1
      clear ho1 hown1 hgrow1 hT2 e1
      go_wp2
      go_roundw
      case rel => exact ⟨m / 128, _, by go_num, by omega, HT2, HO1, hb1⟩
      case measure => simp [intOf]; omega

end Go.Proofs.YtccieoofjopbkaaDoor
