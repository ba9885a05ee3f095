/-
  Contracts of the document's Take.
-/
import Derived.Test.YtccieoofjopbkaaDoorPkTake
namespace Go.Proofs.YtccieoofjopbkaaDoor
open Go.RowKit

theorem valu_drop (u : List UInt8) (k : Nat) (h : k < u.length) : Pk.val (u.drop k) = u[k].toNat % 128 + 128 * Pk.val (u.drop (k + 1)) := by
  rw [List.drop_eq_getElem_cons h]; rfl
theorem valu_end (u : List UInt8) : Pk.val (u.drop u.length) = 0 := by
  rw [List.drop_of_length_le (Nat.le_refl _)]; rfl

/-- The bytes up to the stop. -/
def front (s : ByteArray) : List UInt8 := s.data.toList.take (stopS s + 1)
theorem front_len {s : ByteArray} (h : stopS s < s.size) : (front s).length = stopS s + 1 := by
  unfold front; rw [List.length_take, bytes_len]; omega
theorem front_at {s : ByteArray} (h : stopS s < s.size) (k : Nat) (hk : k < stopS s + 1) : (front s)[k]'(by rw [front_len h]; exact hk) = s[k] := by
  simp only [front, List.getElem_take]; rfl

set_option maxRecDepth 100000 in
set_option maxHeartbeats 400000 in
theorem refTake_short (s : ByteArray) (w : World) (hs : s.size ≤ 9223372036854775807) (h : ¬ stopS s < s.size) :
    Calls Tryd.prog 33 #[.string s] w (TakePost s w) := by
  have HT := Lib.hid (tk_short h)
  go_enter Tryd.func33, Tryd.ntmps33
  go_wp2_with fail
  go_loop [5] (fun i => ∃ k : Nat, k ≤ s.size ∧ i = .int .i64 k) (fun i => s.size - (intOf i).toNat)
  case atStart => exact ⟨0, Nat.zero_le _, rfl⟩
  case round =>
    obtain ⟨k, hk, rfl⟩ := hrel
    by_cases hlt : k < s.size
    · have HB := Lib.hid (stopS_big s k hlt (by omega))
      go_wp2_with fail
      · go_round
        case rel => exact ⟨k + 1, by omega, by go_num⟩
        case measure => simp [intOf]; omega
      all_goals exact absurd HB.out (by omega)
    · have hks : ((k : Int) == (s.size : Int)) = true := by rw [beq_iff_eq]; omega
      go_wp2_with fail
      go_ret3
      exact ⟨by rw [HT.out]; rfl, Below.refl _ _⟩

set_option maxRecDepth 100000 in
set_option maxHeartbeats 400000 in
theorem refTake_long (s : ByteArray) (w : World) (hs : s.size ≤ 9223372036854775807) (h : stopS s < s.size) (h8 : 8 < stopS s) :
    Calls Tryd.prog 33 #[.string s] w (TakePost s w) := by
  have HT := Lib.hid (tk_form h (.inl h8))
  have HS := Lib.hid (stopS_small s h)
  go_enter Tryd.func33, Tryd.ntmps33
  go_wp2_with fail
  go_loop [5] (fun i => ∃ k : Nat, k ≤ stopS s ∧ i = .int .i64 k) (fun i => s.size - (intOf i).toNat)
  case atStart => exact ⟨0, Nat.zero_le _, rfl⟩
  case round =>
    obtain ⟨k, hk, rfl⟩ := hrel
    by_cases hlt : k < stopS s
    · have HB := Lib.hid (stopS_big s k (by omega) hlt)
      go_wp2_with fail
      · go_round
        case rel => exact ⟨k + 1, by omega, by go_num⟩
        case measure => simp [intOf]; omega
      all_goals exact absurd HB.out (by omega)
    · have hkk : k = stopS s := by omega
      subst hkk
      have hks : ((stopS s : Int) == (s.size : Int)) = false := by rw [beq_eq_false_iff_ne]; omega
      go_wp2_with fail
      · exact absurd HS.out (by omega)
      go_ret3
      exact ⟨by rw [HT.out]; rfl, Below.refl _ _⟩

/-- What the walk is told of the comparison of the number's own bytes with those that were read. -/
theorem same_yes {s : ByteArray} (h : stopS s < s.size) (h2 : ¬ (0 < stopS s ∧ (s[stopS s]).toNat = 0)) : S (Pk.enc (Pk.val (front s))) = s.extract 0 (stopS s + 1) := by
  rw [extract_front]
  have hl := front_len h
  have hst : Pk.stop (front s) = stopS s := by
    refine Pk.stop_of _ _ (by omega) (fun j hj hji => ?_) (fun hi => ?_)
    · rw [front_at h j (by omega)]; have := stopS_big s j (by omega) hji; omega
    · rw [front_at h _ (by omega)]; have := stopS_small s h; omega
  have := Pk.enc_val (front s) (by omega) (by omega) (fun h1 h0 => by
    have e : (front s).length - 1 = stopS s := by omega
    simp only [e] at h0
    rw [front_at h _ (by omega)] at h0
    exact h2 ⟨by omega, h0⟩)
  rw [this]; rfl
theorem same_no {s : ByteArray} (h : stopS s < s.size) (h0 : 0 < stopS s) (hz : (s[stopS s]).toNat = 0) : S (Pk.enc (Pk.val (front s))) ≠ s.extract 0 (stopS s + 1) := by
  rw [extract_front]
  intro e
  have e2 : Pk.enc (Pk.val (front s)) = front s := by
    have := congrArg (fun b : ByteArray => b.data.toList) e
    exact this
  have hl := front_len h
  refine Pk.enc_val_ne (l := front s) (by omega) ?_ e2
  have e3 : (front s).length - 1 = stopS s := by omega
  simp only [e3]
  rw [front_at h _ (by omega)]
  exact hz

set_option maxRecDepth 100000 in
set_option maxHeartbeats 400000 in
theorem refTake_else (s : ByteArray) (w : World) (hs : s.size ≤ 9223372036854775807) (h : stopS s < s.size) (h8 : ¬ 8 < stopS s) :
    Calls Tryd.prog 33 #[.string s] w (TakePost s w) := by
  have HS := Lib.hid (stopS_small s h)
  have HL := Lib.hid (front_len h)
  go_enter Tryd.func33, Tryd.ntmps33
  go_wp2_with fail
  go_loop [5] (fun i => ∃ k : Nat, k ≤ stopS s ∧ i = .int .i64 k) (fun i => s.size - (intOf i).toNat)
  case atStart => exact ⟨0, Nat.zero_le _, rfl⟩
  case round =>
    obtain ⟨k, hk, rfl⟩ := hrel
    by_cases hlt : k < stopS s
    · have HB := Lib.hid (stopS_big s k (by omega) hlt)
      go_wp2_with fail
      · go_round
        case rel => exact ⟨k + 1, by omega, by go_num⟩
        case measure => simp [intOf]; omega
      all_goals exact absurd HB.out (by omega)
    · have hkk : k = stopS s := by omega
      subst hkk
      have hks : ((stopS s : Int) == (s.size : Int)) = false := by rw [beq_eq_false_iff_ne]; omega
      go_wp2_with fail
      · exact absurd HS.out (by omega)
      clear hks
      go_loop [6, 7] (fun n i => ∃ k : Nat, k ≤ stopS s + 1 ∧ i = .int .i64 ((k : Int) - 1) ∧ n = .int .i64 (Pk.val ((front s).drop k))) (fun _ i => (intOf i + 1).toNat)
      case atStart => exact ⟨stopS s + 1, Nat.le_refl _, by go_num, by rw [← HL.out, valu_end]; rfl⟩
      case round =>
        obtain ⟨k, hk, rfl, rfl⟩ := hrel
        cases k with
        | zero =>
          have hv := Pk.val_lt63 (l := front s) (by have := HL.out; omega)
          have hnn : (0 : Int) ≤ (Pk.val (front s) : Int) := by omega
          go_wp2_with fail
          refine (refPut_any _ _ hv).mono ?_
          rintro e w1 ⟨rfl, hb⟩
          by_cases h2 : 0 < stopS s ∧ (s[stopS s]).toNat = 0
          · have hne := same_no h h2.1 h2.2
            have HT := Lib.hid (tk_form h (.inr h2))
            have hq : ((S (Pk.enc (Pk.val (front s)))).toList == (s.extract 0 (stopS s + 1)).toList) = false := by
              rw [beq_eq_false_iff_ne]
              intro e
              apply hne
              rw [ByteArray.toList_eq, ByteArray.toList_eq] at e
              exact ByteArray.ext (Array.toList_inj.1 e)
            clear hne h2
            go_wp2_with fail
            go_ret3
            exact ⟨by rw [HT.out]; rfl, hb⟩
          · have hEq := Lib.hid (same_yes h h2)
            have HT := Lib.hid (good_front h h8 h2)
            have HBk := Lib.hid (extract_back s (stopS s + 1))
            rw [hEq.out]
            clear h2
            go_wp2_with fail
            have q4 : (stopS s : Int) + 1 ≤ (s.size : Int) := by omega
            have q1 : IntKind.i64.wrap ((stopS s : Int) + 1) = (stopS s : Int) + 1 := IntWalk.i64_in _ (by omega)
            have q2 : (0 : Int) ≤ (stopS s : Int) + 1 := by omega
            have q3 : ((stopS s : Int) + 1).toNat = stopS s + 1 := by omega
            go_quiet (fail)
            clear q1 q2 q3 q4
            go_wp2_with fail
            go_ret3
            exact ⟨by rw [HT.out, ← HBk.out, extract_front]; rfl, hb.trans (Joins.below_draws _ _ _)⟩
        | succ j =>
          have hjl : j < (front s).length := by have := HL.out; omega
          have hd := valu_drop (front s) j hjl
          rw [front_at h j (by omega)] at hd
          have hv := Pk.val_lt63 (l := (front s).drop j) (by have := HL.out; simp; omega)
          have HD := Lib.hid hd
          have hlt : 128 * Pk.val ((front s).drop (j + 1)) < 9223372036854775808 := by omega
          have hle : 128 * (Pk.val ((front s).drop (j + 1)) : Int) ≤ 9223372036854775807 := by omega
          have hjs : j < s.size := by omega
          have hby : (s[j].toNat : Int) ≤ 255 := by have := s[j].toNat_lt; omega
          clear hd hv
          go_wp2_with fail
          go_round
          case rel => exact ⟨j, by omega, rfl, by rw [HD.out]; go_num⟩
          case measure => simp [intOf]

theorem refTake_any (s : ByteArray) (w : World) (hs : s.size ≤ 9223372036854775807) : Calls Tryd.prog 33 #[.string s] w (TakePost s w) := by
  by_cases h : stopS s < s.size
  · by_cases h8 : 8 < stopS s
    · exact refTake_long s w hs h h8
    · exact refTake_else s w hs h h8
  · exact refTake_short s w hs h

end Go.Proofs.YtccieoofjopbkaaDoor
