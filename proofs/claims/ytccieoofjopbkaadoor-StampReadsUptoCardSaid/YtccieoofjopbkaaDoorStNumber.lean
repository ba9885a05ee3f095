/-
  The contract of the document's Number.
-/
import Derived.Test.YtccieoofjopbkaaDoorBase
import Derived.Test.YtccieoofjopbkaaDoorStDec
namespace Go.Proofs.YtccieoofjopbkaaDoor
open Go.RowKit

def numI (s : ByteArray) : Int := Dc.num s.data.toList
theorem numI_none {s : ByteArray} (h : s.size = 0 ∨ 13 < s.size ∨ (1 < s.size ∧ (s.data.toList.getD 0 0).toNat = 48)) : numI s = -1 := by
  unfold numI Dc.num
  rw [bytes_len, if_pos h]
theorem numI_bad {s : ByteArray} (k : Nat) (h : k < s.size) (hb : ¬ Dc.isD s[k]) : numI s = -1 := by
  unfold numI Dc.num
  split
  · rfl
  · rw [if_neg]
    intro ha
    unfold Dc.allD at ha
    rw [List.all_eq_true] at ha
    have hm : s[k] ∈ s.data.toList := by rw [← bytes_at s k h]; exact List.getElem_mem _
    have := ha _ hm
    exact hb (by simpa using this)
theorem numI_good {s : ByteArray} (h : ¬ (s.size = 0 ∨ 13 < s.size ∨ (1 < s.size ∧ (s.data.toList.getD 0 0).toNat = 48))) (hd : ∀ j (hj : j < s.size), Dc.isD s[j]) : numI s = (Dc.val 0 s.data.toList : Int) := by
  unfold numI Dc.num
  rw [bytes_len, if_neg h, if_pos]
  unfold Dc.allD
  rw [List.all_eq_true]
  intro c hc
  obtain ⟨j, hj, rfl⟩ := List.getElem_of_mem hc
  rw [bytes_len] at hj
  exact decide_eq_true (hd j hj)
theorem getD_first {s : ByteArray} (h : 0 < s.size) : s.data.toList.getD 0 0 = s[0] := by
  have h2 : 0 < s.data.toList.length := by rw [bytes_len]; exact h
  rw [List.getD, List.getElem?_eq_getElem h2]; rfl
theorem pow13 {k : Nat} (h : k ≤ 12) : 10 ^ k ≤ 1000000000000 := Nat.le_trans (Nat.pow_le_pow_right (by omega) h) (by decide)

set_option maxRecDepth 100000 in
set_option maxHeartbeats 400000 in
theorem Number_none (s : ByteArray) (w : World) (hs : s.size ≤ 9223372036854775807) (h : s.size = 0 ∨ 13 < s.size ∨ (1 < s.size ∧ (s.data.toList.getD 0 0).toNat = 48)) :
    Calls Tryd.prog 37 #[.string s] w fun e w' => e = .returned (.int .i64 (numI s)) ∧ w' = w := by
  rw [numI_none h]
  by_cases h0 : s.size = 0
  · have q : ((s.size : Int) == 0) = true := by rw [beq_iff_eq]; omega
    clear h h0
    go_enter Tryd.func37, Tryd.ntmps37
    go_wp2_with fail
    go_ret
    exact ⟨rfl, rfl⟩
  · have q : ((s.size : Int) == 0) = false := by rw [beq_eq_false_iff_ne]; omega
    by_cases h1 : 13 < s.size
    · clear h h0
      go_enter Tryd.func37, Tryd.ntmps37
      go_wp2_with fail
      go_ret
      exact ⟨rfl, rfl⟩
    · have h2 : 1 < s.size ∧ (s.data.toList.getD 0 0).toNat = 48 := by omega
      rw [getD_first (by omega)] at h2
      obtain ⟨h2, h3⟩ := h2
      have q2 : ((s[0].toNat : Int) == 48) = true := by rw [beq_iff_eq]; omega
      have q3 : decide (13 < (s.size : Int)) = false := by rw [decide_eq_false_iff_not]; omega
      clear h h3
      go_enter Tryd.func37, Tryd.ntmps37
      go_wp2_with fail
      go_ret
      exact ⟨rfl, rfl⟩

set_option maxRecDepth 100000 in
set_option maxHeartbeats 400000 in
theorem Number_some (s : ByteArray) (w : World) (h : ¬ (s.size = 0 ∨ 13 < s.size ∨ (1 < s.size ∧ (s.data.toList.getD 0 0).toNat = 48))) :
    Calls Tryd.prog 37 #[.string s] w fun e w' => e = .returned (.int .i64 (numI s)) ∧ w' = w := by
  have HN := Lib.hid h
  have hz : 1 ≤ s.size := by omega
  have hz2 : s.size ≤ 13 := by omega
  have h3 : 1 < s.size → s[0].toNat ≠ 48 := fun h4 h5 => h (.inr (.inr ⟨h4, by rw [getD_first (by omega)]; exact h5⟩))
  obtain ⟨R, hR⟩ : ∃ R, R = numI s := ⟨_, rfl⟩
  have HR := Lib.hid hR
  rw [← hR]
  have q : ((s.size : Int) == 0) = false := by rw [beq_eq_false_iff_ne]; omega
  have q3 : decide (13 < (s.size : Int)) = false := by rw [decide_eq_false_iff_not]; omega
  have q4 : decide (1 < (s.size : Int)) = false ∨ (decide (1 < (s.size : Int)) = true ∧ ((s[0].toNat : Int) == 48) = false) := by
    by_cases h4 : 1 < s.size
    · exact .inr ⟨by rw [decide_eq_true_eq]; omega, by rw [beq_eq_false_iff_ne]; have := h3 h4; omega⟩
    · exact .inl (by rw [decide_eq_false_iff_not]; omega)
  clear h h3 hR
  rcases q4 with q4 | ⟨q4, q5⟩
  all_goals
    go_enter Tryd.func37, Tryd.ntmps37
    go_wp2_with fail
    go_loop [3, 4] (fun n i => ∃ k m : Nat, k ≤ s.size ∧ i = .int .i64 k ∧ n = .int .i64 m ∧ Hid (m = Dc.val 0 (s.data.toList.take k)) ∧ Hid (m < 10 ^ k) ∧ Hid (∀ j (hj : j < s.size), j < k → Dc.isD s[j])) (fun _ i => s.size - (intOf i).toNat)
    case atStart => exact ⟨0, 0, Nat.zero_le _, rfl, rfl, (by show _ = _; rfl), (by show _ < _; decide), fun j hj h => absurd h (Nat.not_lt_zero _)⟩
    case round =>
      obtain ⟨k, m, hk, rfl, rfl, hm, hp, hd⟩ := hrel
      by_cases hlt : k < s.size
      · by_cases hD : Dc.isD s[k]
        · have hD1 : 48 ≤ s[k].toNat := hD.1
          have hD2 : s[k].toNat ≤ 57 := hD.2
          have hm12 : m < 1000000000000 := Nat.lt_of_lt_of_le hp.out (pow13 (by omega))
          have HM : Hid (m * 10 + (s[k].toNat - 48) = Dc.val 0 (s.data.toList.take (k + 1))) := by
            show _ = _
            rw [front_snoc s k hlt, Dc.val_snoc, ← hm.out]
          have HP : Hid (m * 10 + (s[k].toNat - 48) < 10 ^ (k + 1)) := by
            show _ < _
            have := hp.out
            rw [Nat.pow_succ]; omega
          have HDD : Hid (∀ j (hj : j < s.size), j < k + 1 → Dc.isD s[j]) := by
            intro j hj hjk
            by_cases h : j < k
            · exact hd.out j hj h
            · obtain rfl : j = k := by omega
              exact hD
          have qa : decide ((s[k].toNat : Int) < 48) = false := by rw [decide_eq_false_iff_not]; omega
          have qb : decide (57 < (s[k].toNat : Int)) = false := by rw [decide_eq_false_iff_not]; omega
          clear hD hm hp hd
          go_wp2_with fail
          go_round
          case rel => exact ⟨k + 1, m * 10 + (s[k].toNat - 48), by omega, by go_num, by go_num, HM, HP, HDD⟩
          case measure => simp [intOf]; omega
        · have HB := Lib.hid (numI_bad k hlt hD)
          have hq : decide ((s[k].toNat : Int) < 48) = true ∨ (decide ((s[k].toNat : Int) < 48) = false ∧ decide (57 < (s[k].toNat : Int)) = true) := by
            by_cases h1 : s[k].toNat < 48
            · exact .inl (by rw [decide_eq_true_eq]; omega)
            · refine .inr ⟨by rw [decide_eq_false_iff_not]; omega, ?_⟩
              rw [decide_eq_true_eq]
              have : ¬ (48 ≤ s[k].toNat ∧ s[k].toNat ≤ 57) := hD
              omega
          clear hD hm hp hd
          rcases hq with hq | ⟨hq, hq2⟩
          all_goals
            go_wp2_with fail
            go_ret
            exact ⟨by rw [HR.out, HB.out]; rfl, rfl⟩
      · have hks : k = s.size := by omega
        have HG : Hid (R = (m : Int)) := by
          show _ = _
          rw [HR.out, numI_good HN.out (fun j hj => hd.out j hj (by omega)), hm.out, List.take_of_length_le (by rw [bytes_len]; omega)]
        clear hm hp hd
        go_wp2_with fail
        go_ret
        exact ⟨by rw [HG.out]; rfl, rfl⟩

theorem Number_any (s : ByteArray) (w : World) (hs : s.size ≤ 9223372036854775807) :
    Calls Tryd.prog 37 #[.string s] w fun e w' => e = .returned (.int .i64 (numI s)) ∧ w' = w := by
  by_cases h : s.size = 0 ∨ 13 < s.size ∨ (1 < s.size ∧ (s.data.toList.getD 0 0).toNat = 48)
  · exact Number_none s w hs h
  · exact Number_some s w h

end Go.Proofs.YtccieoofjopbkaaDoor
