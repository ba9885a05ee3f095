/-
  Contracts of pack.Take and of the document's Take.
-/
import Derived.Test.YtccieoofjopbkaaDoorPkRef
namespace Go.Proofs.YtccieoofjopbkaaDoor
open Go.RowKit

theorem front_size {s : ByteArray} (h : stopS s < s.size) : (s.extract 0 (stopS s + 1)).size = stopS s + 1 := by
  rw [extract_front, S_size, List.length_take, bytes_len]; omega

theorem good_front {s : ByteArray} (h : stopS s < s.size) (h1 : ¬ 8 < stopS s) (h2 : ¬ (0 < stopS s ∧ (s[stopS s]).toNat = 0)) :
    tk s = (Pk.val (s.extract 0 (stopS s + 1)).data.toList, s.data.toList.drop (stopS s + 1), 0) := by
  rw [tk_good h h1 h2, extract_front, S_list]

set_option maxRecDepth 100000 in
set_option maxHeartbeats 400000 in
theorem take_good_any (s : ByteArray) (w : World) (hs : s.size ≤ 9223372036854775807) (h : stopS s < s.size) (h8 : ¬ 8 < stopS s) (h2 : ¬ (0 < stopS s ∧ (s[stopS s]).toNat = 0)) :
    Calls Tryd.prog 30 #[.string s] w (TakePost s w) := by
  have HT := Lib.hid (good_front h h8 h2)
  have hn := fun W => number_same (s.extract 0 (stopS s + 1)) W (by rw [front_size h]; omega)
  have HN := Lib.hid hn
  have hb := extract_back s (stopS s + 1)
  have HB := Lib.hid hb
  clear hn hb
  by_cases h0 : 0 < stopS s
  · have hz : ((s[stopS s].toNat : Int) == 0) = false := by rw [beq_eq_false_iff_ne]; intro e; exact h2 ⟨h0, by omega⟩
    clear h2
    go_enter Tryd.func30, Tryd.ntmps30
    go_wp2_with fail
    refine (lastDigit_at s _ hs h).mono ?_
    rintro e w1 ⟨rfl, rfl⟩
    go_wp2_with fail
    have q4 : (stopS s : Int) + 1 ≤ (s.size : Int) := by omega
    have q1 : IntKind.i64.wrap ((stopS s : Int) + 1) = (stopS s : Int) + 1 := IntWalk.i64_in _ (by omega)
    have q2 : (0 : Int) ≤ (stopS s : Int) + 1 := by omega
    have q3 : ((stopS s : Int) + 1).toNat = stopS s + 1 := by omega
    go_quiet ((go_at_call 41; exact Calls.quiet_of_same (HN.out _)))
    clear q1 q2 q3 q4
    go_wp2_with fail
    go_ret3
    exact ⟨by rw [HT.out, ← HB.out]; rfl, Joins.below_draws _ _ _⟩
  · clear h2
    have hd : decide (0 < (stopS s : Int)) = false := by rw [decide_eq_false_iff_not]; omega
    go_enter Tryd.func30, Tryd.ntmps30
    go_wp2_with fail
    refine (lastDigit_at s _ hs h).mono ?_
    rintro e w1 ⟨rfl, rfl⟩
    go_wp2_with fail
    have q4 : (stopS s : Int) + 1 ≤ (s.size : Int) := by omega
    have q1 : IntKind.i64.wrap ((stopS s : Int) + 1) = (stopS s : Int) + 1 := IntWalk.i64_in _ (by omega)
    have q2 : (0 : Int) ≤ (stopS s : Int) + 1 := by omega
    have q3 : ((stopS s : Int) + 1).toNat = stopS s + 1 := by omega
    go_quiet ((go_at_call 41; exact Calls.quiet_of_same (HN.out _)))
    clear q1 q2 q3 q4
    go_wp2_with fail
    go_ret3
    exact ⟨by rw [HT.out, ← HB.out]; rfl, Joins.below_draws _ _ _⟩

theorem Take_any (s : ByteArray) (w : World) (hs : s.size ≤ 9223372036854775807) : Calls Tryd.prog 30 #[.string s] w (TakePost s w) := by
  by_cases h : stopS s < s.size
  · by_cases h8 : 8 < stopS s
    · exact take_long_any s w hs h h8
    · by_cases h2 : 0 < stopS s ∧ (s[stopS s]).toNat = 0
      · exact take_zero_any s w hs h h8 h2.1 h2.2
      · exact take_good_any s w hs h h8 h2
  · exact take_short_any s w hs h

end Go.Proofs.YtccieoofjopbkaaDoor
