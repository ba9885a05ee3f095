/-
  Contracts of Show for what is not valid and for small numbers; the fixed answer.
-/
import Derived.Test.YtccieoofjopbkaaDoorStCompare
import Derived.Test.YtccieoofjopbkaaDoorStBox
namespace Go.Proofs.YtccieoofjopbkaaDoor
open Go.RowKit

/-- The decimal digits. -/
def decS (n : Nat) : ByteArray := ⟨(Lib.decDigits n).toArray⟩

def decI (n : Int) : ByteArray := decS n.toNat
def Small (n : Int) : Prop := ∃ m : Nat, n = m ∧ m < 100

theorem nDigits_le : ∀ (k u : Nat), u < 10 ^ (k + 1) → Lib.nDigits u ≤ k + 1
  | 0, u, h => by rw [Lib.nDigits_small (by simpa using h)]; exact Nat.le_refl _
  | k + 1, u, h => by
    by_cases h1 : u < 10
    · rw [Lib.nDigits_small h1]; omega
    · rw [Lib.nDigits_big h1]
      have := nDigits_le k (u / 10) (by rw [Nat.pow_succ] at h; omega)
      omega
theorem decS_size (n : Nat) : (decS n).size = Lib.nDigits n := by
  rw [← Lib.decDigits_length]; simp [decS, ByteArray.size]
theorem decI_size {n : Int} (h : n ≤ 9223372036854775807) : (decI n).size ≤ 19 := by
  unfold decI
  rw [decS_size]
  exact nDigits_le 18 _ (by
    have : (10 : Nat) ^ (18 + 1) = 10000000000000000000 := by decide
    omega)

set_option maxRecDepth 100000 in
set_option maxHeartbeats 400000 in
theorem Show_bad (a b c : Int) (w : World) (h : rightB a b c = false) : Calls Tryd.prog 22 #[(Go.Value.agg #[Go.Value.int Go.IntKind.i64 a, Go.Value.int Go.IntKind.i64 b, Go.Value.int Go.IntKind.i64 c])] w fun e w' => e = .returned (.string { data := #[] }) ∧ Below w.heap.size w w' := by
  have HR : Hid (∀ W, Calls Tryd.prog 15 #[(Go.Value.agg #[Go.Value.int Go.IntKind.i64 a, Go.Value.int Go.IntKind.i64 b, Go.Value.int Go.IntKind.i64 c])] W fun e w' => e = .returned (.bool false) ∧ Below W.heap.size W w') := fun W => by rw [← h]; exact Right_any _ _ _ W
  clear h
  go_enter Tryd.func22, Tryd.ntmps22
  go_wp2_with fail
  refine (HR.out _).mono ?_
  rintro e w1 ⟨rfl, hb1⟩
  obtain ⟨hx, hb⟩ := W1_next hb1
  clear hb1 hx
  go_wp2_with fail
  go_ret
  exact ⟨rfl, hb⟩

set_option maxRecDepth 100000 in
set_option maxHeartbeats 400000 in
theorem Show_small (a b c : Nat) (ha : a < 100) (hb : b < 100) (hc : c < 100) (w : World) : Calls Tryd.prog 22 #[(Go.Value.agg #[Go.Value.int Go.IntKind.i64 a, Go.Value.int Go.IntKind.i64 b, Go.Value.int Go.IntKind.i64 c])] w fun e w' => e = .returned (.string (decS a ++ { data := #[46] } ++ decS b ++ { data := #[46] } ++ decS c)) ∧ Below w.heap.size w w' := by
  have HR : Hid (∀ W, Calls Tryd.prog 15 #[(Go.Value.agg #[Go.Value.int Go.IntKind.i64 a, Go.Value.int Go.IntKind.i64 b, Go.Value.int Go.IntKind.i64 c])] W fun e w' => e = .returned (.bool true) ∧ Below W.heap.size W w') := fun W => by
    rw [← rightB_yes (a := a) (b := b) (c := c) (by omega) (by omega) (by omega)]; exact Right_any _ _ _ W
  have HI : Hid (∀ (n : Int) W, Small n → Calls Tryd.prog 34 #[.int .i64 n] W fun e w' => e = .returned (.string (decI n)) ∧ w' = W) := fun n W hn => by
    obtain ⟨m, rfl, hm⟩ := hn
    exact Tryd.strconv_Itoa_small m hm W
  have ka : Small (a : Int) := ⟨a, rfl, ha⟩
  have kb : Small (b : Int) := ⟨b, rfl, hb⟩
  have kc : Small (c : Int) := ⟨c, rfl, hc⟩
  have za := decI_size (n := (a : Int)) (by omega)
  have zb := decI_size (n := (b : Int)) (by omega)
  have zc := decI_size (n := (c : Int)) (by omega)
  clear ha hb hc
  show Calls _ _ _ _ fun e w' => e = .returned (.string (decI a ++ { data := #[46] } ++ decI b ++ { data := #[46] } ++ decI c)) ∧ Below w.heap.size w w'
  generalize (a : Int) = a at *
  generalize (b : Int) = b at *
  generalize (c : Int) = c at *
  go_enter Tryd.func22, Tryd.ntmps22
  go_wp2_with fail
  refine (HR.out _).mono ?_
  rintro e w1 ⟨rfl, hb1⟩
  obtain ⟨hx, hb⟩ := W1_next hb1
  obtain ⟨x0, x1, x2⟩ := hx.cell
  clear hb1 hx
  go_wp2_with fail
  have q1 : (9223372036854775807 < (decI a).size + 1) = False := eq_false (by omega)
  have q2 : (9223372036854775807 < (decI a).size + 1 + (decI b).size) = False := eq_false (by omega)
  have q3 : (9223372036854775807 < (decI a).size + 1 + (decI b).size + 1) = False := eq_false (by omega)
  have q4 : (9223372036854775807 < (decI a).size + 1 + (decI b).size + 1 + (decI c).size) = False := eq_false (by omega)
  clear za zb zc
  go_quiet ((go_at_call 34; exact Calls.quiet_of_same (HI.out _ _ (by assumption))))
  clear q1 q2 q3 q4
  go_wp2_with fail
  go_ret
  exact ⟨rfl, hb.trans (Joins.below_draws _ _ _)⟩

end Go.Proofs.YtccieoofjopbkaaDoor
