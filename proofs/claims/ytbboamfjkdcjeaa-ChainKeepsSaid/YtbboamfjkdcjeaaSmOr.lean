/-
  The contract of cmp.Or.
-/
import Derived.Test.YtbboamfjkdcjeaaSmPlain
set_option linter.unusedVariables false
namespace Go.Proofs.Ytbboamfjkdcjeaa
open Go.RowKit

/-- The first of a list that is not zero, or zero. -/
def orL : List Int → Int
  | [] => 0
  | x :: r => if x = 0 then orL r else x
theorem orL_zero : ∀ (zs : List Int), (∀ i, i < zs.length → zs.getD i 0 = 0) → orL zs = 0
  | [], _ => rfl
  | x :: r, h => by
    have h0 : x = 0 := by simpa using h 0 (by simp)
    rw [orL, if_pos h0]
    exact orL_zero r (fun i hi => by simpa using h (i + 1) (by simp; omega))
theorem orL_at : ∀ (zs : List Int) (k : Nat), k < zs.length → (∀ i, i < k → zs.getD i 0 = 0) → zs.getD k 0 ≠ 0 → orL zs = zs.getD k 0
  | [], k, hk, _, _ => absurd hk (Nat.not_lt_zero _)
  | x :: r, 0, _, _, h => by
    have h0 : ¬ x = 0 := by simpa using h
    rw [orL, if_neg h0]; simp
  | x :: r, k + 1, hk, hz, h => by
    have h0 : x = 0 := by simpa using hz 0 (by omega)
    rw [orL, if_pos h0, orL_at r k (by simpa using hk) (fun i hi => by simpa using hz (i + 1) (by omega)) (by simpa using h)]
    simp
theorem orL_three (x y z : Int) : orL [x, y, z] = orI x y z := by
  unfold orI; simp only [orL]
  (repeat' split) <;> simp_all
set_option maxRecDepth 100000 in
set_option maxHeartbeats 400000 in
theorem Or_row (b off len cap : Nat) (zs : List Int) (w : World) (hlen : zs.length = len) (h100 : len ≤ 100) (hcell : ∀ i, i < len → w.cell? ⟨b, off + i, none⟩ = some (.int .i64 (zs.getD i 0))) :
    Calls Try.prog 30 #[.slice (some ⟨b, off, none⟩) len cap] w fun e w' => e = .returned (.int .i64 (orL zs)) ∧ w' = w := by
  have HC := Lib.hid hcell
  have HL := Lib.hid hlen
  clear hcell hlen
  go_enter Try.func30, Try.ntmps30
  go_wp2_with fail
  go_loop [5, 8] (fun _ i => ∃ k : Nat, k ≤ len ∧ i = .int .i64 k ∧ Hid (∀ i, i < k → zs.getD i 0 = 0)) (fun _ i => len - (intOf i).toNat)
  case atStart => exact ⟨0, Nat.zero_le _, rfl, fun i hi => absurd hi (Nat.not_lt_zero _)⟩
  case round =>
    obtain ⟨k, hk, rfl, hz⟩ := hrel
    by_cases hlt : k < len
    · have hcx := HC.out k hlt
      obtain ⟨z, hzz⟩ : ∃ z, z = zs.getD k 0 := ⟨_, rfl⟩
      rw [← hzz] at hcx
      have HZ := Lib.hid hzz
      clear hzz
      by_cases h0 : z = 0
      · subst h0
        have HN : Hid (∀ i, i < k + 1 → zs.getD i 0 = 0) := by
          intro i hi
          by_cases hik : i < k
          · exact hz.out i hik
          · obtain rfl : i = k := by omega
            exact HZ.out.symm
        go_wp2_with fail
        go_round
        case rel => exact ⟨k + 1, by omega, by go_num, HN⟩
        case measure => simp [intOf]; omega
      · have HE : Hid (orL zs = z) := by
          show _ = _
          rw [orL_at zs k (by rw [HL.out]; exact hlt) hz.out (by rw [← HZ.out]; exact h0), HZ.out]
        have hne : (z == 0) = false := beq_eq_false_iff_ne.2 h0
        clear h0
        go_wp2_with fail
        go_ret
        exact ⟨by rw [HE.out]; rfl, rfl⟩
    · have HE : Hid (orL zs = 0) := orL_zero zs (fun i hi => hz.out i (by rw [HL.out] at hi; omega))
      go_wp2_with fail
      go_ret
      exact ⟨by rw [HE.out]; rfl, rfl⟩

theorem Or_new (w : World) (x y z : Int) : Calls Try.prog 30 #[.slice (some ⟨w.heap.size, 0, none⟩) 3 3] (w.alloc (.cells #[.int .i64 x, .int .i64 y, .int .i64 z] 3)) fun e w' => e = .returned (.int .i64 (orI x y z)) ∧ w' = w.alloc (.cells #[.int .i64 x, .int .i64 y, .int .i64 z] 3) := by
  rw [← orL_three]
  refine Or_row w.heap.size 0 3 3 [x, y, z] _ rfl (by omega) (fun i hi => ?_)
  have : i = 0 ∨ i = 1 ∨ i = 2 := by omega
  rcases this with rfl | rfl | rfl <;> simp

end Go.Proofs.Ytbboamfjkdcjeaa
