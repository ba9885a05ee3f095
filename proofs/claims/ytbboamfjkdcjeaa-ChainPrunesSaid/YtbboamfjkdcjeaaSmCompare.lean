/-
  The contract of stamp.Compare.
-/
import Derived.Test.YtbboamfjkdcjeaaSmOr
import Derived.Test.YtbboamfjkdcjeaaSmCmp
import Derived.StillTailTactics
set_option linter.unusedVariables false
namespace Go.Proofs.Ytbboamfjkdcjeaa
open Go.RowKit

set_option maxRecDepth 100000 in
set_option maxHeartbeats 400000 in
theorem Compare_any (a1 a2 a3 b1 b2 b3 : Int) (w : World) : Calls Try.prog 22 #[(Go.Value.agg #[Go.Value.int Go.IntKind.i64 a1, Go.Value.int Go.IntKind.i64 a2, Go.Value.int Go.IntKind.i64 a3]), (Go.Value.agg #[Go.Value.int Go.IntKind.i64 b1, Go.Value.int Go.IntKind.i64 b2, Go.Value.int Go.IntKind.i64 b3])] w fun e w' => e = .returned (.int .i64 (cmpI a1 a2 a3 b1 b2 b3)) ∧ Below w.heap.size w w' := by
  have HE := Lib.hid (or_cmp a1 a2 a3 b1 b2 b3)
  have HC : Hid (∀ x y (W : World), Calls Try.prog 31 #[.int .i64 x, .int .i64 y] W fun e w' => e = .returned (.int .i64 (Lib.compareInt x y)) ∧ w' = W) := fun x y W => cmp_int x y W
  go_enter Try.func22, Try.ntmps22
  go_wp2_with fail
  refine wp_region_still_tail 15 (by kernel_rfl) (by kernel_rfl) ?_
  simp only [List.take_succ_cons, List.take_zero, List.drop_succ_cons, List.drop_zero]
  change wpStill _ _ (World.drew ((w.alloc _).alloc _)) (fun a' => wpList _ _ _ _ a' (World.drew ((w.alloc _).alloc _))) _ _
  obtain ⟨w0, hb, c1, c2, c3, c4, c5, c6, hw0⟩ : ∃ w0, Below w.heap.size w w0 ∧ w0.cell? ⟨w.heap.size, 0, none⟩ = some (.int .i64 a1) ∧ w0.cell? ⟨w.heap.size, 1, none⟩ = some (.int .i64 a2) ∧ w0.cell? ⟨w.heap.size, 2, none⟩ = some (.int .i64 a3) ∧ w0.cell? ⟨w.heap.size + 1, 0, none⟩ = some (.int .i64 b1) ∧ w0.cell? ⟨w.heap.size + 1, 1, none⟩ = some (.int .i64 b2) ∧ w0.cell? ⟨w.heap.size + 1, 2, none⟩ = some (.int .i64 b3) ∧ World.drew ((w.alloc (.cells #[.int .i64 a1, .int .i64 a2, .int .i64 a3] 24)).alloc (.cells #[.int .i64 b1, .int .i64 b2, .int .i64 b3] 24)) = w0 :=
    ⟨_, (((Below.refl _ _).alloc (Nat.le_refl _) _).alloc (by simp) _).drew, by simp, by simp, by simp, by simp, by simp, by simp, rfl⟩
  rw [hw0]
  clear hw0
  repeat (first | still_step | still_call (HC.out _ _ _))
  refine wpStill_nil ?_
  go_wp2_with fail
  refine (Or_new _ _ _ _).mono ?_
  rintro e w1 ⟨rfl, rfl⟩
  go_wp2_with fail
  go_ret
  exact ⟨by rw [HE.out]; rfl, hb.alloc hb.size _⟩


end Go.Proofs.Ytbboamfjkdcjeaa
