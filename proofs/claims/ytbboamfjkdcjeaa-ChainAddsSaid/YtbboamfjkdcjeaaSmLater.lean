/-
  The contract of stamp.Later.
-/
import Derived.Test.YtbboamfjkdcjeaaSmCompare
import Derived.Test.YtbboamfjkdcjeaaSmTwo
set_option linter.unusedVariables false
namespace Go.Proofs.Ytbboamfjkdcjeaa
open Go.RowKit

set_option maxRecDepth 100000 in
set_option maxHeartbeats 400000 in
theorem Later_fst (a1 a2 a3 b1 b2 b3 : Int) (w : World) (hp : 0 < cmpI a1 a2 a3 b1 b2 b3) : Calls Try.prog 23 #[(Go.Value.agg #[Go.Value.int Go.IntKind.i64 a1, Go.Value.int Go.IntKind.i64 a2, Go.Value.int Go.IntKind.i64 a3]), (Go.Value.agg #[Go.Value.int Go.IntKind.i64 b1, Go.Value.int Go.IntKind.i64 b2, Go.Value.int Go.IntKind.i64 b3])] w fun e w' => e = .returned (Go.Value.agg #[Go.Value.int Go.IntKind.i64 a1, Go.Value.int Go.IntKind.i64 a2, Go.Value.int Go.IntKind.i64 a3]) ∧ Below w.heap.size w w' := by
  obtain ⟨c, hc⟩ : ∃ c, c = cmpI a1 a2 a3 b1 b2 b3 := ⟨_, rfl⟩
  have HCC : Hid (∀ W, Calls Try.prog 22 #[(Go.Value.agg #[Go.Value.int Go.IntKind.i64 a1, Go.Value.int Go.IntKind.i64 a2, Go.Value.int Go.IntKind.i64 a3]), (Go.Value.agg #[Go.Value.int Go.IntKind.i64 b1, Go.Value.int Go.IntKind.i64 b2, Go.Value.int Go.IntKind.i64 b3])] W fun e w' => e = .returned (.int .i64 c) ∧ Below W.heap.size W w') := fun W => by rw [hc]; exact Compare_any _ _ _ _ _ _ W
  rw [← hc] at hp
  clear hc
  have hpd : decide (0 < c) = true := by simpa using hp
  go_enter Try.func23, Try.ntmps23
  go_wp2_with fail
  refine (HCC.out _).mono ?_
  rintro e w1 ⟨rfl, hb1⟩
  obtain ⟨hx0, hx1, hx2, hb⟩ := W3_next hb1
  clear hb1
  have HX0 := Lib.hid hx0
  have HX1 := Lib.hid hx1
  have HX2 := Lib.hid hx2
  clear hx0 hx1 hx2
  go_wp2_with (first | (refine box_load w.heap.size HX0.out rfl _ rfl rfl ?_) | (refine box_store (w.heap.size + 1 + 1) HX2.out rfl _ _ rfl rfl rfl ?_))
  exact bodyPost_ret (box_result rfl _ _ (w.heap.size + 1 + 1) rfl (HX2.out.set a1 a2 a3)) rfl ⟨rfl, below_setRow hb (by omega) _⟩

set_option maxRecDepth 100000 in
set_option maxHeartbeats 400000 in
theorem Later_snd (a1 a2 a3 b1 b2 b3 : Int) (w : World) (hp : ¬ 0 < cmpI a1 a2 a3 b1 b2 b3) : Calls Try.prog 23 #[(Go.Value.agg #[Go.Value.int Go.IntKind.i64 a1, Go.Value.int Go.IntKind.i64 a2, Go.Value.int Go.IntKind.i64 a3]), (Go.Value.agg #[Go.Value.int Go.IntKind.i64 b1, Go.Value.int Go.IntKind.i64 b2, Go.Value.int Go.IntKind.i64 b3])] w fun e w' => e = .returned (Go.Value.agg #[Go.Value.int Go.IntKind.i64 b1, Go.Value.int Go.IntKind.i64 b2, Go.Value.int Go.IntKind.i64 b3]) ∧ Below w.heap.size w w' := by
  obtain ⟨c, hc⟩ : ∃ c, c = cmpI a1 a2 a3 b1 b2 b3 := ⟨_, rfl⟩
  have HCC : Hid (∀ W, Calls Try.prog 22 #[(Go.Value.agg #[Go.Value.int Go.IntKind.i64 a1, Go.Value.int Go.IntKind.i64 a2, Go.Value.int Go.IntKind.i64 a3]), (Go.Value.agg #[Go.Value.int Go.IntKind.i64 b1, Go.Value.int Go.IntKind.i64 b2, Go.Value.int Go.IntKind.i64 b3])] W fun e w' => e = .returned (.int .i64 c) ∧ Below W.heap.size W w') := fun W => by rw [hc]; exact Compare_any _ _ _ _ _ _ W
  rw [← hc] at hp
  clear hc
  have hpd : decide (0 < c) = false := by simpa using hp
  go_enter Try.func23, Try.ntmps23
  go_wp2_with fail
  refine (HCC.out _).mono ?_
  rintro e w1 ⟨rfl, hb1⟩
  obtain ⟨hx0, hx1, hx2, hb⟩ := W3_next hb1
  clear hb1
  have HX0 := Lib.hid hx0
  have HX1 := Lib.hid hx1
  have HX2 := Lib.hid hx2
  clear hx0 hx1 hx2
  go_wp2_with (first | (refine box_load (w.heap.size + 1) HX1.out rfl _ rfl rfl ?_) | (refine box_store (w.heap.size + 1 + 1) HX2.out rfl _ _ rfl rfl rfl ?_))
  exact bodyPost_ret (box_result rfl _ _ (w.heap.size + 1 + 1) rfl (HX2.out.set b1 b2 b3)) rfl ⟨rfl, below_setRow hb (by omega) _⟩


end Go.Proofs.Ytbboamfjkdcjeaa
