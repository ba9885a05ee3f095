/-
  The fixed answer of the laws of tables.
-/
import Derived.Test.YtdiabcdpnbhibaaDdForms
set_option linter.unusedVariables false
namespace Go.Proofs.Ytdiabcdpnbhibaa
open Go.RowKit

def dw1 : Dn := (3, 5, 0, (0, 0, 0), false, ByteArray.empty, 0, ByteArray.empty, false)
theorem dw_put : IsDPut [] dw1 [dw1] 0 := by
  have e : putT [] dw1 = [dw1] := rfl
  refine .inr (.inr (.inr ⟨right_nil, by decide, ?_, by rw [e]; decide, e.symm, rfl⟩))
  show (0 : Int) < 5
  decide
theorem dw_right : rightT [dw1] = true := by rw [right_one]; decide
theorem dw_jud (r : Int) (h : numB r = true) : judT [dw1] 3 r = if (5 : Int) < r then 1 else if r = 5 then 2 else 3 := by
  unfold judT
  rw [dw_right, h, show numB 3 = true by decide, show reqT [dw1] 3 = 5 by rfl]
  rfl

set_option maxRecDepth 100000 in
set_option maxHeartbeats 1000000 in
theorem dawake_any (hP : FDPut) (hJ : FDJudge) : FDAwake := by
  intro w
  have HP : Hid (∀ W, Calls Try.prog 17 #[.slice none 0 0, (Go.Value.agg #[Go.Value.int Go.IntKind.i64 3, Go.Value.int Go.IntKind.i64 5, Go.Value.int Go.IntKind.i64 0, Go.Value.int Go.IntKind.i64 0, Go.Value.int Go.IntKind.i64 0, Go.Value.int Go.IntKind.i64 0, Go.Value.bool false, Go.Value.string (ByteArray.empty), Go.Value.slice none 0 0, Go.Value.string (ByteArray.empty), Go.Value.bool false])] W fun e' w' => ∃ v', e' = .returned (.tuple #[v', .int .i64 0]) ∧ SoEnd W [dw1] v' w') := fun W => hP W _ [] 3 5 0 0 0 0 false ByteArray.empty none 0 0 ByteArray.empty false [dw1] 0 (tab_nil W) dw_put
  have HJ : Hid (∀ W v, Tab W v [dw1] → (Calls Try.prog 12 #[v, .int .i64 3, .int .i64 6] W fun e w' => e = .returned (.int .i64 1) ∧ Below W.heap.size W w') ∧ (Calls Try.prog 12 #[v, .int .i64 3, .int .i64 5] W fun e w' => e = .returned (.int .i64 2) ∧ Below W.heap.size W w') ∧ (Calls Try.prog 12 #[v, .int .i64 3, .int .i64 4] W fun e w' => e = .returned (.int .i64 3) ∧ Below W.heap.size W w')) := by
    show ∀ W v, _ → _
    intro W v hv
    have h6 := hJ W v [dw1] 3 6 hv (by decide) (by decide)
    have h5 := hJ W v [dw1] 3 5 hv (by decide) (by decide)
    have h4 := hJ W v [dw1] 3 4 hv (by decide) (by decide)
    rw [dw_jud _ (by decide)] at h6 h5 h4
    exact ⟨h6, h5, h4⟩
  clear hP hJ
  go_enter Try.func9, Try.ntmps9
  go_wp2_with fail
  refine (HP.out _).mono ?_
  rintro e w1 ⟨v1, rfl, h1⟩
  obtain ⟨a1, c1, rfl⟩ := tab_slice h1.1
  have H1 : Hid (Tab w1 (.slice a1 1 c1) [dw1] ∧ Below w.heap.size w w1) := h1
  clear h1 HP
  go_wp2_with fail
  refine ((HJ.out _ _ H1.out.1).1).mono ?_
  rintro e w2 ⟨rfl, hb2⟩
  have H2 : Hid (Tab w2 (.slice a1 1 c1) [dw1] ∧ Below w.heap.size w w2) := ⟨H1.out.1.next hb2, H1.out.2.trans (hb2.mono H1.out.2.size)⟩
  clear hb2 H1
  go_wp2_with fail
  refine ((HJ.out _ _ H2.out.1).2.1).mono ?_
  rintro e w3 ⟨rfl, hb3⟩
  have H3 : Hid (Tab w3 (.slice a1 1 c1) [dw1] ∧ Below w.heap.size w w3) := ⟨H2.out.1.next hb3, H2.out.2.trans (hb3.mono H2.out.2.size)⟩
  clear hb3 H2
  go_wp2_with fail
  refine ((HJ.out _ _ H3.out.1).2.2).mono ?_
  rintro e w4 ⟨rfl, hb4⟩
  have H4 : Hid (Below w.heap.size w w4) := H3.out.2.trans (hb4.mono H3.out.2.size)
  clear hb4 H3
  go_wp2_with fail
  go_ret
  exact ⟨rfl, H4.out⟩

end Go.Proofs.Ytdiabcdpnbhibaa
