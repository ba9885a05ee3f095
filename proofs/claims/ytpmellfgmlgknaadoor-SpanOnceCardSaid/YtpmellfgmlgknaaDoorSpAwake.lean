/-
  The contract of the statements' awake.
-/
import Derived.Test.YtpmellfgmlgknaaDoorSpForms
set_option linter.unusedVariables false
namespace Go.Proofs.YtpmellfgmlgknaaDoor
open Go.RowKit

theorem aw_cut : cutE ({ data := #[98] }, { data := #[100] }) { data := #[99] } = 0 := by kernel_rfl
theorem aw_in : spHas ({ data := #[98] }, { data := #[100] }) { data := #[99] } = true := by kernel_rfl
theorem aw_out : spHas ({ data := #[98] }, { data := #[100] }) { data := #[100] } = false := by kernel_rfl

set_option maxRecDepth 100000 in
set_option maxHeartbeats 400000 in
theorem spAwake_any (HC : FSCut) (HH : FSHas) : FSAwake := by
  intro w hT
  have H1 : Hid (∀ W, Below w.heap.size w W → Calls Tryd.prog 15 #[(Go.Value.agg #[Go.Value.string ({ data := #[98] }), Go.Value.string ({ data := #[100] })]), .string { data := #[99] }] W fun e w' => e = .returned (.tuple #[(Go.Value.agg #[Go.Value.string ({ data := #[98] }), Go.Value.string ({ data := #[99] })]), (Go.Value.agg #[Go.Value.string ({ data := #[99] }), Go.Value.string ({ data := #[100] })]), .int .i64 0]) ∧ Below W.heap.size W w') := fun W hW => by
    have h := HC W { data := #[98] } { data := #[100] } { data := #[99] } (hT.next hW)
    rw [(cut_zero aw_cut).1, (cut_zero aw_cut).2, aw_cut] at h
    exact h
  have H2 : Hid (∀ W, Below w.heap.size w W → Calls Tryd.prog 12 #[(Go.Value.agg #[Go.Value.string ({ data := #[98] }), Go.Value.string ({ data := #[100] })]), .string { data := #[99] }] W fun e w' => e = .returned (.bool true) ∧ Below W.heap.size W w') := fun W hW => by
    rw [← aw_in]; exact HH W _ _ _ (hT.next hW)
  have H3 : Hid (∀ W, Below w.heap.size w W → Calls Tryd.prog 12 #[(Go.Value.agg #[Go.Value.string ({ data := #[98] }), Go.Value.string ({ data := #[100] })]), .string { data := #[100] }] W fun e w' => e = .returned (.bool false) ∧ Below W.heap.size W w') := fun W hW => by
    rw [← aw_out]; exact HH W _ _ _ (hT.next hW)
  clear HC HH hT
  go_enter Tryd.func14, Tryd.ntmps14
  go_wp2_with fail
  refine (H1.out _ (PW.new w { data := #[98] } { data := #[100] }).1).mono ?_
  rintro e w1 ⟨rfl, hb1⟩
  have P1 := Lib.hid ((PW.new w { data := #[98] } { data := #[100] }).next hb1)
  clear hb1
  go_upto_region 3 with (fail)
  have P2 := Lib.hid (P1.out.next (two_new w1 { data := #[98] } { data := #[99] } { data := #[99] } { data := #[100] }).2.2)
  have X2 := Lib.hid (two_new w1 { data := #[98] } { data := #[99] } { data := #[99] } { data := #[100] }).1
  have Y2 := Lib.hid (two_new w1 { data := #[98] } { data := #[99] } { data := #[99] } { data := #[100] }).2.1
  generalize hw2 : (w1.alloc _).alloc _ = w2 at P2 X2 Y2 ⊢
  generalize hg : w1.heap.size = g at X2 Y2 ⊢
  clear hw2 hg P1 w1
  obtain ⟨x1, x2⟩ := P2.out.2.cell
  go_wp2_with fail
  refine (H2.out _ P2.out.1).mono ?_
  rintro e w3 ⟨rfl, hb3⟩
  have P3 := Lib.hid (P2.out.next hb3)
  have X3 := Lib.hid (X2.out.over hb3)
  have Y3 := Lib.hid (Y2.out.over hb3)
  clear hb3 x1 x2 P2 X2 Y2
  obtain ⟨x1, x2⟩ := P3.out.2.cell
  go_wp2_with fail
  refine (H3.out _ P3.out.1).mono ?_
  rintro e w4 ⟨rfl, hb4⟩
  have P4 := Lib.hid (P3.out.next hb4)
  have X4 := Lib.hid (X3.out.over hb4)
  have Y4 := Lib.hid (Y3.out.over hb4)
  clear hb4 x1 x2 P3 X3 Y3
  obtain ⟨x1, x2⟩ := X4.out.cell
  obtain ⟨y1, y2⟩ := Y4.out.cell
  go_wp2_with fail
  go_ret
  exact ⟨rfl, P4.out.1⟩

end Go.Proofs.YtpmellfgmlgknaaDoor
