/-
  The walk of SpanCuts, over what it asks of package span.
-/
import Derived.Test.YtpmellfgmlgknaaDoorSpForms
set_option linter.unusedVariables false
namespace Go.Proofs.YtpmellfgmlgknaaDoor
open Go.RowKit

set_option maxRecDepth 100000 in
set_option maxHeartbeats 1000000 in
theorem spanCuts_core (HF : FSAwake) (HC : FSCut) (w : World) (hT : UtfAt w) (a b k : ByteArray) :
    Calls Tryd.prog 4 #[(Go.Value.agg #[Go.Value.string a, Go.Value.string b]), .string k] w fun e w' => e = .returned (.bool true) ∧ Below w.heap.size w w' := by
  obtain ⟨x, hx⟩ : ∃ x, x = (cutA (a, b) k).1 := ⟨_, rfl⟩
  obtain ⟨y, hy⟩ : ∃ y, y = (cutA (a, b) k).2 := ⟨_, rfl⟩
  obtain ⟨z, hz⟩ : ∃ z, z = (cutB (a, b) k).1 := ⟨_, rfl⟩
  obtain ⟨u, hu⟩ : ∃ u, u = (cutB (a, b) k).2 := ⟨_, rfl⟩
  obtain ⟨E, hE⟩ : ∃ E, E = cutE (a, b) k := ⟨_, rfl⟩
  have H1 : Hid (∀ W, Below w.heap.size w W → Calls Tryd.prog 14 #[] W fun e w' => e = .returned (.bool true) ∧ Below W.heap.size W w') := fun W hW => HF W (hT.next hW)
  have H2 : Hid (∀ W, Below w.heap.size w W → Calls Tryd.prog 15 #[(Go.Value.agg #[Go.Value.string a, Go.Value.string b]), .string k] W fun e w' => e = .returned (.tuple #[(Go.Value.agg #[Go.Value.string x, Go.Value.string y]), (Go.Value.agg #[Go.Value.string z, Go.Value.string u]), .int .i64 E]) ∧ Below W.heap.size W w') := fun W hW => by rw [hx, hy, hz, hu, hE]; exact HC W a b k (hT.next hW)
  have H3 : Hid (∀ W, Below w.heap.size w W → Calls Tryd.prog 16 #[(Go.Value.agg #[Go.Value.string a, Go.Value.string b]), .string k] W fun e w' => e = .returned (.tuple #[(Go.Value.agg #[Go.Value.string x, Go.Value.string y]), (Go.Value.agg #[Go.Value.string z, Go.Value.string u]), .int .i64 E]) ∧ Below W.heap.size W w') := fun W hW => by rw [hx, hy, hz, hu, hE]; exact spRefCut_any a b k W
  clear HF HC hT hx hy hz hu hE
  go_enter Tryd.func4, Tryd.ntmps4
  go_wp2_with fail
  refine (H2.out _ (PW.new w a b).1).mono ?_
  rintro e w1 ⟨rfl, hb1⟩
  have P1 := Lib.hid ((PW.new w a b).next hb1)
  clear hb1
  go_upto_region 2 with (fail)
  have P2 := Lib.hid (P1.out.next (two_new w1 x y z u).2.2)
  have X2 := Lib.hid (two_new w1 x y z u).1
  have Y2 := Lib.hid (two_new w1 x y z u).2.1
  generalize hw2 : (w1.alloc _).alloc _ = w2 at P2 X2 Y2 ⊢
  generalize hg : w1.heap.size = g at X2 Y2 ⊢
  clear hw2 hg P1 w1
  obtain ⟨x1, x2⟩ := P2.out.2.cell
  go_wp2_with fail
  refine (H3.out _ P2.out.1).mono ?_
  rintro e w3 ⟨rfl, hb3⟩
  have P3 := Lib.hid (P2.out.next hb3)
  have X3 := Lib.hid (X2.out.over hb3)
  have Y3 := Lib.hid (Y2.out.over hb3)
  clear hb3 x1 x2 P2 X2 Y2
  go_upto_region 3 with (fail)
  have P4 := Lib.hid (P3.out.next (two_new w3 x y z u).2.2)
  have X4 := Lib.hid (X3.out.over (two_new w3 x y z u).2.2)
  have Y4 := Lib.hid (Y3.out.over (two_new w3 x y z u).2.2)
  have X5 := Lib.hid (two_new w3 x y z u).1
  have Y5 := Lib.hid (two_new w3 x y z u).2.1
  generalize hw4 : (w3.alloc _).alloc _ = w4 at P4 X4 Y4 X5 Y5 ⊢
  generalize hg3 : w3.heap.size = g3 at X5 Y5 ⊢
  clear hw4 hg3 P3 X3 Y3 w3
  obtain ⟨x1, x2⟩ := X4.out.cell
  obtain ⟨x3, x4⟩ := Y4.out.cell
  obtain ⟨x5, x6⟩ := X5.out.cell
  obtain ⟨x7, x8⟩ := Y5.out.cell
  go_wp2_with fail
  refine (H1.out _ P4.out.1).mono ?_
  rintro e w5 ⟨rfl, hb5⟩
  go_wp2_with fail
  go_ret
  exact ⟨rfl, P4.out.1.trans (hb5.mono P4.out.1.size)⟩

end Go.Proofs.YtpmellfgmlgknaaDoor
