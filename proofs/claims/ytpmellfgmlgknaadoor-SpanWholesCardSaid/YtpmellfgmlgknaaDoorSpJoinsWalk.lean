/-
  The walk of SpanJoins, over what it asks of package span.
-/
import Derived.Test.YtpmellfgmlgknaaDoorSpForms
set_option linter.unusedVariables false
namespace Go.Proofs.YtpmellfgmlgknaaDoor
open Go.RowKit

set_option maxRecDepth 100000 in
set_option maxHeartbeats 1000000 in
theorem spanJoins_core (HF : FSAwake) (HJ : FSJoin) (HM : FSMeet) (w : World) (hT : UtfAt w) (a b c d : ByteArray) :
    Calls Tryd.prog 5 #[(Go.Value.agg #[Go.Value.string a, Go.Value.string b]), (Go.Value.agg #[Go.Value.string c, Go.Value.string d])] w fun e w' => e = .returned (.bool true) ∧ Below w.heap.size w w' := by
  obtain ⟨x, hx⟩ : ∃ x, x = (joinS (a, b) (c, d)).1 := ⟨_, rfl⟩
  obtain ⟨y, hy⟩ : ∃ y, y = (joinS (a, b) (c, d)).2 := ⟨_, rfl⟩
  obtain ⟨E, hE⟩ : ∃ E, E = joinE (a, b) (c, d) := ⟨_, rfl⟩
  obtain ⟨m, hm⟩ : ∃ m, m = meetB (a, b) (c, d) := ⟨_, rfl⟩
  have H1 : Hid (∀ W, Below w.heap.size w W → Calls Tryd.prog 14 #[] W fun e w' => e = .returned (.bool true) ∧ Below W.heap.size W w') := fun W hW => HF W (hT.next hW)
  have H2 : Hid (∀ W, Below w.heap.size w W → Calls Tryd.prog 17 #[(Go.Value.agg #[Go.Value.string a, Go.Value.string b]), (Go.Value.agg #[Go.Value.string c, Go.Value.string d])] W fun e w' => e = .returned (.tuple #[(Go.Value.agg #[Go.Value.string x, Go.Value.string y]), .int .i64 E]) ∧ Below W.heap.size W w') := fun W hW => by rw [hx, hy, hE]; exact HJ W a b c d (hT.next hW)
  have H3 : Hid (∀ W, Below w.heap.size w W → Calls Tryd.prog 18 #[(Go.Value.agg #[Go.Value.string a, Go.Value.string b]), (Go.Value.agg #[Go.Value.string c, Go.Value.string d])] W fun e w' => e = .returned (.tuple #[(Go.Value.agg #[Go.Value.string x, Go.Value.string y]), .int .i64 E]) ∧ Below W.heap.size W w') := fun W hW => by rw [hx, hy, hE]; exact spRefJoin_any a b c d W
  have H4 : Hid (∀ W, Below w.heap.size w W → Calls Tryd.prog 19 #[(Go.Value.agg #[Go.Value.string a, Go.Value.string b]), (Go.Value.agg #[Go.Value.string c, Go.Value.string d])] W fun e w' => e = .returned (.bool m) ∧ Below W.heap.size W w') := fun W hW => by rw [hm]; exact spRefMeet_any a b c d W
  have H5 : Hid (∀ W, Below w.heap.size w W → Calls Tryd.prog 20 #[(Go.Value.agg #[Go.Value.string a, Go.Value.string b]), (Go.Value.agg #[Go.Value.string c, Go.Value.string d])] W fun e w' => e = .returned (.bool m) ∧ Below W.heap.size W w') := fun W hW => by rw [hm]; exact HM W a b c d (hT.next hW)
  have H6 : Hid (∀ W, Below w.heap.size w W → Calls Tryd.prog 20 #[(Go.Value.agg #[Go.Value.string c, Go.Value.string d]), (Go.Value.agg #[Go.Value.string a, Go.Value.string b])] W fun e w' => e = .returned (.bool m) ∧ Below W.heap.size W w') := fun W hW => by rw [hm, meet_comm]; exact HM W c d a b (hT.next hW)
  clear HF HJ HM hT hx hy hE hm
  go_enter Tryd.func5, Tryd.ntmps5
  go_wp2_with fail
  refine (H2.out _ (K2s.new w a b c d).1).mono ?_
  rintro e w1 ⟨rfl, hb1⟩
  have P1 := Lib.hid ((K2s.new w a b c d).next hb1)
  clear hb1
  go_upto_region 2 with (fail)
  have P2 := Lib.hid (P1.out.next (one_new w1 x y).2)
  have X2 := Lib.hid (one_new w1 x y).1
  generalize hw2 : w1.alloc _ = w2 at P2 X2 ⊢
  generalize hg : w1.heap.size = g at X2 ⊢
  clear hw2 hg P1 w1
  obtain ⟨x1, x2⟩ := P2.out.2.1.cell
  obtain ⟨x3, x4⟩ := P2.out.2.2.cell
  go_wp2_with fail
  refine (H3.out _ P2.out.1).mono ?_
  rintro e w3 ⟨rfl, hb3⟩
  have P3 := Lib.hid (P2.out.next hb3)
  have X3 := Lib.hid (X2.out.over hb3)
  clear hb3 x1 x2 x3 x4 P2 X2
  go_upto_region 3 with (fail)
  have P4 := Lib.hid (P3.out.next (one_new w3 x y).2)
  have X4 := Lib.hid (X3.out.over (one_new w3 x y).2)
  have X5 := Lib.hid (one_new w3 x y).1
  generalize hw4 : w3.alloc _ = w4 at P4 X4 X5 ⊢
  generalize hg3 : w3.heap.size = g3 at X5 ⊢
  clear hw4 hg3 P3 X3 w3
  obtain ⟨x1, x2⟩ := P4.out.2.1.cell
  obtain ⟨x3, x4⟩ := P4.out.2.2.cell
  go_wp2_with fail
  refine (H4.out _ P4.out.1).mono ?_
  rintro e w5 ⟨rfl, hb5⟩
  have P5 := Lib.hid (P4.out.next hb5)
  have X6 := Lib.hid (X4.out.over hb5)
  have X7 := Lib.hid (X5.out.over hb5)
  clear hb5 x1 x2 x3 x4 P4 X4 X5
  obtain ⟨x1, x2⟩ := P5.out.2.1.cell
  obtain ⟨x3, x4⟩ := P5.out.2.2.cell
  obtain ⟨x5, x6⟩ := X6.out.cell
  obtain ⟨x7, x8⟩ := X7.out.cell
  go_wp2_with fail
  refine (H5.out _ P5.out.1).mono ?_
  rintro e w6 ⟨rfl, hb6⟩
  have P6 := Lib.hid (P5.out.next hb6)
  clear hb6 x1 x2 x3 x4 x5 x6 x7 x8 P5 X6 X7
  obtain ⟨x1, x2⟩ := P6.out.2.1.cell
  obtain ⟨x3, x4⟩ := P6.out.2.2.cell
  go_wp2_with fail
  refine (H6.out _ P6.out.1).mono ?_
  rintro e w7 ⟨rfl, hb7⟩
  have P7 := Lib.hid (P6.out.next hb7)
  clear hb7 x1 x2 x3 x4 P6
  go_wp2_with fail
  refine (H1.out _ P7.out.1).mono ?_
  rintro e w8 ⟨rfl, hb8⟩
  go_wp2_with fail
  go_ret
  exact ⟨rfl, P7.out.1.trans (hb8.mono P7.out.1.size)⟩

end Go.Proofs.YtpmellfgmlgknaaDoor
