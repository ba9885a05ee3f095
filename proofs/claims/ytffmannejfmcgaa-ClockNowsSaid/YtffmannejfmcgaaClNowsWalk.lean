/-
  The walk of ClockNows.
-/
import Derived.Test.YtffmannejfmcgaaClAwake
import Derived.Test.YtffmannejfmcgaaClRef
set_option linter.unusedVariables false
namespace Go.Proofs.Ytffmannejfmcgaa
open Go.RowKit

set_option maxRecDepth 100000 in
set_option maxHeartbeats 400000 in
theorem clockNows_walk (w : World) (a b c n : Int) (hn : -9223372036854775808 ≤ n ∧ n ≤ 9223372036854775807) : Calls Try.prog 3 #[(Go.Value.agg #[Go.Value.int Go.IntKind.i64 a, Go.Value.int Go.IntKind.i64 b, Go.Value.int Go.IntKind.i64 c]), .int .i64 n] w fun e w' => e = .returned (.bool true) ∧ Below w.heap.size w w' := by
  have HAW : Hid (∀ W, Calls Try.prog 12 #[] W fun e w' => e = .returned (.bool true) ∧ Below W.heap.size W w') := fun W => awake_any W
  obtain ⟨x, y, z, e, h⟩ : ∃ x y z e, nowV a b c n = (x, y, z, e) := ⟨_, _, _, _, rfl⟩
  have HN : Hid (∀ W, Calls Try.prog 10 #[(Go.Value.agg #[Go.Value.int Go.IntKind.i64 a, Go.Value.int Go.IntKind.i64 b, Go.Value.int Go.IntKind.i64 c]), .int .i64 n] W fun e' w' => e' = .returned (.tuple #[(Go.Value.agg #[Go.Value.int Go.IntKind.i64 x, Go.Value.int Go.IntKind.i64 y, Go.Value.int Go.IntKind.i64 z]), (Go.Value.agg #[Go.Value.int Go.IntKind.i64 x, Go.Value.int Go.IntKind.i64 y, Go.Value.int Go.IntKind.i64 z]), .int .i64 e]) ∧ Below W.heap.size W w') := fun W => Now_any a b c n x y z e W h
  have HR : Hid (∀ W, Calls Try.prog 11 #[(Go.Value.agg #[Go.Value.int Go.IntKind.i64 a, Go.Value.int Go.IntKind.i64 b, Go.Value.int Go.IntKind.i64 c]), .int .i64 n] W fun e' w' => e' = .returned (.tuple #[(Go.Value.agg #[Go.Value.int Go.IntKind.i64 x, Go.Value.int Go.IntKind.i64 y, Go.Value.int Go.IntKind.i64 z]), .int .i64 e]) ∧ Below W.heap.size W w') := fun W => refNow_any a b c n x y z e W h
  clear hn h
  go_enter Try.func3, Try.ntmps3
  go_wp2_with fail
  refine (HN.out _).mono ?_
  rintro e w1 ⟨rfl, hb1⟩
  have H1 : Hid (Below w.heap.size w w1 ∧ CBox w1 w.heap.size a b c) := ⟨((Below.refl _ _).alloc (Nat.le_refl _) _).trans (hb1.mono (by simp)), (CBox.new w a b c).over hb1⟩
  clear hb1
  go_upto_region 2 with (fail)
  have H2 : Hid (Below w.heap.size w ((w1.alloc (.cells #[.int .i64 x, .int .i64 y, .int .i64 z] 25)).alloc (.cells #[.int .i64 x, .int .i64 y, .int .i64 z] 23)) ∧ CBox ((w1.alloc (.cells #[.int .i64 x, .int .i64 y, .int .i64 z] 25)).alloc (.cells #[.int .i64 x, .int .i64 y, .int .i64 z] 23)) w.heap.size a b c ∧ CBox ((w1.alloc (.cells #[.int .i64 x, .int .i64 y, .int .i64 z] 25)).alloc (.cells #[.int .i64 x, .int .i64 y, .int .i64 z] 23)) w1.heap.size x y z ∧ Box ((w1.alloc (.cells #[.int .i64 x, .int .i64 y, .int .i64 z] 25)).alloc (.cells #[.int .i64 x, .int .i64 y, .int .i64 z] 23)) (w1.heap.size + 1) x y z) := by
    obtain ⟨h1, h2⟩ := H1.out
    have h3 := Box.new (w1.alloc (.cells #[.int .i64 x, .int .i64 y, .int .i64 z] 25)) x y z
    simp only [size_alloc] at h3
    exact ⟨(h1.alloc h1.size _).alloc (by have := h1.size; rw [size_alloc]; omega) _, (h2.alloc _).alloc _, (CBox.new w1 x y z).alloc _, h3⟩
  generalize (w1.alloc (.cells #[.int .i64 x, .int .i64 y, .int .i64 z] 25)).alloc (.cells #[.int .i64 x, .int .i64 y, .int .i64 z] 23) = w2 at H2 ⊢
  generalize w1.heap.size = g5 at H2 ⊢
  clear H1
  go_wp2_with (first | (refine cbox_part w.heap.size H2.out.2.1 rfl _ rfl rfl ?_))
  refine (HR.out _).mono ?_
  rintro e w3 ⟨rfl, hb3⟩
  have H3 : Hid (Below w.heap.size w w3 ∧ CBox w3 g5 x y z ∧ Box w3 (g5 + 1) x y z) := ⟨H2.out.1.trans (hb3.mono H2.out.1.size), H2.out.2.2.1.over hb3, H2.out.2.2.2.over hb3⟩
  clear hb3 H2
  go_upto_region 3 with (fail)
  have H4 : Hid (Below w.heap.size w (w3.alloc (.cells #[.int .i64 x, .int .i64 y, .int .i64 z] 23)) ∧ CBox (w3.alloc (.cells #[.int .i64 x, .int .i64 y, .int .i64 z] 23)) g5 x y z ∧ Box (w3.alloc (.cells #[.int .i64 x, .int .i64 y, .int .i64 z] 23)) (g5 + 1) x y z ∧ Box (w3.alloc (.cells #[.int .i64 x, .int .i64 y, .int .i64 z] 23)) w3.heap.size x y z) :=
    ⟨H3.out.1.alloc H3.out.1.size _, H3.out.2.1.alloc _, H3.out.2.2.alloc _, Box.new w3 x y z⟩
  generalize (w3.alloc (.cells #[.int .i64 x, .int .i64 y, .int .i64 z] 23)) = w4 at H4 ⊢
  generalize w3.heap.size = g8 at H4 ⊢
  clear H3
  obtain ⟨x0, x1, x2⟩ := H4.out.2.1.cell
  obtain ⟨y0, y1, y2⟩ := H4.out.2.2.1.cell
  obtain ⟨z0, z1, z2⟩ := H4.out.2.2.2.cell
  go_wp2_with fail
  refine (HAW.out _).mono ?_
  rintro e w5 ⟨rfl, hb5⟩
  go_wp2_with fail
  go_ret
  exact ⟨rfl, H4.out.1.trans (hb5.mono H4.out.1.size)⟩

end Go.Proofs.Ytffmannejfmcgaa
