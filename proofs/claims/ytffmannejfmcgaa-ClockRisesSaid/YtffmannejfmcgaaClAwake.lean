/-
  The contract of the statements' awake.
-/
import Derived.Test.YtffmannejfmcgaaClNew
import Derived.Test.YtffmannejfmcgaaClNow
import Derived.Test.YtffmannejfmcgaaSmEq
import Derived.Deep.DeepCutAuto
set_option linter.unusedVariables false
namespace Go.Proofs.Ytffmannejfmcgaa
open Go.RowKit

set_option maxRecDepth 100000 in
set_option maxHeartbeats 400000 in
theorem awake_any (w : World) : Calls Try.prog 12 #[] w fun e w' => e = .returned (.bool true) ∧ Below w.heap.size w w' := by
  have HN : Hid (∀ W, Calls Try.prog 18 #[.int .i64 2] W fun e w' => e = .returned (.tuple #[(Go.Value.agg #[Go.Value.int Go.IntKind.i64 0, Go.Value.int Go.IntKind.i64 0, Go.Value.int Go.IntKind.i64 2]), .int .i64 0]) ∧ Below W.heap.size W w') := fun W => New_ok 2 W (by decide)
  have HW : Hid (∀ W, Calls Try.prog 10 #[(Go.Value.agg #[Go.Value.int Go.IntKind.i64 0, Go.Value.int Go.IntKind.i64 0, Go.Value.int Go.IntKind.i64 2]), .int .i64 5] W fun e w' => e = .returned (.tuple #[(Go.Value.agg #[Go.Value.int Go.IntKind.i64 5, Go.Value.int Go.IntKind.i64 0, Go.Value.int Go.IntKind.i64 2]), (Go.Value.agg #[Go.Value.int Go.IntKind.i64 5, Go.Value.int Go.IntKind.i64 0, Go.Value.int Go.IntKind.i64 2]), .int .i64 0]) ∧ Below W.heap.size W w') := fun W => Now_any 0 0 2 5 5 0 2 0 W (by decide)
  go_enter Try.func12, Try.ntmps12
  go_wp2_with fail
  refine (HN.out _).mono ?_
  rintro e w1 ⟨rfl, hb1⟩
  go_wp2_with fail
  refine (HW.out _).mono ?_
  rintro e w2 ⟨rfl, hb2⟩
  have HC : Hid (CBox w2 w1.heap.size 0 0 2) := (CBox.new w1 0 0 2).over hb2
  have HB : Hid (Below w.heap.size w w2 ∧ w.heap.size ≤ w1.heap.size ∧ w1.heap.size < w2.heap.size) := by
    have h1 := hb1.size
    have h2 := hb2.size
    simp only [size_alloc] at h2
    exact ⟨(hb1.alloc h1 _).trans (hb2.mono (by simp only [size_alloc]; omega)), h1, by omega⟩
  clear hb1 hb2
  go_upto_region 3 with (first | (refine cbox_store w1.heap.size (HC.out.alloc _) rfl _ _ rfl rfl rfl ?_) | (refine box_store w2.heap.size ((Box.new w2 0 0 0).other _ (by have := HB.out.2.2; omega)) rfl _ _ rfl rfl rfl ?_))
  have H4 : Hid (Below w.heap.size w (((w2.alloc (.cells #[.int .i64 0, .int .i64 0, .int .i64 0] 23)).setRow w1.heap.size #[.int .i64 5, .int .i64 0, .int .i64 2]).setRow w2.heap.size #[.int .i64 5, .int .i64 0, .int .i64 2]) ∧ CBox (((w2.alloc (.cells #[.int .i64 0, .int .i64 0, .int .i64 0] 23)).setRow w1.heap.size #[.int .i64 5, .int .i64 0, .int .i64 2]).setRow w2.heap.size #[.int .i64 5, .int .i64 0, .int .i64 2]) w1.heap.size 5 0 2 ∧ Box (((w2.alloc (.cells #[.int .i64 0, .int .i64 0, .int .i64 0] 23)).setRow w1.heap.size #[.int .i64 5, .int .i64 0, .int .i64 2]).setRow w2.heap.size #[.int .i64 5, .int .i64 0, .int .i64 2]) w2.heap.size 5 0 2) := by
    obtain ⟨h1, h2, h3⟩ := HB.out
    exact ⟨below_setRow (below_setRow (h1.alloc (by omega) _) h2 _) (by omega) _, ((HC.out.alloc _).set 5 0 2).other _ (by omega), ((Box.new w2 0 0 0).other _ (by omega)).set 5 0 2⟩
  generalize ((w2.alloc (.cells #[.int .i64 0, .int .i64 0, .int .i64 0] 23)).setRow w1.heap.size #[.int .i64 5, .int .i64 0, .int .i64 2]).setRow w2.heap.size #[.int .i64 5, .int .i64 0, .int .i64 2] = w4 at H4 ⊢
  obtain ⟨x0, x1, x2⟩ := H4.out.2.1.cell
  obtain ⟨y0, y1, y2⟩ := H4.out.2.2.cell
  go_wp2_with fail
  go_ret
  exact ⟨rfl, H4.out.1⟩

end Go.Proofs.Ytffmannejfmcgaa
