/-
  Clocks that came in: their cells.
-/
import Derived.Test.YtffmannejfmcgaaSmOpen
set_option linter.unusedVariables false
namespace Go.Proofs.Ytffmannejfmcgaa
open Go.RowKit Go.ChangeShapes Go.WideShapes Go.Deep

theorem open_clock {H : Type} {enc : TypeId × Value → H} {W : World} {base b0 : Nat} {r : Reach} {sp : Nat → Bool} {hd : Bool} {v : Value} {d : DataW H} {p : List MemPlace} (hv : Value.okWide Try.prog W r b0 25 v)
    (h : DataW.Trod enc Try.prog W base sp hd 25 v d p) : ∃ a b c : Int, v = (Go.Value.agg #[Go.Value.int Go.IntKind.i64 a, Go.Value.int Go.IntKind.i64 b, Go.Value.int Go.IntKind.i64 c]) := by
  obtain ⟨cs, rfl, hsz⟩ := okWide_struct Try.underlying25 hv
  obtain ⟨c0, c1, c2, rfl⟩ := Joins.array3 (hsz.trans (by kernel_rfl))
  obtain ⟨fuel, hf⟩ := h
  obtain ⟨y0, n, _, _, h0⟩ := trod_struct1 Try.underlying25 hf
  have k : Try.prog.cellsOf 23 = 3 := by kernel_rfl
  have g0 : DataW.trod enc Try.prog W base sp hd n 23 (([c0, c1, c2].drop 0).take (Try.prog.cellsOf 23)) = some y0 := h0
  rw [k] at g0
  obtain ⟨a, b, c, e⟩ := trod_stamp rfl g0
  simp only [List.drop, List.take] at e
  simp only [List.cons.injEq, and_true] at e
  obtain ⟨rfl, rfl, rfl⟩ := e
  exact ⟨a, b, c, rfl⟩

end Go.Proofs.Ytffmannejfmcgaa
