/-
  Stamps that came in: their cells.
-/
import Derived.Test.YtdiabcdpnbhibaaBase
import Derived.ProofKit
import Derived.ChangeSame
import Derived.Deep.Strs
import Derived.Lib.SmallJoins
set_option linter.unusedVariables false
namespace Go.Proofs.Ytdiabcdpnbhibaa
open Go.RowKit Go.ChangeShapes Go.WideShapes Go.Deep

theorem trod_stamp {H : Type} {enc : TypeId × Value → H} {W : World} {base fuel : Nat} {sp : Nat → Bool} {hd : Bool} {cs : List Value} {x : DataW H × List MemPlace} (hl : cs.length = 3)
    (h : DataW.trod enc Try.prog W base sp hd fuel 28 cs = some x) : ∃ a b c : Int, cs = [.int .i64 a, .int .i64 b, .int .i64 c] := by
  match cs, hl with
  | [v0, v1, v2], _ =>
    obtain ⟨y0, y1, y2, n, _, _, h0, h1, h2⟩ := trod_struct3 Try.underlying28 h
    have k : Try.prog.cellsOf 3 = 1 := by kernel_rfl
    have g0 : DataW.trod enc Try.prog W base sp hd n 3 (([v0, v1, v2].drop 0).take (Try.prog.cellsOf 3)) = some y0 := h0
    have g1 : DataW.trod enc Try.prog W base sp hd n 3 (([v0, v1, v2].drop 1).take (Try.prog.cellsOf 3)) = some y1 := h1
    have g2 : DataW.trod enc Try.prog W base sp hd n 3 (([v0, v1, v2].drop 2).take (Try.prog.cellsOf 3)) = some y2 := h2
    rw [k] at g0 g1 g2
    obtain ⟨n0, f0, _, _⟩ := DataW.trod_int Try.underlying3 g0
    obtain ⟨n1, f1, _, _⟩ := DataW.trod_int Try.underlying3 g1
    obtain ⟨n2, f2, _, _⟩ := DataW.trod_int Try.underlying3 g2
    simp only [List.drop, List.take] at f0 f1 f2
    simp only [List.cons.injEq, and_true] at f0 f1 f2
    subst f0; subst f1; subst f2
    exact ⟨n0, n1, n2, rfl⟩

set_option maxRecDepth 100000 in
theorem open_stamp {H : Type} {enc : TypeId × Value → H} {W : World} {base b0 : Nat} {r : Reach} {sp : Nat → Bool} {hd : Bool} {v : Value} {d : DataW H} {p : List MemPlace} (hv : Value.okWide Try.prog W r b0 28 v)
    (h : DataW.Trod enc Try.prog W base sp hd 28 v d p) : ∃ a b c : Int, v = (Go.Value.agg #[Go.Value.int Go.IntKind.i64 a, Go.Value.int Go.IntKind.i64 b, Go.Value.int Go.IntKind.i64 c]) := by
  obtain ⟨cs, rfl, hsz⟩ := okWide_struct Try.underlying28 hv
  obtain ⟨c0, c1, c2, rfl⟩ := Joins.array3 (hsz.trans (show Try.prog.cellsOf 28 = 3 by kernel_rfl))
  obtain ⟨fuel, hf⟩ := h
  obtain ⟨a, b, c, e⟩ := trod_stamp rfl (show DataW.trod enc Try.prog W base sp hd fuel 28 [c0, c1, c2] = some (d, p) from hf)
  simp only [List.cons.injEq, and_true] at e
  obtain ⟨rfl, rfl, rfl⟩ := e
  exact ⟨a, b, c, rfl⟩

end Go.Proofs.Ytdiabcdpnbhibaa
