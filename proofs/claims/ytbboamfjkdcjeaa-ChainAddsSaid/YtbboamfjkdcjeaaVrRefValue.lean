/-
  The contract of the document's Value of a chain.
-/
import Derived.Test.YtbboamfjkdcjeaaVrRefAt
set_option linter.unusedVariables false
namespace Go.Proofs.Ytbboamfjkdcjeaa
open Go.RowKit

set_option maxRecDepth 100000 in
set_option maxHeartbeats 400000 in
theorem refValue_core (w : World) (v : Value) (x y z a b c : Int) (g ok : Bool) (s : ByteArray)
    (HA : Hid (∀ W, Below w.heap.size w W → Calls Try.prog 17 #[v, (Go.Value.agg #[Go.Value.int Go.IntKind.i64 x, Go.Value.int Go.IntKind.i64 y, Go.Value.int Go.IntKind.i64 z])] W fun e w' => e = .returned (.tuple #[(Go.Value.agg #[Go.Value.int Go.IntKind.i64 a, Go.Value.int Go.IntKind.i64 b, Go.Value.int Go.IntKind.i64 c, Go.Value.bool g, Go.Value.string s]), .bool ok]) ∧ Below W.heap.size W w')) :
    Calls Try.prog 19 #[v, (Go.Value.agg #[Go.Value.int Go.IntKind.i64 x, Go.Value.int Go.IntKind.i64 y, Go.Value.int Go.IntKind.i64 z])] w fun e w' => e = .returned (.tuple #[.string (valV (a, b, c, g, s) ok), .bool (hasV (a, b, c, g, s) ok)]) ∧ Below w.heap.size w w' := by
  have HB : Below w.heap.size w (w.alloc (.cells #[.int .i64 x, .int .i64 y, .int .i64 z] 24)) := (Below.refl _ _).alloc (Nat.le_refl _) _
  cases ok <;> cases g
  all_goals
    go_enter Try.func19, Try.ntmps19
    go_wp2_with fail
    refine (HA.out _ HB).mono ?_
    rintro e w1 ⟨rfl, hb1⟩
    have hb := HB.trans (hb1.mono HB.size)
    go_wp2_with fail
    go_ret2
    exact ⟨rfl, hb.alloc hb.size _⟩

theorem refValue_any {w : World} {v : Value} {l : List Ver} {x y z : Int} {u : Ver} {ok : Bool} (h : Vers w v l) (ha : IsAt l x y z u ok) :
    Calls Try.prog 19 #[v, (Go.Value.agg #[Go.Value.int Go.IntKind.i64 x, Go.Value.int Go.IntKind.i64 y, Go.Value.int Go.IntKind.i64 z])] w fun e w' => e = .returned (.tuple #[.string (valV u ok), .bool (hasV u ok)]) ∧ Below w.heap.size w w' := by
  obtain ⟨a, b, c, g, s⟩ := u
  obtain ⟨ao, cap, rfl, h1, h2, h3⟩ := h
  refine refValue_core w _ x y z a b c g ok s fun W hW => refAt_any ⟨ao, cap, rfl, h1, h2, fun hp => ?_⟩ ha
  obtain ⟨b, off, e1, h4, h5⟩ := h3 hp
  exact ⟨b, off, e1, Nat.lt_of_lt_of_le h4 hW.size, fun i hi => (h5 i hi).next hW h4⟩

end Go.Proofs.Ytbboamfjkdcjeaa
