/-
  What the laws of tables ask of package dedup's functions: their contracts' forms.
-/
import Derived.Test.YtdiabcdpnbhibaaDdMore
import Derived.Test.YtdiabcdpnbhibaaDdRefJudge
import Derived.Test.YtdiabcdpnbhibaaDdRefEqual
set_option linter.unusedVariables false
namespace Go.Proofs.Ytdiabcdpnbhibaa
open Go.RowKit

/-- What a client was told, of a right table. -/
def toldT (l : List Dn) (c : Int) : Option Dn := if rightT l then rowT l c else none
def TdRes (l : List Dn) (c : Int) (e : Ending) : Prop := ∃ d : DnV, e = .returned (.tuple #[dnV d, .bool (toldT l c).isSome]) ∧ d.1 = (toldT l c).getD dn0
def FDRight : Prop := ∀ (W : World) (v : Value) (l : List Dn), Tab W v l → Calls Try.prog 11 #[v] W fun e w' => e = .returned (.bool (rightT l)) ∧ Below W.heap.size W w'
def FDJudge : Prop := ∀ (W : World) (v : Value) (l : List Dn) (c r : Int), Tab W v l → (-9223372036854775808 ≤ c ∧ c ≤ 9223372036854775807) → (-9223372036854775808 ≤ r ∧ r ≤ 9223372036854775807) → Calls Try.prog 12 #[v, .int .i64 c, .int .i64 r] W fun e w' => e = .returned (.int .i64 (judT l c r)) ∧ Below W.heap.size W w'
def FDTold : Prop := ∀ (W : World) (v : Value) (l : List Dn) (c : Int), Tab W v l → (-9223372036854775808 ≤ c ∧ c ≤ 9223372036854775807) → Calls Try.prog 14 #[v, .int .i64 c] W fun e w' => TdRes l c e ∧ Below W.heap.size W w'
def FDPut : Prop := ∀ (W : World) (v : Value) (l : List Dn) (c r e x y z : Int) (f : Bool) (vv : ByteArray) (ai : Option Addr) (ni ci : Nat) (nx : ByteArray) (mo : Bool) (m : List Dn) (er : Int), Tab W v l → IsDPut l (c, r, e, (x, y, z), f, vv, ni, nx, mo) m er →
  Calls Try.prog 17 #[v, (Go.Value.agg #[Go.Value.int Go.IntKind.i64 c, Go.Value.int Go.IntKind.i64 r, Go.Value.int Go.IntKind.i64 e, Go.Value.int Go.IntKind.i64 x, Go.Value.int Go.IntKind.i64 y, Go.Value.int Go.IntKind.i64 z, Go.Value.bool f, Go.Value.string vv, Go.Value.slice ai ni ci, Go.Value.string nx, Go.Value.bool mo])] W fun e' w' => ∃ v', e' = .returned (.tuple #[v', .int .i64 er]) ∧ SoEnd W m v' w'
def FDMerge : Prop := ∀ (W : World) (va vb : Value) (a b m : List Dn) (er : Int), Tab W va a → Tab W vb b → IsDMerge a b m er →
  Calls Try.prog 19 #[va, vb] W fun e' w' => ∃ v', e' = .returned (.tuple #[v', .int .i64 er]) ∧ SoEnd W m v' w'
def FDAwake : Prop := ∀ W : World, Calls Try.prog 9 #[] W fun e w' => e = .returned (.bool true) ∧ Below W.heap.size W w'

end Go.Proofs.Ytdiabcdpnbhibaa
