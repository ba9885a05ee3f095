/-
  The laws' walks over package dedup.
-/
import Derived.Test.YtdiabcdpnbhibaaDdCdTold
import Derived.Test.YtdiabcdpnbhibaaDdCdMerge
import Derived.Test.YtdiabcdpnbhibaaDdAwake
import Derived.Test.YtdiabcdpnbhibaaDdPutsWalk
import Derived.Test.YtdiabcdpnbhibaaDdJudgesWalk
import Derived.Test.YtdiabcdpnbhibaaDdMergesWalk
import Derived.Test.YtdiabcdpnbhibaaDdNeverWalk
set_option linter.unusedVariables false
namespace Go.Proofs.Ytdiabcdpnbhibaa
open Go.RowKit

theorem fDAwake : FDAwake := dawake_any fDPut fDJudge
theorem dedupJudges_walk (w : World) (v : Value) (t : List Dn) (hv : Tab w v t) (c : Int) (hc : -9223372036854775808 ≤ c ∧ c ≤ 9223372036854775807) (r : Int) (hr : -9223372036854775808 ≤ r ∧ r ≤ 9223372036854775807) : Calls Try.prog 3 #[v, .int .i64 c, .int .i64 r] w fun e w' => e = .returned (.bool true) ∧ Below w.heap.size w w' := dedupJudges_core fDAwake fDRight fDJudge fDTold w v t hv c r hc hr
theorem dedupPuts_walk (w : World) (v : Value) (t : List Dn) (hv : Tab w v t) (c r e x y z : Int) (f : Bool) (vv : ByteArray) (ai : Option Addr) (ni ci : Nat) (nx : ByteArray) (mo : Bool) : Calls Try.prog 4 #[v, (Go.Value.agg #[Go.Value.int Go.IntKind.i64 c, Go.Value.int Go.IntKind.i64 r, Go.Value.int Go.IntKind.i64 e, Go.Value.int Go.IntKind.i64 x, Go.Value.int Go.IntKind.i64 y, Go.Value.int Go.IntKind.i64 z, Go.Value.bool f, Go.Value.string vv, Go.Value.slice ai ni ci, Go.Value.string nx, Go.Value.bool mo])] w fun e' w' => e' = .returned (.bool true) ∧ Below w.heap.size w w' := dedupPuts_core fDAwake fDPut w v t hv c r e x y z f vv ai ni ci nx mo
theorem dedupMerges_walk (w : World) (va : Value) (a : List Dn) (hva : Tab w va a) (vb : Value) (b : List Dn) (hvb : Tab w vb b) : Calls Try.prog 5 #[va, vb] w fun e w' => e = .returned (.bool true) ∧ Below w.heap.size w w' := dedupMerges_core fDAwake fDMerge w va a hva vb b hvb
theorem dedupNever_walk (w : World) (v : Value) (t : List Dn) (hv : Tab w v t) (c r e x y z : Int) (f : Bool) (vv : ByteArray) (ai : Option Addr) (ni ci : Nat) (nx : ByteArray) (mo : Bool) (lv : Value) (l : List Dn) (hlv : Tab w lv l) (ov : Value) (o : List Dn) (hov : Tab w ov o) : Calls Try.prog 6 #[v, (Go.Value.agg #[Go.Value.int Go.IntKind.i64 c, Go.Value.int Go.IntKind.i64 r, Go.Value.int Go.IntKind.i64 e, Go.Value.int Go.IntKind.i64 x, Go.Value.int Go.IntKind.i64 y, Go.Value.int Go.IntKind.i64 z, Go.Value.bool f, Go.Value.string vv, Go.Value.slice ai ni ci, Go.Value.string nx, Go.Value.bool mo]), lv, ov] w fun e' w' => e' = .returned (.bool true) ∧ Below w.heap.size w w' := dedupNever_core fDAwake fDRight fDJudge fDPut fDMerge w v t hv c r e x y z f vv ai ni ci nx mo lv l hlv ov o hov
theorem dedupSelf_walk (w : World) (v : Value) (t : List Dn) (hv : Tab w v t) : Calls Try.prog 7 #[v] w fun e w' => e = .returned (.bool true) ∧ Below w.heap.size w w' := dedupSelf_core fDAwake fDRight fDMerge w v t hv

end Go.Proofs.Ytdiabcdpnbhibaa
