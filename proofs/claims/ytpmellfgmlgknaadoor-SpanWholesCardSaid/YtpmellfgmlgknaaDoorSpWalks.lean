/-
  The laws' walks over package span.
-/
import Derived.Test.YtpmellfgmlgknaaDoorSpCode
import Derived.Test.YtpmellfgmlgknaaDoorSpAwake
import Derived.Test.YtpmellfgmlgknaaDoorSpRightsWalk
import Derived.Test.YtpmellfgmlgknaaDoorSpCutsWalk
import Derived.Test.YtpmellfgmlgknaaDoorSpJoinsWalk
import Derived.Test.YtpmellfgmlgknaaDoorSpMeetsWalk
import Derived.Test.YtpmellfgmlgknaaDoorSpWholesWalk
import Derived.Test.YtpmellfgmlgknaaDoorSpOnceWalk
import Derived.Test.YtpmellfgmlgknaaDoorSpBackWalk
set_option linter.unusedVariables false
namespace Go.Proofs.YtpmellfgmlgknaaDoor
open Go.RowKit

theorem fSAwake : FSAwake := spAwake_any fSCut fSHas
theorem spanRights_walk (w : World) (hT : UtfAt w) (a b : ByteArray) (k : ByteArray) (hk : k.size ≤ 140737488351232) : Calls Tryd.prog 3 #[(Go.Value.agg #[Go.Value.string a, Go.Value.string b]), .string k] w fun e w' => e = .returned (.bool true) ∧ Below w.heap.size w w' := spanRights_core fSAwake fSRight fSHas w hT a b k
theorem spanCuts_walk (w : World) (hT : UtfAt w) (a b : ByteArray) (k : ByteArray) (hk : k.size ≤ 140737488351232) : Calls Tryd.prog 4 #[(Go.Value.agg #[Go.Value.string a, Go.Value.string b]), .string k] w fun e w' => e = .returned (.bool true) ∧ Below w.heap.size w w' := spanCuts_core fSAwake fSCut w hT a b k
theorem spanJoins_walk (w : World) (hT : UtfAt w) (a b c d : ByteArray) : Calls Tryd.prog 5 #[(Go.Value.agg #[Go.Value.string a, Go.Value.string b]), (Go.Value.agg #[Go.Value.string c, Go.Value.string d])] w fun e w' => e = .returned (.bool true) ∧ Below w.heap.size w w' := spanJoins_core fSAwake fSJoin fSMeet w hT a b c d
theorem spanWholes_walk (w : World) (hT : UtfAt w) (v : Value) (l : List Spn) (hv : Spans w v l) : Calls Tryd.prog 6 #[v] w fun e w' => e = .returned (.bool true) ∧ Below w.heap.size w w' := spanWholes_core fSAwake fSWhole w hT v l hv
theorem spanOnce_walk (w : World) (hT : UtfAt w) (v : Value) (l : List Spn) (hv : Spans w v l) (k : ByteArray) (hk : k.size ≤ 140737488351232) : Calls Tryd.prog 7 #[v, .string k] w fun e w' => e = .returned (.bool true) ∧ Below w.heap.size w w' := spanOnce_core fSAwake fSHas fSWhole w hT v l hv k
theorem spanBack_walk (w : World) (hT : UtfAt w) (a b : ByteArray) (k : ByteArray) (hk : k.size ≤ 140737488351232) (c : ByteArray) (hc : c.size ≤ 140737488351232) : Calls Tryd.prog 8 #[(Go.Value.agg #[Go.Value.string a, Go.Value.string b]), .string k, .string c] w fun e w' => e = .returned (.bool true) ∧ Below w.heap.size w w' := spanBack_core fSAwake fSCut fSJoin fSHas fSMeet w hT a b k c
theorem spanMeets_walk (w : World) (hT : UtfAt w) (a b c d : ByteArray) (k : ByteArray) (hk : k.size ≤ 140737488351232) : Calls Tryd.prog 9 #[(Go.Value.agg #[Go.Value.string a, Go.Value.string b]), (Go.Value.agg #[Go.Value.string c, Go.Value.string d]), .string k] w fun e w' => e = .returned (.bool true) ∧ Below w.heap.size w w' := spanMeets_core fSAwake fSRight fSHas fSMeet w hT a b c d k

end Go.Proofs.YtpmellfgmlgknaaDoor
