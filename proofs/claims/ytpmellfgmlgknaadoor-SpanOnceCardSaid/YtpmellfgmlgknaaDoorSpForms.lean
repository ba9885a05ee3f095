/-
  What the laws of spans ask of package span's functions: their contracts' forms; the statements' awake.
-/
import Derived.Test.YtpmellfgmlgknaaDoorSpRefWhole
import Derived.Test.YtpmellfgmlgknaaDoorSmCalm
import Derived.Test.YtpmellfgmlgknaaDoorKyCompare
set_option linter.unusedVariables false
namespace Go.Proofs.YtpmellfgmlgknaaDoor
open Go.RowKit

def FSRight : Prop := ∀ (W : World) (a b : ByteArray), UtfAt W → Calls Tryd.prog 10 #[(Go.Value.agg #[Go.Value.string a, Go.Value.string b])] W fun e w' => e = .returned (.bool (spR (a, b))) ∧ Below W.heap.size W w'
def FSHas : Prop := ∀ (W : World) (a b k : ByteArray), UtfAt W → Calls Tryd.prog 12 #[(Go.Value.agg #[Go.Value.string a, Go.Value.string b]), .string k] W fun e w' => e = .returned (.bool (spHas (a, b) k)) ∧ Below W.heap.size W w'
def FSCut : Prop := ∀ (W : World) (a b k : ByteArray), UtfAt W → Calls Tryd.prog 15 #[(Go.Value.agg #[Go.Value.string a, Go.Value.string b]), .string k] W fun e w' => e = .returned (.tuple #[(Go.Value.agg #[Go.Value.string ((cutA (a, b) k).1), Go.Value.string ((cutA (a, b) k).2)]), (Go.Value.agg #[Go.Value.string ((cutB (a, b) k).1), Go.Value.string ((cutB (a, b) k).2)]), .int .i64 (cutE (a, b) k)]) ∧ Below W.heap.size W w'
def FSJoin : Prop := ∀ (W : World) (a b c d : ByteArray), UtfAt W → Calls Tryd.prog 17 #[(Go.Value.agg #[Go.Value.string a, Go.Value.string b]), (Go.Value.agg #[Go.Value.string c, Go.Value.string d])] W fun e w' => e = .returned (.tuple #[(Go.Value.agg #[Go.Value.string ((joinS (a, b) (c, d)).1), Go.Value.string ((joinS (a, b) (c, d)).2)]), .int .i64 (joinE (a, b) (c, d))]) ∧ Below W.heap.size W w'
def FSMeet : Prop := ∀ (W : World) (a b c d : ByteArray), UtfAt W → Calls Tryd.prog 20 #[(Go.Value.agg #[Go.Value.string a, Go.Value.string b]), (Go.Value.agg #[Go.Value.string c, Go.Value.string d])] W fun e w' => e = .returned (.bool (meetB (a, b) (c, d))) ∧ Below W.heap.size W w'
def FSWhole : Prop := ∀ (W : World) (v : Value) (l : List Spn), UtfAt W → Spans W v l → Calls Tryd.prog 21 #[v] W fun e w' => e = .returned (.bool (wholeB l)) ∧ Below W.heap.size W w'
def FSAwake : Prop := ∀ W : World, UtfAt W → Calls Tryd.prog 14 #[] W fun e w' => e = .returned (.bool true) ∧ Below W.heap.size W w'

/-- One span's block. -/
def PW (w : World) (a b : ByteArray) (W : World) : Prop := Below w.heap.size w W ∧ PBox W w.heap.size a b
theorem PW.next {w w1 w2 : World} {a b : ByteArray} (H : PW w a b w1) (hb : Below w1.heap.size w1 w2) : PW w a b w2 := ⟨H.1.trans (hb.mono H.1.size), H.2.over hb⟩
theorem PW.new (w : World) (a b : ByteArray) : PW w a b (w.alloc (.cells #[.string a, .string b] 23)) := ⟨(Below.refl w.heap.size w).alloc (Nat.le_refl _) _, PBox.new w a b⟩
theorem PW.drew {w W : World} {a b : ByteArray} (H : PW w a b W) : PW w a b W.drew := H.next ((Below.refl _ _).drew)
theorem two_new (w : World) (a b c d : ByteArray) : PBox (((w.alloc (.cells #[.string a, .string b] 23))).alloc (.cells #[.string c, .string d] 23)) w.heap.size a b ∧ PBox (((w.alloc (.cells #[.string a, .string b] 23))).alloc (.cells #[.string c, .string d] 23)) (w.heap.size + 1) c d ∧ Below w.heap.size w (((w.alloc (.cells #[.string a, .string b] 23))).alloc (.cells #[.string c, .string d] 23)) :=
  ⟨(K2s.new w a b c d).2.1, (K2s.new w a b c d).2.2, (K2s.new w a b c d).1⟩
theorem one_new (w : World) (a b : ByteArray) : PBox (w.alloc (.cells #[.string a, .string b] 23)) w.heap.size a b ∧ Below w.heap.size w (w.alloc (.cells #[.string a, .string b] 23)) := ⟨PBox.new w a b, (PW.new w a b).1⟩

end Go.Proofs.YtpmellfgmlgknaaDoor
