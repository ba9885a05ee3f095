/-
  Stamps that lie in memory: blocks of three numbers, what reading and writing them does, and results that lie so.
-/
import Derived.Test.YtdiabcdpnbhibaaSmPlain
import Derived.Laws.Rows
import Derived.Laws.Tables
import Derived.Laws.CopyOwn
set_option linter.unusedVariables false
namespace Go.Proofs.Ytdiabcdpnbhibaa
open Go.RowKit

/-- The block h holds a stamp. -/
def Box (w : World) (h : Nat) (a b c : Int) : Prop := w.heap[h]? = some (.cells #[.int .i64 a, .int .i64 b, .int .i64 c] 28 (0, 0))
theorem Box.lt {w : World} {h : Nat} {a b c : Int} (H : Box w h a b c) : h < w.heap.size := by
  rcases Nat.lt_or_ge h w.heap.size with h1 | h1
  · exact h1
  · unfold Box at H; rw [Array.getElem?_eq_none h1] at H; cases H
theorem size_alloc (w : World) (o : Obj) : (w.alloc o).heap.size = w.heap.size + 1 := by simp
theorem Box.new (w : World) (a b c : Int) : Box (w.alloc (.cells #[.int .i64 a, .int .i64 b, .int .i64 c] 28)) w.heap.size a b c := by
  show (w.heap.push _)[w.heap.size]? = _
  simp
theorem Box.next {w w' : World} {B h : Nat} {a b c : Int} (H : Box w h a b c) (hb : Below B w w') (hB : h < B) : Box w' h a b c := (hb.block h hB).trans H
theorem Box.over {w w' : World} {h : Nat} {a b c : Int} (H : Box w h a b c) (hb : Below w.heap.size w w') : Box w' h a b c := H.next hb H.lt
theorem Box.alloc {w : World} {h : Nat} {a b c : Int} (H : Box w h a b c) (o : Obj) : Box (w.alloc o) h a b c := H.next ((Below.refl w.heap.size w).alloc (Nat.le_refl _) o) H.lt
theorem Box.drew {w : World} {h : Nat} {a b c : Int} (H : Box w h a b c) : Box w.drew h a b c := H
theorem Box.set {w : World} {h : Nat} {a b c : Int} (H : Box w h a b c) (x y z : Int) : Box (w.setRow h #[.int .i64 x, .int .i64 y, .int .i64 z]) h x y z := setRow_heap w h _ _ _ _ H
theorem Box.other {w : World} {h g : Nat} {a b c : Int} (H : Box w h a b c) (cs : Array Value) (hne : h ≠ g) : Box (w.setRow g cs) h a b c := (setRow_other w g h cs hne).trans H
theorem Box.cell {w : World} {h : Nat} {a b c : Int} (H : Box w h a b c) : w.cell? ⟨h, 0, none⟩ = some (.int .i64 a) ∧ w.cell? ⟨h, 1, none⟩ = some (.int .i64 b) ∧ w.cell? ⟨h, 2, none⟩ = some (.int .i64 c) := by
  unfold Box at H
  refine ⟨?_, ?_, ?_⟩ <;> simp [World.cell?, H]
theorem box_load {ops : Array Oper} {rest : List Oper} {o : Oper} {a : Act} {w : World} {Q : Exit → Act → World → Prop} {x y z : Int} (g : Nat) (H : Box w g x y z) (hgd : o.guard = none) (p : Operand) (ho : o.op = .load 28 p) (hx : a.eval p = .pointer (some ⟨g, 0, none⟩))
    (h : wpList Try.prog ops Q rest (a.put o.dst (Go.Value.agg #[Go.Value.int Go.IntKind.i64 x, Go.Value.int Go.IntKind.i64 y, Go.Value.int Go.IntKind.i64 z])) w) : wpList Try.prog ops Q (o :: rest) a w :=
  wpList_load_row hgd 28 p ho g hx 28 _ (0, 0) _ H Try.underlying28 rfl (by kernel_rfl) h
theorem box_store {ops : Array Oper} {rest : List Oper} {o : Oper} {a : Act} {w : World} {Q : Exit → Act → World → Prop} {x y z x' y' z' : Int} (g : Nat) (H : Box w g x y z) (hgd : o.guard = none) (p q : Operand) (ho : o.op = .store 28 p q) (hx : a.eval p = .pointer (some ⟨g, 0, none⟩)) (hy : a.eval q = (Go.Value.agg #[Go.Value.int Go.IntKind.i64 x', Go.Value.int Go.IntKind.i64 y', Go.Value.int Go.IntKind.i64 z']))
    (h : wpList Try.prog ops Q rest (a.put o.dst undef) (w.setRow g #[.int .i64 x', .int .i64 y', .int .i64 z'])) : wpList Try.prog ops Q (o :: rest) a w :=
  wpList_store_row hgd 28 p q ho g _ hx hy 28 _ H (by kernel_rfl) rfl (by simp [Value.oneCell']) h
theorem box_result {fn : Func} {p : Tmp} {x y z : Int} (hr : fn.results = #[.cell p 28]) (tmps : Array Value) (w : World) (g : Nat) (hp : tmps.getD p undef = .pointer (some ⟨g, 0, none⟩)) (H : Box w g x y z) :
    (results fn tmps).run Try.prog w = .ok (Go.Value.agg #[Go.Value.int Go.IntKind.i64 x, Go.Value.int Go.IntKind.i64 y, Go.Value.int Go.IntKind.i64 z]) w :=
  results_cell_row hr tmps w g 28 _ (0, 0) _ hp H Try.underlying28 rfl (by kernel_rfl)
theorem box_result2 {fn : Func} {p q : Tmp} {x y z : Int} (hr : fn.results = #[.cell p 28, .tmp q]) (tmps : Array Value) (w : World) (g : Nat) (hp : tmps.getD p undef = .pointer (some ⟨g, 0, none⟩)) (H : Box w g x y z) :
    (results fn tmps).run Try.prog w = .ok (.tuple #[(Go.Value.agg #[Go.Value.int Go.IntKind.i64 x, Go.Value.int Go.IntKind.i64 y, Go.Value.int Go.IntKind.i64 z]), tmps.getD q undef]) w := by
  have hp' : tmps[p]?.getD undef = .pointer (some ⟨g, 0, none⟩) := by simpa using hp
  simp [results, hr, hp', asAddr, run_loadVar_row w g 28 28 _ (0, 0) _ H Try.underlying28 rfl (by kernel_rfl)]
theorem box_result3 {fn : Func} {p q r : Tmp} {x y z : Int} (hr : fn.results = #[.cell p 28, .tmp q, .tmp r]) (tmps : Array Value) (w : World) (g : Nat) (hp : tmps.getD p undef = .pointer (some ⟨g, 0, none⟩)) (H : Box w g x y z) :
    (results fn tmps).run Try.prog w = .ok (.tuple #[(Go.Value.agg #[Go.Value.int Go.IntKind.i64 x, Go.Value.int Go.IntKind.i64 y, Go.Value.int Go.IntKind.i64 z]), tmps.getD q undef, tmps.getD r undef]) w := by
  have hp' : tmps[p]?.getD undef = .pointer (some ⟨g, 0, none⟩) := by simpa using hp
  simp [results, hr, hp', asAddr, run_loadVar_row w g 28 28 _ (0, 0) _ H Try.underlying28 rfl (by kernel_rfl)]
/-- The block that a function on a stamp lays first. -/
def W1 (w : World) (a b c : Int) : World := w.alloc (.cells #[.int .i64 a, .int .i64 b, .int .i64 c] 28)
theorem W1_next {w w1 : World} {a b c : Int} (hb : Below (W1 w a b c).heap.size (W1 w a b c) w1) : Box w1 w.heap.size a b c ∧ Below w.heap.size w w1 :=
  ⟨(Box.new w a b c).over hb, ((Below.refl w.heap.size w).alloc (Nat.le_refl _) _).trans (hb.mono (by simp [W1]))⟩

end Go.Proofs.Ytdiabcdpnbhibaa
