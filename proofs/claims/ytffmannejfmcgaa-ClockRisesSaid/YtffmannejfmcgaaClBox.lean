/-
  Clocks that lie in memory: blocks of one stamp, what reading and writing them (whole, or their stamp) does, and results that lie so.
-/
import Derived.Test.YtffmannejfmcgaaSmBox
set_option linter.unusedVariables false
namespace Go.Proofs.Ytffmannejfmcgaa
open Go.RowKit

/-- The block h holds a clock. -/
def CBox (w : World) (h : Nat) (a b c : Int) : Prop := w.heap[h]? = some (.cells #[.int .i64 a, .int .i64 b, .int .i64 c] 25 (0, 0))
theorem CBox.lt {w : World} {h : Nat} {a b c : Int} (H : CBox w h a b c) : h < w.heap.size := by
  rcases Nat.lt_or_ge h w.heap.size with h1 | h1
  · exact h1
  · unfold CBox at H; rw [Array.getElem?_eq_none h1] at H; cases H
theorem CBox.new (w : World) (a b c : Int) : CBox (w.alloc (.cells #[.int .i64 a, .int .i64 b, .int .i64 c] 25)) w.heap.size a b c := by
  show (w.heap.push _)[w.heap.size]? = _
  simp
theorem CBox.next {w w' : World} {B h : Nat} {a b c : Int} (H : CBox w h a b c) (hb : Below B w w') (hB : h < B) : CBox w' h a b c := (hb.block h hB).trans H
theorem CBox.over {w w' : World} {h : Nat} {a b c : Int} (H : CBox w h a b c) (hb : Below w.heap.size w w') : CBox w' h a b c := H.next hb H.lt
theorem CBox.alloc {w : World} {h : Nat} {a b c : Int} (H : CBox w h a b c) (o : Obj) : CBox (w.alloc o) h a b c := H.next ((Below.refl w.heap.size w).alloc (Nat.le_refl _) o) H.lt
theorem CBox.drew {w : World} {h : Nat} {a b c : Int} (H : CBox w h a b c) : CBox w.drew h a b c := H
theorem CBox.set {w : World} {h : Nat} {a b c : Int} (H : CBox w h a b c) (x y z : Int) : CBox (w.setRow h #[.int .i64 x, .int .i64 y, .int .i64 z]) h x y z := setRow_heap w h _ _ _ _ H
theorem CBox.other {w : World} {h g : Nat} {a b c : Int} (H : CBox w h a b c) (cs : Array Value) (hne : h ≠ g) : CBox (w.setRow g cs) h a b c := (setRow_other w g h cs hne).trans H
theorem CBox.cell {w : World} {h : Nat} {a b c : Int} (H : CBox w h a b c) : w.cell? ⟨h, 0, none⟩ = some (.int .i64 a) ∧ w.cell? ⟨h, 1, none⟩ = some (.int .i64 b) ∧ w.cell? ⟨h, 2, none⟩ = some (.int .i64 c) := by
  unfold CBox at H
  refine ⟨?_, ?_, ?_⟩ <;> simp [World.cell?, H]
theorem cbox_load {ops : Array Oper} {rest : List Oper} {o : Oper} {a : Act} {w : World} {Q : Exit → Act → World → Prop} {x y z : Int} (g : Nat) (H : CBox w g x y z) (hgd : o.guard = none) (p : Operand) (ho : o.op = .load 25 p) (hx : a.eval p = .pointer (some ⟨g, 0, none⟩))
    (h : wpList Try.prog ops Q rest (a.put o.dst (Go.Value.agg #[Go.Value.int Go.IntKind.i64 x, Go.Value.int Go.IntKind.i64 y, Go.Value.int Go.IntKind.i64 z])) w) : wpList Try.prog ops Q (o :: rest) a w :=
  wpList_load_row hgd 25 p ho g hx 25 _ (0, 0) _ H Try.underlying25 rfl (by kernel_rfl) h
theorem cbox_store {ops : Array Oper} {rest : List Oper} {o : Oper} {a : Act} {w : World} {Q : Exit → Act → World → Prop} {x y z x' y' z' : Int} (g : Nat) (H : CBox w g x y z) (hgd : o.guard = none) (p q : Operand) (ho : o.op = .store 25 p q) (hx : a.eval p = .pointer (some ⟨g, 0, none⟩)) (hy : a.eval q = (Go.Value.agg #[Go.Value.int Go.IntKind.i64 x', Go.Value.int Go.IntKind.i64 y', Go.Value.int Go.IntKind.i64 z']))
    (h : wpList Try.prog ops Q rest (a.put o.dst undef) (w.setRow g #[.int .i64 x', .int .i64 y', .int .i64 z'])) : wpList Try.prog ops Q (o :: rest) a w :=
  wpList_store_row hgd 25 p q ho g _ hx hy 25 _ H (by kernel_rfl) rfl (by simp [Value.oneCell']) h
theorem cbox_part {ops : Array Oper} {rest : List Oper} {o : Oper} {a : Act} {w : World} {Q : Exit → Act → World → Prop} {x y z : Int} (g : Nat) (H : CBox w g x y z) (hgd : o.guard = none) (p : Operand) (ho : o.op = .load 23 p) (hx : a.eval p = .pointer (some ⟨g, 0, none⟩))
    (h : wpList Try.prog ops Q rest (a.put o.dst (Go.Value.agg #[Go.Value.int Go.IntKind.i64 x, Go.Value.int Go.IntKind.i64 y, Go.Value.int Go.IntKind.i64 z])) w) : wpList Try.prog ops Q (o :: rest) a w :=
  wpList_load_row hgd 23 p ho g hx 25 _ (0, 0) _ H Try.underlying23 rfl (by kernel_rfl) h
theorem cbox_put {ops : Array Oper} {rest : List Oper} {o : Oper} {a : Act} {w : World} {Q : Exit → Act → World → Prop} {x y z x' y' z' : Int} (g : Nat) (H : CBox w g x y z) (hgd : o.guard = none) (p q : Operand) (ho : o.op = .store 23 p q) (hx : a.eval p = .pointer (some ⟨g, 0, none⟩)) (hy : a.eval q = (Go.Value.agg #[Go.Value.int Go.IntKind.i64 x', Go.Value.int Go.IntKind.i64 y', Go.Value.int Go.IntKind.i64 z']))
    (h : wpList Try.prog ops Q rest (a.put o.dst undef) (w.setRow g #[.int .i64 x', .int .i64 y', .int .i64 z'])) : wpList Try.prog ops Q (o :: rest) a w :=
  wpList_store_row hgd 23 p q ho g _ hx hy 25 _ H (by kernel_rfl) rfl (by simp [Value.oneCell']) h
theorem cbox_result2 {fn : Func} {p q : Tmp} {x y z : Int} (hr : fn.results = #[.cell p 25, .tmp q]) (tmps : Array Value) (w : World) (g : Nat) (hp : tmps.getD p undef = .pointer (some ⟨g, 0, none⟩)) (H : CBox w g x y z) :
    (results fn tmps).run Try.prog w = .ok (.tuple #[(Go.Value.agg #[Go.Value.int Go.IntKind.i64 x, Go.Value.int Go.IntKind.i64 y, Go.Value.int Go.IntKind.i64 z]), tmps.getD q undef]) w := by
  have hp' : tmps[p]?.getD undef = .pointer (some ⟨g, 0, none⟩) := by simpa using hp
  simp [results, hr, hp', asAddr, run_loadVar_row w g 25 25 _ (0, 0) _ H Try.underlying25 rfl (by kernel_rfl)]
theorem cbox_result3 {fn : Func} {p q r : Tmp} {x y z x' y' z' : Int} (hr : fn.results = #[.cell p 25, .cell q 23, .tmp r]) (tmps : Array Value) (w : World) (g k : Nat) (hp : tmps.getD p undef = .pointer (some ⟨g, 0, none⟩)) (hq : tmps.getD q undef = .pointer (some ⟨k, 0, none⟩)) (H : CBox w g x y z) (K : Box w k x' y' z') :
    (results fn tmps).run Try.prog w = .ok (.tuple #[(Go.Value.agg #[Go.Value.int Go.IntKind.i64 x, Go.Value.int Go.IntKind.i64 y, Go.Value.int Go.IntKind.i64 z]), (Go.Value.agg #[Go.Value.int Go.IntKind.i64 x', Go.Value.int Go.IntKind.i64 y', Go.Value.int Go.IntKind.i64 z']), tmps.getD r undef]) w := by
  have hp' : tmps[p]?.getD undef = .pointer (some ⟨g, 0, none⟩) := by simpa using hp
  have hq' : tmps[q]?.getD undef = .pointer (some ⟨k, 0, none⟩) := by simpa using hq
  simp [results, hr, hp', hq', asAddr, run_loadVar_row w g 25 25 _ (0, 0) _ H Try.underlying25 rfl (by kernel_rfl), run_loadVar_row w k 23 23 _ (0, 0) _ K Try.underlying23 rfl (by kernel_rfl)]
theorem CBox.cell_set {w : World} {h : Nat} {cs : Array Value} {t : TypeId} {fr : Nat × Nat} (H : w.heap[h]? = some (.cells cs t fr)) (i : Nat) (v : Value) : (w.setCell ⟨h, i, none⟩ v).heap[h]? = some (.cells (cs.setIfInBounds i v) t fr) := by
  simp [World.setCell, Array.getElem?_modify, H]
theorem CBox.frozen {w : World} {h : Nat} {a b c : Int} (H : CBox w h a b c) (i : Nat) : w.frozen? ⟨h, i, none⟩ = false := by
  unfold CBox at H
  simp [World.frozen?, H]
theorem Box.frozen {w : World} {h : Nat} {a b c : Int} (H : Box w h a b c) (i : Nat) : w.frozen? ⟨h, i, none⟩ = false := by
  unfold Box at H
  simp [World.frozen?, H]
theorem CBox.set0 {w : World} {h : Nat} {a b c : Int} (H : CBox w h a b c) (x : Int) : CBox (w.setCell ⟨h, 0, none⟩ (.int .i64 x)) h x b c := CBox.cell_set H 0 _
theorem CBox.set1 {w : World} {h : Nat} {a b c : Int} (H : CBox w h a b c) (x : Int) : CBox (w.setCell ⟨h, 1, none⟩ (.int .i64 x)) h a x c := CBox.cell_set H 1 _
theorem CBox.set2 {w : World} {h : Nat} {a b c : Int} (H : CBox w h a b c) (x : Int) : CBox (w.setCell ⟨h, 2, none⟩ (.int .i64 x)) h a b x := CBox.cell_set H 2 _
theorem Box.set0 {w : World} {h : Nat} {a b c : Int} (H : Box w h a b c) (x : Int) : Box (w.setCell ⟨h, 0, none⟩ (.int .i64 x)) h x b c := CBox.cell_set H 0 _
theorem Box.set1 {w : World} {h : Nat} {a b c : Int} (H : Box w h a b c) (x : Int) : Box (w.setCell ⟨h, 1, none⟩ (.int .i64 x)) h a x c := CBox.cell_set H 1 _
theorem CBox.off {w : World} {h : Nat} {a b c : Int} (H : CBox w h a b c) (p : Addr) (v : Value) (hne : h ≠ p.block) : CBox (w.setCell p v) h a b c := (Below.heap_setCell w _ _ h hne).trans H
theorem Box.off {w : World} {h : Nat} {a b c : Int} (H : Box w h a b c) (p : Addr) (v : Value) (hne : h ≠ p.block) : Box (w.setCell p v) h a b c := (Below.heap_setCell w _ _ h hne).trans H
theorem Box.set2 {w : World} {h : Nat} {a b c : Int} (H : Box w h a b c) (x : Int) : Box (w.setCell ⟨h, 2, none⟩ (.int .i64 x)) h a b x := CBox.cell_set H 2 _

end Go.Proofs.Ytffmannejfmcgaa
