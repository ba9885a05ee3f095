/-
  Spans that lie in memory: blocks of two texts, what reading and writing them does, and results that lie so.
-/
import Derived.Test.YtpmellfgmlgknaaDoorSpPlain
import Derived.Laws.Rows
import Derived.Laws.Tables
import Derived.Laws.CopyOwn
set_option linter.unusedVariables false
namespace Go.Proofs.YtpmellfgmlgknaaDoor
open Go.RowKit

/-- The block h holds a span. -/
def PBox (w : World) (h : Nat) (a b : ByteArray) : Prop := w.heap[h]? = some (.cells #[.string a, .string b] 23 (0, 0))
theorem PBox.lt {w : World} {h : Nat} {a b : ByteArray} (H : PBox w h a b) : h < w.heap.size := by
  rcases Nat.lt_or_ge h w.heap.size with h1 | h1
  · exact h1
  · unfold PBox at H; rw [Array.getElem?_eq_none h1] at H; cases H
theorem psize_alloc (w : World) (o : Obj) : (w.alloc o).heap.size = w.heap.size + 1 := by simp
theorem PBox.new (w : World) (a b : ByteArray) : PBox (w.alloc (.cells #[.string a, .string b] 23)) w.heap.size a b := by
  show (w.heap.push _)[w.heap.size]? = _
  simp
theorem PBox.next {w w' : World} {B h : Nat} {a b : ByteArray} (H : PBox w h a b) (hb : Below B w w') (hB : h < B) : PBox w' h a b := (hb.block h hB).trans H
theorem PBox.over {w w' : World} {h : Nat} {a b : ByteArray} (H : PBox w h a b) (hb : Below w.heap.size w w') : PBox w' h a b := H.next hb H.lt
theorem PBox.alloc {w : World} {h : Nat} {a b : ByteArray} (H : PBox w h a b) (o : Obj) : PBox (w.alloc o) h a b := H.next ((Below.refl w.heap.size w).alloc (Nat.le_refl _) o) H.lt
theorem PBox.drew {w : World} {h : Nat} {a b : ByteArray} (H : PBox w h a b) : PBox w.drew h a b := H
theorem PBox.set {w : World} {h : Nat} {a b : ByteArray} (H : PBox w h a b) (x y : ByteArray) : PBox (w.setRow h #[.string x, .string y]) h x y := setRow_heap w h _ _ _ _ H
theorem PBox.other {w : World} {h g : Nat} {a b : ByteArray} (H : PBox w h a b) (cs : Array Value) (hne : h ≠ g) : PBox (w.setRow g cs) h a b := (setRow_other w g h cs hne).trans H
theorem PBox.cell {w : World} {h : Nat} {a b : ByteArray} (H : PBox w h a b) : w.cell? ⟨h, 0, none⟩ = some (.string a) ∧ w.cell? ⟨h, 1, none⟩ = some (.string b) := by
  unfold PBox at H
  refine ⟨?_, ?_⟩ <;> simp [World.cell?, H]
theorem pbox_load {ops : Array Oper} {rest : List Oper} {o : Oper} {a : Act} {w : World} {Q : Exit → Act → World → Prop} {x y : ByteArray} (g : Nat) (H : PBox w g x y) (hgd : o.guard = none) (p : Operand) (ho : o.op = .load 23 p) (hx : a.eval p = .pointer (some ⟨g, 0, none⟩))
    (h : wpList Tryd.prog ops Q rest (a.put o.dst (Go.Value.agg #[Go.Value.string x, Go.Value.string y])) w) : wpList Tryd.prog ops Q (o :: rest) a w :=
  wpList_load_row hgd 23 p ho g hx 23 _ (0, 0) _ H Tryd.underlying23 rfl (by kernel_rfl) h
theorem pbox_store {ops : Array Oper} {rest : List Oper} {o : Oper} {a : Act} {w : World} {Q : Exit → Act → World → Prop} {x y x' y' : ByteArray} (g : Nat) (H : PBox w g x y) (hgd : o.guard = none) (p q : Operand) (ho : o.op = .store 23 p q) (hx : a.eval p = .pointer (some ⟨g, 0, none⟩)) (hy : a.eval q = (Go.Value.agg #[Go.Value.string x', Go.Value.string y']))
    (h : wpList Tryd.prog ops Q rest (a.put o.dst undef) (w.setRow g #[.string x', .string y'])) : wpList Tryd.prog ops Q (o :: rest) a w :=
  wpList_store_row hgd 23 p q ho g _ hx hy 23 _ H (by kernel_rfl) rfl (by simp [Value.oneCell']) h
theorem pbox_result2 {fn : Func} {p q : Tmp} {x y : ByteArray} (hr : fn.results = #[.cell p 23, .tmp q]) (tmps : Array Value) (w : World) (g : Nat) (hp : tmps.getD p undef = .pointer (some ⟨g, 0, none⟩)) (H : PBox w g x y) :
    (results fn tmps).run Tryd.prog w = .ok (.tuple #[(Go.Value.agg #[Go.Value.string x, Go.Value.string y]), tmps.getD q undef]) w := by
  have hp' : tmps[p]?.getD undef = .pointer (some ⟨g, 0, none⟩) := by simpa using hp
  simp [results, hr, hp', asAddr, run_loadVar_row w g 23 23 _ (0, 0) _ H Tryd.underlying23 rfl (by kernel_rfl)]
theorem pbox_result3 {fn : Func} {p q r : Tmp} {x y x' y' : ByteArray} (hr : fn.results = #[.cell p 23, .cell q 23, .tmp r]) (tmps : Array Value) (w : World) (g g' : Nat) (hp : tmps.getD p undef = .pointer (some ⟨g, 0, none⟩)) (hq : tmps.getD q undef = .pointer (some ⟨g', 0, none⟩)) (H : PBox w g x y) (H' : PBox w g' x' y') :
    (results fn tmps).run Tryd.prog w = .ok (.tuple #[(Go.Value.agg #[Go.Value.string x, Go.Value.string y]), (Go.Value.agg #[Go.Value.string x', Go.Value.string y']), tmps.getD r undef]) w := by
  have hp' : tmps[p]?.getD undef = .pointer (some ⟨g, 0, none⟩) := by simpa using hp
  have hq' : tmps[q]?.getD undef = .pointer (some ⟨g', 0, none⟩) := by simpa using hq
  simp [results, hr, hp', hq', asAddr, run_loadVar_row w g 23 23 _ (0, 0) _ H Tryd.underlying23 rfl (by kernel_rfl), run_loadVar_row w g' 23 23 _ (0, 0) _ H' Tryd.underlying23 rfl (by kernel_rfl)]
/-- What holds once a function on a span has laid its block and called. -/
theorem P1_next {w w1 : World} {a b : ByteArray} (hb : Below (w.alloc (.cells #[.string a, .string b] 23)).heap.size (w.alloc (.cells #[.string a, .string b] 23)) w1) : PBox w1 w.heap.size a b ∧ Below w.heap.size w w1 :=
  ⟨(PBox.new w a b).over hb, ((Below.refl w.heap.size w).alloc (Nat.le_refl _) _).trans (hb.mono (by simp))⟩
theorem PBox.frozen {w : World} {h : Nat} {a b : ByteArray} (H : PBox w h a b) (i : Nat) : w.frozen? ⟨h, i, none⟩ = false := by
  unfold PBox at H
  simp [World.frozen?, H]
theorem PBox.cell_set {w : World} {h : Nat} {cs : Array Value} {t : TypeId} {fr : Nat × Nat} (H : w.heap[h]? = some (.cells cs t fr)) (i : Nat) (v : Value) : (w.setCell ⟨h, i, none⟩ v).heap[h]? = some (.cells (cs.setIfInBounds i v) t fr) := by
  simp [World.setCell, Array.getElem?_modify, H]
theorem PBox.set0 {w : World} {h : Nat} {a b : ByteArray} (H : PBox w h a b) (x : ByteArray) : PBox (w.setCell ⟨h, 0, none⟩ (.string x)) h x b := PBox.cell_set H 0 _
theorem PBox.set1 {w : World} {h : Nat} {a b : ByteArray} (H : PBox w h a b) (x : ByteArray) : PBox (w.setCell ⟨h, 1, none⟩ (.string x)) h a x := PBox.cell_set H 1 _
theorem PBox.off {w : World} {h : Nat} {a b : ByteArray} (H : PBox w h a b) (p : Addr) (v : Value) (hne : h ≠ p.block) : PBox (w.setCell p v) h a b := (Below.heap_setCell w _ _ h hne).trans H
/-- Are two spans the same? -/
theorem eq_span (a b c d : ByteArray) (w : World) : (Op.equalIn 10000 23 (Go.Value.agg #[Go.Value.string a, Go.Value.string b]) (Go.Value.agg #[Go.Value.string c, Go.Value.string d])).run Tryd.prog w = .ok (decide (a = c ∧ b = d)) w := by
  have hne : ∀ x y : ByteArray, x ≠ y → (x.toList == y.toList) = false ∧ ¬ x.toList = y.toList := fun x y h => ⟨beq_eq_false_iff_ne.2 fun e => h (list_inj e), fun e => h (list_inj e)⟩
  by_cases h1 : a = c
  · subst h1
    by_cases h2 : b = d
    · subst h2; go_simp
    · obtain ⟨e1, e2⟩ := hne b d h2; go_simp
  · obtain ⟨e1, e2⟩ := hne a c h1; go_simp

end Go.Proofs.YtpmellfgmlgknaaDoor
