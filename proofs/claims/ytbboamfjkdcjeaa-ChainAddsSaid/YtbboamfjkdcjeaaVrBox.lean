/-
  Versions that lie in memory: blocks of five cells, what reading and writing them does, and results that lie so; versions in a row.
-/
import Derived.Test.YtbboamfjkdcjeaaSmBox
import Derived.Test.YtbboamfjkdcjeaaVrPlain
set_option linter.unusedVariables false
namespace Go.Proofs.Ytbboamfjkdcjeaa
open Go.RowKit

/-- The block h holds a version. -/
def VBox (w : World) (h : Nat) (a b c : Int) (g : Bool) (s : ByteArray) : Prop := w.heap[h]? = some (.cells #[.int .i64 a, .int .i64 b, .int .i64 c, .bool g, .string s] 26 (0, 0))
theorem VBox.lt {w : World} {h : Nat} {a b c : Int} {g : Bool} {s : ByteArray} (H : VBox w h a b c g s) : h < w.heap.size := by
  rcases Nat.lt_or_ge h w.heap.size with h1 | h1
  · exact h1
  · unfold VBox at H; rw [Array.getElem?_eq_none h1] at H; cases H
theorem VBox.new (w : World) (a b c : Int) (g : Bool) (s : ByteArray) : VBox (w.alloc (.cells #[.int .i64 a, .int .i64 b, .int .i64 c, .bool g, .string s] 26)) w.heap.size a b c g s := by
  show (w.heap.push _)[w.heap.size]? = _
  simp
theorem VBox.next {w w' : World} {B h : Nat} {a b c : Int} {g : Bool} {s : ByteArray} (H : VBox w h a b c g s) (hb : Below B w w') (hB : h < B) : VBox w' h a b c g s := (hb.block h hB).trans H
theorem VBox.over {w w' : World} {h : Nat} {a b c : Int} {g : Bool} {s : ByteArray} (H : VBox w h a b c g s) (hb : Below w.heap.size w w') : VBox w' h a b c g s := H.next hb H.lt
theorem VBox.alloc {w : World} {h : Nat} {a b c : Int} {g : Bool} {s : ByteArray} (H : VBox w h a b c g s) (o : Obj) : VBox (w.alloc o) h a b c g s := H.next ((Below.refl w.heap.size w).alloc (Nat.le_refl _) o) H.lt
theorem VBox.drew {w : World} {h : Nat} {a b c : Int} {g : Bool} {s : ByteArray} (H : VBox w h a b c g s) : VBox w.drew h a b c g s := H
theorem VBox.set {w : World} {h : Nat} {a b c : Int} {g : Bool} {s : ByteArray} (H : VBox w h a b c g s) (x y z : Int) (k : Bool) (t : ByteArray) : VBox (w.setRow h #[.int .i64 x, .int .i64 y, .int .i64 z, .bool k, .string t]) h x y z k t := setRow_heap w h _ _ _ _ H
theorem VBox.other {w : World} {h i : Nat} {a b c : Int} {g : Bool} {s : ByteArray} (H : VBox w h a b c g s) (cs : Array Value) (hne : h ≠ i) : VBox (w.setRow i cs) h a b c g s := (setRow_other w i h cs hne).trans H
theorem VBox.cell {w : World} {h : Nat} {a b c : Int} {g : Bool} {s : ByteArray} (H : VBox w h a b c g s) : w.cell? ⟨h, 0, none⟩ = some (.int .i64 a) ∧ w.cell? ⟨h, 1, none⟩ = some (.int .i64 b) ∧ w.cell? ⟨h, 2, none⟩ = some (.int .i64 c) ∧ w.cell? ⟨h, 3, none⟩ = some (.bool g) ∧ w.cell? ⟨h, 4, none⟩ = some (.string s) := by
  unfold VBox at H
  refine ⟨?_, ?_, ?_, ?_, ?_⟩ <;> simp [World.cell?, H]
theorem VBox.frozen {w : World} {h : Nat} {a b c : Int} {g : Bool} {s : ByteArray} (H : VBox w h a b c g s) (i : Nat) : w.frozen? ⟨h, i, none⟩ = false := by
  unfold VBox at H
  simp [World.frozen?, H]
theorem vbox_load {ops : Array Oper} {rest : List Oper} {o : Oper} {a : Act} {w : World} {Q : Exit → Act → World → Prop} {x y z : Int} {k : Bool} {t : ByteArray} (g : Nat) (H : VBox w g x y z k t) (hgd : o.guard = none) (p : Operand) (ho : o.op = .load 26 p) (hx : a.eval p = .pointer (some ⟨g, 0, none⟩))
    (h : wpList Try.prog ops Q rest (a.put o.dst (Go.Value.agg #[Go.Value.int Go.IntKind.i64 x, Go.Value.int Go.IntKind.i64 y, Go.Value.int Go.IntKind.i64 z, Go.Value.bool k, Go.Value.string t])) w) : wpList Try.prog ops Q (o :: rest) a w :=
  wpList_load_row hgd 26 p ho g hx 26 _ (0, 0) _ H Try.underlying26 rfl (by kernel_rfl) h
theorem vbox_store {ops : Array Oper} {rest : List Oper} {o : Oper} {a : Act} {w : World} {Q : Exit → Act → World → Prop} {x y z x' y' z' : Int} {k k' : Bool} {t t' : ByteArray} (g : Nat) (H : VBox w g x y z k t) (hgd : o.guard = none) (p q : Operand) (ho : o.op = .store 26 p q) (hx : a.eval p = .pointer (some ⟨g, 0, none⟩)) (hy : a.eval q = (Go.Value.agg #[Go.Value.int Go.IntKind.i64 x', Go.Value.int Go.IntKind.i64 y', Go.Value.int Go.IntKind.i64 z', Go.Value.bool k', Go.Value.string t']))
    (h : wpList Try.prog ops Q rest (a.put o.dst undef) (w.setRow g #[.int .i64 x', .int .i64 y', .int .i64 z', .bool k', .string t'])) : wpList Try.prog ops Q (o :: rest) a w :=
  wpList_store_row hgd 26 p q ho g _ hx hy 26 _ H (by kernel_rfl) rfl (by simp [Value.oneCell']) h
theorem vbox_result2 {fn : Func} {p q : Tmp} {x y z : Int} {k : Bool} {t : ByteArray} (hr : fn.results = #[.cell p 26, .tmp q]) (tmps : Array Value) (w : World) (g : Nat) (hp : tmps.getD p undef = .pointer (some ⟨g, 0, none⟩)) (H : VBox w g x y z k t) :
    (results fn tmps).run Try.prog w = .ok (.tuple #[(Go.Value.agg #[Go.Value.int Go.IntKind.i64 x, Go.Value.int Go.IntKind.i64 y, Go.Value.int Go.IntKind.i64 z, Go.Value.bool k, Go.Value.string t]), tmps.getD q undef]) w := by
  have hp' : tmps[p]?.getD undef = .pointer (some ⟨g, 0, none⟩) := by simpa using hp
  simp [results, hr, hp', asAddr, run_loadVar_row w g 26 26 _ (0, 0) _ H Try.underlying26 rfl (by kernel_rfl)]

/-- A version as a value; its cells. -/
def verV (v : Ver) : Value := (Go.Value.agg #[Go.Value.int Go.IntKind.i64 (v.1), Go.Value.int Go.IntKind.i64 (v.2.1), Go.Value.int Go.IntKind.i64 (v.2.2.1), Go.Value.bool (v.2.2.2.1), Go.Value.string (v.2.2.2.2)])
def verC (v : Ver) : List Value := [.int .i64 v.1, .int .i64 v.2.1, .int .i64 v.2.2.1, .bool v.2.2.2.1, .string v.2.2.2.2]
def versC (l : List Ver) : List Value := l.flatMap verC
theorem versC_len (l : List Ver) : (versC l).length = l.length * 5 := by
  induction l with
  | nil => rfl
  | cons v l ih => simp only [versC, List.flatMap_cons, List.length_append, List.length_cons] at *; rw [ih]; simp [verC]; omega
theorem versC_snoc (l : List Ver) (v : Ver) : versC l ++ verC v = versC (l ++ [v]) := by simp [versC]
theorem versC_at (l : List Ver) : ∀ (i j : Nat), i < l.length → j < 5 → (versC l)[i * 5 + j]? = (verC (vat l i))[j]? := by
  induction l with
  | nil => intro i j hi; exact absurd hi (Nat.not_lt_zero _)
  | cons v l ih =>
    intro i j hi hj
    have hv : (verC v).length = 5 := rfl
    cases i with
    | zero => simp only [versC, List.flatMap_cons, Nat.zero_mul, Nat.zero_add]; rw [List.getElem?_append_left (by omega)]; rfl
    | succ i =>
      have h2 := ih i j (by simpa using hi) hj
      simp only [versC, List.flatMap_cons] at *
      rw [List.getElem?_append_right (by omega), hv, show (i + 1) * 5 + j - 5 = i * 5 + j by omega, h2]
      simp [vat]
/-- The five cells of a version in a row. -/
def VerAt (W : World) (b o : Nat) (v : Ver) : Prop :=
  W.cell? ⟨b, o, none⟩ = some (.int .i64 v.1) ∧ W.cell? ⟨b, o + 1, none⟩ = some (.int .i64 v.2.1) ∧ W.cell? ⟨b, o + 2, none⟩ = some (.int .i64 v.2.2.1) ∧ W.cell? ⟨b, o + 3, none⟩ = some (.bool v.2.2.2.1) ∧ W.cell? ⟨b, o + 4, none⟩ = some (.string v.2.2.2.2)
theorem VerAt.next {B : Nat} {w w' : World} {b o : Nat} {v : Ver} (H : VerAt w b o v) (hb : Below B w w') (h : b < B) : VerAt w' b o v := by
  unfold VerAt
  rw [hb.cell (p := ⟨b, o, none⟩) h, hb.cell (p := ⟨b, o + 1, none⟩) h, hb.cell (p := ⟨b, o + 2, none⟩) h, hb.cell (p := ⟨b, o + 3, none⟩) h, hb.cell (p := ⟨b, o + 4, none⟩) h]
  exact H
/-- A slice value that leads to versions, wherever they lie. -/
def Vers (w : World) (v : Value) (l : List Ver) : Prop :=
  ∃ ao cap, v = .slice ao l.length cap ∧ l.length ≤ cap ∧ cap ≤ maxLen ∧ (0 < l.length → ∃ b off, ao = some ⟨b, off, none⟩ ∧ b < w.heap.size ∧ ∀ i, i < l.length → VerAt w b (off + i * 5) (vat l i))
theorem Vers.next {w w' : World} {v : Value} {l : List Ver} (h : Vers w v l) (hb : Below w.heap.size w w') : Vers w' v l := by
  obtain ⟨ao, cap, e, h1, h2, h3⟩ := h
  refine ⟨ao, cap, e, h1, h2, fun hp => ?_⟩
  obtain ⟨b, off, e2, h4, h5⟩ := h3 hp
  exact ⟨b, off, e2, Nat.lt_of_lt_of_le h4 hb.size, fun i hi => (h5 i hi).next hb h4⟩
/-- A slice value that owns versions. -/
def OwnsV (w : World) (base : Nat) (v : Value) (l : List Ver) : Prop := w.ownsRow base 26 5 v l.length (versC l)
theorem OwnsV.next {w w' : World} {B : Nat} {v : Value} {l : List Ver} (h : OwnsV w B v l) (hb : Below w.heap.size w w') : OwnsV w' B v l := by
  obtain ⟨hl, h2⟩ := h
  refine ⟨hl, ?_⟩
  rcases h2 with h2 | ⟨g, cap, cur, e1, e2, e3, r⟩
  · exact .inl h2
  · refine .inr ⟨g, cap, cur, e1, e2, (hb.block g ?_).trans e3, r⟩
    rcases Nat.lt_or_ge g w.heap.size with h1 | h1
    · exact h1
    · rw [Array.getElem?_eq_none h1] at e3; cases e3
theorem OwnsV.mono {w : World} {B B' : Nat} {v : Value} {l : List Ver} (h : OwnsV w B v l) (hB : B' ≤ B) : OwnsV w B' v l := by
  obtain ⟨hl, h2⟩ := h
  refine ⟨hl, ?_⟩
  rcases h2 with h2 | ⟨g, cap, cur, e1, e2, r⟩
  · exact .inl h2
  · exact .inr ⟨g, cap, cur, e1, by omega, r⟩
theorem OwnsV.vers {w : World} {B : Nat} {v : Value} {l : List Ver} (h : OwnsV w B v l) : Vers w v l := by
  have h' : w.ownsRow B 26 5 v l.length (versC l) := h
  rcases h'.2 with ⟨e, hn⟩ | ⟨g, cap, cur, e, hB, hg, hc, hm, hsz, htk⟩
  · exact ⟨none, 0, by rw [e, hn], by omega, by unfold maxLen; omega, fun hp => by omega⟩
  · have hgl : g < w.heap.size := by
      rcases Nat.lt_or_ge g w.heap.size with h1 | h1
      · exact h1
      · rw [Array.getElem?_eq_none h1] at hg; cases hg
    refine ⟨some ⟨g, 0, none⟩, cap, e, hc, hm, fun _ => ⟨g, 0, rfl, hgl, fun i hi => ?_⟩⟩
    have key : ∀ j, j < 5 → w.cell? ⟨g, 0 + i * 5 + j, none⟩ = (verC (vat l i))[j]? := by
      intro j hj
      have h1 := versC_at l i j hi hj
      rw [← htk, List.getElem?_take, if_pos (by omega)] at h1
      rw [← h1]
      simp [World.cell?, hg]
    exact ⟨key 0 (by omega), key 1 (by omega), key 2 (by omega), key 3 (by omega), key 4 (by omega)⟩
theorem info_ver : (Try.prog.info? 26).map (fun i => (i.zero, i.size, i.bytes)) = some (some ((Go.Value.agg #[Go.Value.int Go.IntKind.i64 0, Go.Value.int Go.IntKind.i64 0, Go.Value.int Go.IntKind.i64 0, Go.Value.bool false, Go.Value.string (ByteArray.empty)])), 5, 48) := by kernel_rfl

end Go.Proofs.Ytbboamfjkdcjeaa
