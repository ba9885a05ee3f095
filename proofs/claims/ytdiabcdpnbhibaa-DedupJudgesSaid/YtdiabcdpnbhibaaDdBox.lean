/-
  Rows of tables that lie in memory: blocks, rows of cells, tables of one's own.
-/
import Derived.Test.YtdiabcdpnbhibaaDdPlain
import Derived.Test.YtdiabcdpnbhibaaSmBox
import Derived.OwnWalk
import Derived.Laws.AppendOwn
import Derived.Lib.SliceRun
import Derived.Lib.BufferMore
set_option linter.unusedVariables false
namespace Go.Proofs.Ytdiabcdpnbhibaa
open Go.RowKit

/-- A row as it lies: with where its items lie, and their capacity. -/
abbrev DnV := Dn × (Option Addr × Nat)
def dnv0 : DnV := (dn0, none, 0)
def det (l : List DnV) (i : Nat) : DnV := l.getD i dnv0
theorem det_fst (l : List DnV) (i : Nat) : (det l i).1 = dat (l.map Prod.fst) i := by
  unfold det dat
  simp only [List.getD, List.getElem?_map]
  cases l[i]? <;> rfl
theorem det_map {es : List DnV} {l : List Dn} (h : es.map Prod.fst = l) (i : Nat) : (det es i).1 = dat l i := by rw [← h]; exact det_fst es i
def dnC (d : DnV) : List Value := [.int .i64 d.1.1, .int .i64 d.1.2.1, .int .i64 d.1.2.2.1, .int .i64 d.1.2.2.2.1.1, .int .i64 d.1.2.2.2.1.2.1, .int .i64 d.1.2.2.2.1.2.2, .bool d.1.2.2.2.2.1, .string d.1.2.2.2.2.2.1, .slice d.2.1 d.1.2.2.2.2.2.2.1 d.2.2, .string d.1.2.2.2.2.2.2.2.1, .bool d.1.2.2.2.2.2.2.2.2]
def dnV (d : DnV) : Value := .agg #[.int .i64 d.1.1, .int .i64 d.1.2.1, .int .i64 d.1.2.2.1, .int .i64 d.1.2.2.2.1.1, .int .i64 d.1.2.2.2.1.2.1, .int .i64 d.1.2.2.2.1.2.2, .bool d.1.2.2.2.2.1, .string d.1.2.2.2.2.2.1, .slice d.2.1 d.1.2.2.2.2.2.2.1 d.2.2, .string d.1.2.2.2.2.2.2.2.1, .bool d.1.2.2.2.2.2.2.2.2]
def dnsC (l : List DnV) : List Value := l.flatMap dnC
theorem dnsC_len (l : List DnV) : (dnsC l).length = l.length * 11 := by
  induction l with
  | nil => rfl
  | cons v l ih => simp only [dnsC, List.flatMap_cons, List.length_append, List.length_cons] at *; rw [ih]; simp [dnC]; omega
theorem dnsC_app (l m : List DnV) : dnsC l ++ dnsC m = dnsC (l ++ m) := by simp [dnsC]
theorem dnsC_snoc (l : List DnV) (v : DnV) : dnsC l ++ dnC v = dnsC (l ++ [v]) := by simp [dnsC]
theorem dnsC_at (l : List DnV) : ∀ (i j : Nat), i < l.length → j < 11 → (dnsC l)[i * 11 + j]? = (dnC (det l i))[j]? := by
  induction l with
  | nil => intro i j hi; exact absurd hi (Nat.not_lt_zero _)
  | cons v l ih =>
    intro i j hi hj
    have hv : (dnC v).length = 11 := rfl
    cases i with
    | zero => simp only [dnsC, List.flatMap_cons, Nat.zero_mul, Nat.zero_add]; rw [List.getElem?_append_left (by omega)]; rfl
    | succ i =>
      have h2 := ih i j (by simpa using hi) hj
      simp only [dnsC, List.flatMap_cons] at *
      rw [List.getElem?_append_right (by omega), hv, show (i + 1) * 11 + j - 11 = i * 11 + j by omega, h2]
      simp [det]
theorem dnC_one (d : DnV) : ∀ u ∈ dnC d, u.oneCell' = true := by
  intro u hu
  simp only [dnC, List.mem_cons, List.not_mem_nil, or_false] at hu
  rcases hu with rfl | rfl | rfl | rfl | rfl | rfl | rfl | rfl | rfl | rfl | rfl <;> rfl
theorem dnsC_one (l : List DnV) : ∀ u ∈ dnsC l, u.oneCell' = true := by
  intro u hu
  obtain ⟨v, _, hv⟩ := List.mem_flatMap.1 hu
  exact dnC_one v u hv
/-- The eleven cells of a row. -/
def DnAt (W : World) (b o : Nat) (d : DnV) : Prop :=
  W.cell? ⟨b, o, none⟩ = some (.int .i64 d.1.1) ∧ W.cell? ⟨b, o + 1, none⟩ = some (.int .i64 d.1.2.1) ∧ W.cell? ⟨b, o + 2, none⟩ = some (.int .i64 d.1.2.2.1) ∧ W.cell? ⟨b, o + 3, none⟩ = some (.int .i64 d.1.2.2.2.1.1) ∧
  W.cell? ⟨b, o + 4, none⟩ = some (.int .i64 d.1.2.2.2.1.2.1) ∧ W.cell? ⟨b, o + 5, none⟩ = some (.int .i64 d.1.2.2.2.1.2.2) ∧ W.cell? ⟨b, o + 6, none⟩ = some (.bool d.1.2.2.2.2.1) ∧ W.cell? ⟨b, o + 7, none⟩ = some (.string d.1.2.2.2.2.2.1) ∧
  W.cell? ⟨b, o + 8, none⟩ = some (.slice d.2.1 d.1.2.2.2.2.2.2.1 d.2.2) ∧ W.cell? ⟨b, o + 9, none⟩ = some (.string d.1.2.2.2.2.2.2.2.1) ∧ W.cell? ⟨b, o + 10, none⟩ = some (.bool d.1.2.2.2.2.2.2.2.2)
theorem DnAt.next {B : Nat} {w w' : World} {b o : Nat} {d : DnV} (H : DnAt w b o d) (hb : Below B w w') (h : b < B) : DnAt w' b o d := by
  unfold DnAt
  rw [hb.cell (p := ⟨b, o, none⟩) h, hb.cell (p := ⟨b, o + 1, none⟩) h, hb.cell (p := ⟨b, o + 2, none⟩) h, hb.cell (p := ⟨b, o + 3, none⟩) h, hb.cell (p := ⟨b, o + 4, none⟩) h, hb.cell (p := ⟨b, o + 5, none⟩) h, hb.cell (p := ⟨b, o + 6, none⟩) h, hb.cell (p := ⟨b, o + 7, none⟩) h, hb.cell (p := ⟨b, o + 8, none⟩) h, hb.cell (p := ⟨b, o + 9, none⟩) h, hb.cell (p := ⟨b, o + 10, none⟩) h]
  exact H
/-- The block h holds a row. -/
def DBox (w : World) (h : Nat) (d : DnV) : Prop := w.heap[h]? = some (.cells #[.int .i64 d.1.1, .int .i64 d.1.2.1, .int .i64 d.1.2.2.1, .int .i64 d.1.2.2.2.1.1, .int .i64 d.1.2.2.2.1.2.1, .int .i64 d.1.2.2.2.1.2.2, .bool d.1.2.2.2.2.1, .string d.1.2.2.2.2.2.1, .slice d.2.1 d.1.2.2.2.2.2.2.1 d.2.2, .string d.1.2.2.2.2.2.2.2.1, .bool d.1.2.2.2.2.2.2.2.2] 33 (0, 0))
theorem DBox.lt {w : World} {h : Nat} {d : DnV} (H : DBox w h d) : h < w.heap.size := by
  rcases Nat.lt_or_ge h w.heap.size with h1 | h1
  · exact h1
  · unfold DBox at H; rw [Array.getElem?_eq_none h1] at H; cases H
theorem DBox.new (w : World) (d : DnV) : DBox (w.alloc (.cells #[.int .i64 d.1.1, .int .i64 d.1.2.1, .int .i64 d.1.2.2.1, .int .i64 d.1.2.2.2.1.1, .int .i64 d.1.2.2.2.1.2.1, .int .i64 d.1.2.2.2.1.2.2, .bool d.1.2.2.2.2.1, .string d.1.2.2.2.2.2.1, .slice d.2.1 d.1.2.2.2.2.2.2.1 d.2.2, .string d.1.2.2.2.2.2.2.2.1, .bool d.1.2.2.2.2.2.2.2.2] 33)) w.heap.size d := by
  show (w.heap.push _)[w.heap.size]? = _
  simp
theorem DBox.next {w w' : World} {B h : Nat} {d : DnV} (H : DBox w h d) (hb : Below B w w') (hB : h < B) : DBox w' h d := (hb.block h hB).trans H
theorem DBox.over {w w' : World} {h : Nat} {d : DnV} (H : DBox w h d) (hb : Below w.heap.size w w') : DBox w' h d := H.next hb H.lt
theorem DBox.set {w : World} {h : Nat} {d : DnV} (H : DBox w h d) (d' : DnV) : DBox (w.setRow h #[.int .i64 d'.1.1, .int .i64 d'.1.2.1, .int .i64 d'.1.2.2.1, .int .i64 d'.1.2.2.2.1.1, .int .i64 d'.1.2.2.2.1.2.1, .int .i64 d'.1.2.2.2.1.2.2, .bool d'.1.2.2.2.2.1, .string d'.1.2.2.2.2.2.1, .slice d'.2.1 d'.1.2.2.2.2.2.2.1 d'.2.2, .string d'.1.2.2.2.2.2.2.2.1, .bool d'.1.2.2.2.2.2.2.2.2]) h d' := setRow_heap w h _ _ _ _ H
theorem DBox.at {w : World} {h : Nat} {d : DnV} (H : DBox w h d) : DnAt w h 0 d := by
  unfold DBox at H
  refine ⟨?_, ?_, ?_, ?_, ?_, ?_, ?_, ?_, ?_, ?_, ?_⟩ <;> simp [World.cell?, H]
theorem DBox.frozen {w : World} {h : Nat} {d : DnV} (H : DBox w h d) (i : Nat) : w.frozen? ⟨h, i, none⟩ = false := by
  unfold DBox at H
  simp [World.frozen?, H]
theorem dbox_load {ops : Array Oper} {rest : List Oper} {o : Oper} {a : Act} {w : World} {Q : Exit → Act → World → Prop} {d : DnV} (g : Nat) (H : DBox w g d) (hgd : o.guard = none) (p : Operand) (ho : o.op = .load 33 p) (hx : a.eval p = .pointer (some ⟨g, 0, none⟩))
    (h : wpList Try.prog ops Q rest (a.put o.dst (dnV d)) w) : wpList Try.prog ops Q (o :: rest) a w :=
  wpList_load_row hgd 33 p ho g hx 33 _ (0, 0) _ H Try.underlying33 rfl (by kernel_rfl) h
theorem dbox_store {ops : Array Oper} {rest : List Oper} {o : Oper} {a : Act} {w : World} {Q : Exit → Act → World → Prop} {d d' : DnV} (g : Nat) (H : DBox w g d) (hgd : o.guard = none) (p q : Operand) (ho : o.op = .store 33 p q) (hx : a.eval p = .pointer (some ⟨g, 0, none⟩)) (hy : a.eval q = dnV d')
    (h : wpList Try.prog ops Q rest (a.put o.dst undef) (w.setRow g #[.int .i64 d'.1.1, .int .i64 d'.1.2.1, .int .i64 d'.1.2.2.1, .int .i64 d'.1.2.2.2.1.1, .int .i64 d'.1.2.2.2.1.2.1, .int .i64 d'.1.2.2.2.1.2.2, .bool d'.1.2.2.2.2.1, .string d'.1.2.2.2.2.2.1, .slice d'.2.1 d'.1.2.2.2.2.2.2.1 d'.2.2, .string d'.1.2.2.2.2.2.2.2.1, .bool d'.1.2.2.2.2.2.2.2.2])) : wpList Try.prog ops Q (o :: rest) a w :=
  wpList_store_row hgd 33 p q ho g _ hx hy 33 _ H (by kernel_rfl) rfl (by simp [Value.oneCell']) h
theorem dbox_result2 {fn : Func} {p q : Tmp} {d : DnV} (hr : fn.results = #[.cell p 33, .tmp q]) (tmps : Array Value) (w : World) (g : Nat) (hp : tmps.getD p undef = .pointer (some ⟨g, 0, none⟩)) (H : DBox w g d) :
    (results fn tmps).run Try.prog w = .ok (.tuple #[dnV d, tmps.getD q undef]) w := by
  have hp' : tmps[p]?.getD undef = .pointer (some ⟨g, 0, none⟩) := by simpa using hp
  simp [results, hr, hp', asAddr, run_loadVar_row w g 33 33 _ (0, 0) _ H Try.underlying33 rfl (by kernel_rfl), dnV]
/-- A slice value that leads to rows as they lie. -/
def TabV (w : World) (v : Value) (l : List DnV) : Prop :=
  ∃ ao cap, v = .slice ao l.length cap ∧ l.length ≤ cap ∧ cap ≤ maxLen ∧ (0 < l.length → ∃ b off, ao = some ⟨b, off, none⟩ ∧ b < w.heap.size ∧ ∀ i, i < l.length → DnAt w b (off + i * 11) (det l i))
theorem TabV.next {w w' : World} {v : Value} {l : List DnV} (h : TabV w v l) (hb : Below w.heap.size w w') : TabV w' v l := by
  obtain ⟨ao, cap, e, h1, h2, h3⟩ := h
  refine ⟨ao, cap, e, h1, h2, fun hp => ?_⟩
  obtain ⟨b, off, e2, h4, h5⟩ := h3 hp
  exact ⟨b, off, e2, Nat.lt_of_lt_of_le h4 hb.size, fun i hi => (h5 i hi).next hb h4⟩
/-- A slice value that leads to a table. -/
def Tab (w : World) (v : Value) (l : List Dn) : Prop := ∃ es : List DnV, TabV w v es ∧ es.map Prod.fst = l
theorem Tab.next {w w' : World} {v : Value} {l : List Dn} (h : Tab w v l) (hb : Below w.heap.size w w') : Tab w' v l := by
  obtain ⟨es, h1, h2⟩ := h
  exact ⟨es, h1.next hb, h2⟩
theorem tab_nil (w : World) : Tab w (.slice none 0 0) [] := ⟨[], ⟨none, 0, rfl, Nat.le_refl _, by unfold maxLen; omega, fun hp => absurd hp (Nat.lt_irrefl _)⟩, rfl⟩
theorem Tab.opened {w : World} {v : Value} {l : List Dn} (h : Tab w v l) : ∃ ao n cap es, v = .slice ao n cap ∧ l.length = n ∧ n ≤ cap ∧ cap ≤ maxLen ∧ n ≤ 9223372036854775807 ∧
    (0 < n → ∃ b off, ao = some ⟨b, off, none⟩ ∧ b < w.heap.size ∧ ∀ i, i < n → DnAt w b (off + i * 11) (det es i)) ∧ es.map Prod.fst = l := by
  obtain ⟨es, ⟨ao, cap, rfl, h1, h2, h3⟩, rfl⟩ := h
  have : maxLen ≤ 9223372036854775807 := by decide
  exact ⟨ao, es.length, cap, es, rfl, List.length_map .., h1, h2, by omega, h3, rfl⟩
theorem tab_slice {w : World} {v : Value} {l : List Dn} (h : Tab w v l) : ∃ ao cap, v = .slice ao l.length cap := by
  obtain ⟨es, ⟨ao, cap, rfl, _⟩, rfl⟩ := h
  exact ⟨ao, cap, by rw [List.length_map]⟩
/-- One row in a block of its own, as a slice. -/
theorem tab_lit {w : World} {g : Nat} {d : DnV} (H : DBox w g d) : Tab w (.slice (some ⟨g, 0, none⟩) 1 1) [d.1] :=
  ⟨[d], ⟨_, 1, rfl, Nat.le_refl _, by unfold maxLen; omega, fun _ => ⟨g, 0, rfl, H.lt, fun i hi => by
    obtain rfl : i = 0 := by simpa using hi
    exact H.at⟩⟩, rfl⟩

/-! ### Tables of one's own -/
def OwnsD (w : World) (base : Nat) (v : Value) (l : List DnV) : Prop := w.ownsRow base 33 11 v l.length (dnsC l)
theorem OwnsD.nil (w : World) (base : Nat) : OwnsD w base (.slice none 0 0) [] := World.ownsRow_nil _ _ _ _
theorem OwnsD.next {w w' : World} {B : Nat} {v : Value} {l : List DnV} (h : OwnsD w B v l) (hb : Below w.heap.size w w') : OwnsD w' B v l := by
  obtain ⟨hl, h2⟩ := h
  refine ⟨hl, ?_⟩
  rcases h2 with h2 | ⟨g, cap, cur, e1, e2, e3, r⟩
  · exact .inl h2
  · refine .inr ⟨g, cap, cur, e1, e2, (hb.block g ?_).trans e3, r⟩
    rcases Nat.lt_or_ge g w.heap.size with h1 | h1
    · exact h1
    · rw [Array.getElem?_eq_none h1] at e3; cases e3
theorem OwnsD.mono {w : World} {B B' : Nat} {v : Value} {l : List DnV} (h : OwnsD w B v l) (hB : B' ≤ B) : OwnsD w B' v l := by
  obtain ⟨hl, h2⟩ := h
  refine ⟨hl, ?_⟩
  rcases h2 with h2 | ⟨g, cap, cur, e1, e2, r⟩
  · exact .inl h2
  · exact .inr ⟨g, cap, cur, e1, by omega, r⟩
theorem OwnsD.tab {w : World} {B : Nat} {v : Value} {l : List DnV} (h : OwnsD w B v l) : TabV w v l := by
  have h' : w.ownsRow B 33 11 v l.length (dnsC l) := h
  rcases h'.2 with ⟨e, hn⟩ | ⟨g, cap, cur, e, hB, hg, hc, hm, hsz, htk⟩
  · exact ⟨none, 0, by rw [e, hn], by omega, by unfold maxLen; omega, fun hp => by omega⟩
  · have hgl : g < w.heap.size := by
      rcases Nat.lt_or_ge g w.heap.size with h1 | h1
      · exact h1
      · rw [Array.getElem?_eq_none h1] at hg; cases hg
    refine ⟨some ⟨g, 0, none⟩, cap, e, hc, hm, fun _ => ⟨g, 0, rfl, hgl, fun i hi => ?_⟩⟩
    have key : ∀ j, j < 11 → w.cell? ⟨g, 0 + i * 11 + j, none⟩ = (dnC (det l i))[j]? := by
      intro j hj
      have h1 := dnsC_at l i j hi hj
      rw [← htk, List.getElem?_take, if_pos (by omega)] at h1
      rw [← h1]
      simp [World.cell?, hg]
    exact ⟨key 0 (by omega), key 1 (by omega), key 2 (by omega), key 3 (by omega), key 4 (by omega), key 5 (by omega), key 6 (by omega), key 7 (by omega), key 8 (by omega), key 9 (by omega), key 10 (by omega)⟩
theorem OwnsD.block {w : World} {B : Nat} {v : Value} {l : List DnV} (h : OwnsD w B v l) : ∀ k, v.ownBlock = some k → B ≤ k ∧ ∃ cs, w.heap[k]? = some (.cells cs 33 (0, 0)) := by
  intro k hk
  rcases h.2 with ⟨rfl, _⟩ | ⟨g, cap, cur, rfl, hB, hg, _⟩
  · cases hk
  · simp only [Value.ownBlock, Option.some.injEq] at hk
    subst hk
    exact ⟨hB, cur, hg⟩
theorem own_tab {w : World} {B : Nat} {v : Value} {es : List DnV} {l : List Dn} (h : OwnsD w B v es) (hm : es.map Prod.fst = l) : Tab w v l := ⟨es, h.tab, hm⟩
theorem info_dn : (Try.prog.info? 33).map (fun i => (i.zero, i.size, i.bytes)) = some (some ((Go.Value.agg #[Go.Value.int Go.IntKind.i64 0, Go.Value.int Go.IntKind.i64 0, Go.Value.int Go.IntKind.i64 0, Go.Value.int Go.IntKind.i64 0, Go.Value.int Go.IntKind.i64 0, Go.Value.int Go.IntKind.i64 0, Go.Value.bool false, Go.Value.string (ByteArray.empty), Go.Value.slice none 0 0, Go.Value.string (ByteArray.empty), Go.Value.bool false])), 11, 120) := by kernel_rfl
theorem dn_new (w : World) (d : DnV) : ∀ j x, (dnC d)[j]? = some x → (w.alloc (.cells #[.int .i64 d.1.1, .int .i64 d.1.2.1, .int .i64 d.1.2.2.1, .int .i64 d.1.2.2.2.1.1, .int .i64 d.1.2.2.2.1.2.1, .int .i64 d.1.2.2.2.1.2.2, .bool d.1.2.2.2.2.1, .string d.1.2.2.2.2.2.1, .slice d.2.1 d.1.2.2.2.2.2.2.1 d.2.2, .string d.1.2.2.2.2.2.2.2.1, .bool d.1.2.2.2.2.2.2.2.2] 33)).cell? ((⟨w.heap.size, 0, none⟩ : Addr).add j) = some x := by
  have H := (DBox.new w d).at
  intro j x hj
  have hj2 : j < 11 := by
    rcases Nat.lt_or_ge j 11 with h | h
    · exact h
    · rw [List.getElem?_eq_none (by simpa [dnC] using h)] at hj; cases hj
  rw [Addr.add_lit]
  obtain ⟨h0, h1, h2, h3, h4, h5, h6, h7, h8, h9, h10⟩ := H
  have hjs : j = 0 ∨ j = 1 ∨ j = 2 ∨ j = 3 ∨ j = 4 ∨ j = 5 ∨ j = 6 ∨ j = 7 ∨ j = 8 ∨ j = 9 ∨ j = 10 := by omega
  rcases hjs with rfl | rfl | rfl | rfl | rfl | rfl | rfl | rfl | rfl | rfl | rfl <;> (simp [dnC] at hj; subst hj; assumption)

/-! ### Answers -/
/-- The block h holds an answer. -/
def ABox (w : World) (h : Nat) (e x y z : Int) (f : Bool) (v : ByteArray) (ao : Option Addr) (n cap : Nat) (nx : ByteArray) (m : Bool) : Prop := w.heap[h]? = some (.cells #[Go.Value.int Go.IntKind.i64 e, Go.Value.int Go.IntKind.i64 x, Go.Value.int Go.IntKind.i64 y, Go.Value.int Go.IntKind.i64 z, Go.Value.bool f, Go.Value.string v, Go.Value.slice ao n cap, Go.Value.string nx, Go.Value.bool m] 31 (0, 0))
section
variable {w w' : World} {h B : Nat} {e x y z : Int} {f : Bool} {v : ByteArray} {ao : Option Addr} {n cap : Nat} {nx : ByteArray} {m : Bool}
theorem ABox.lt (H : ABox w h e x y z f v ao n cap nx m) : h < w.heap.size := by
  rcases Nat.lt_or_ge h w.heap.size with h1 | h1
  · exact h1
  · unfold ABox at H; rw [Array.getElem?_eq_none h1] at H; cases H
theorem ABox.next (H : ABox w h e x y z f v ao n cap nx m) (hb : Below B w w') (hB : h < B) : ABox w' h e x y z f v ao n cap nx m := (hb.block h hB).trans H
theorem ABox.over (H : ABox w h e x y z f v ao n cap nx m) (hb : Below w.heap.size w w') : ABox w' h e x y z f v ao n cap nx m := H.next hb H.lt
theorem ABox.cell (H : ABox w h e x y z f v ao n cap nx m) : w.cell? ⟨h, 0, none⟩ = some (.int .i64 e) ∧ w.cell? ⟨h, 1, none⟩ = some (.int .i64 x) ∧ w.cell? ⟨h, 2, none⟩ = some (.int .i64 y) ∧ w.cell? ⟨h, 3, none⟩ = some (.int .i64 z) ∧ w.cell? ⟨h, 4, none⟩ = some (.bool f) ∧ w.cell? ⟨h, 5, none⟩ = some (.string v) ∧ w.cell? ⟨h, 6, none⟩ = some (.slice ao n cap) ∧ w.cell? ⟨h, 7, none⟩ = some (.string nx) ∧ w.cell? ⟨h, 8, none⟩ = some (.bool m) := by
  unfold ABox at H
  refine ⟨?_, ?_, ?_, ?_, ?_, ?_, ?_, ?_, ?_⟩ <;> simp [World.cell?, H]
end
theorem ABox.new (w : World) (e x y z : Int) (f : Bool) (v : ByteArray) (ao : Option Addr) (n cap : Nat) (nx : ByteArray) (m : Bool) : ABox (w.alloc (.cells #[Go.Value.int Go.IntKind.i64 e, Go.Value.int Go.IntKind.i64 x, Go.Value.int Go.IntKind.i64 y, Go.Value.int Go.IntKind.i64 z, Go.Value.bool f, Go.Value.string v, Go.Value.slice ao n cap, Go.Value.string nx, Go.Value.bool m] 31)) w.heap.size e x y z f v ao n cap nx m := by
  show (w.heap.push _)[w.heap.size]? = _
  simp

end Go.Proofs.Ytdiabcdpnbhibaa
