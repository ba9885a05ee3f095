/-
  Merged texts, in build order: IxPlain SmRight SmBox VrBox VrOne SmOr SmCmp SmCompare SmCalm VrFollows VrRight VrFind VrAt VrClone.
-/
import Derived.Test.YtkmmifonandkoaaDoorG01
import Derived.Test.YtkmmifonandkoaaDoorG02
import Derived.Laws.Rows
import Derived.Laws.Tables
import Derived.Laws.CopyOwn
import Derived.StillTailTactics
import Derived.Deep.DeepCutAuto
import Derived.Lib.SliceRun
import Derived.Lib.BufferMore
import Derived.OwnWalk
import Derived.Laws.AppendOwn

/-
  Plain facts on indexes: which are right, where a key stands, putting, pages, cutting, joining. No program, no walk.
-/
set_option linter.unusedVariables false
namespace Go.Proofs.YtkmmifonandkoaaDoor
open Go.RowKit

/-- An entry: a key and its chain. -/
abbrev Ent := ByteArray × List Ver
def ent0 : Ent := ({ data := #[] }, [])
def lat (l : List Ent) (i : Nat) : Ent := l.getD i ent0
/-- Does a text stand ahead of another? -/
def ltB (a b : ByteArray) : Bool := decide (Ky.compare a b < 0)
theorem cmp_neg' (a b : ByteArray) : Ky.compare b a = - Ky.compare a b := Ky.cmpL_neg _ _
theorem cmp_self (a : ByteArray) : Ky.compare a a = 0 := Ky.cmpL_self _
theorem cmp_in (a b : ByteArray) : Ky.compare a b = -1 ∨ Ky.compare a b = 0 ∨ Ky.compare a b = 1 := Ky.cmpL_range _ _
theorem cmp_trans {a b c : ByteArray} (h : Ky.compare a b ≤ 0) (h2 : Ky.compare b c ≤ 0) : Ky.compare a c ≤ 0 := Ky.cmpL_trans _ _ _ h h2
theorem cmp_zero {a b c : ByteArray} (h : Ky.compare a b = 0) : Ky.compare a c = Ky.compare b c ∧ Ky.compare c a = Ky.compare c b := by
  have e : Ky.codes a 0 = Ky.codes b 0 := Ky.cmpL_zero _ _ h
  unfold Ky.compare
  rw [e]
  exact ⟨rfl, rfl⟩
theorem lt_le {a b c : ByteArray} (h : Ky.compare a b < 0) (h2 : Ky.compare b c ≤ 0) : Ky.compare a c < 0 := by
  have h3 := cmp_trans (Int.le_of_lt h) h2
  rcases cmp_in a c with h4 | h4 | h4
  · omega
  · have h5 := (cmp_zero (c := b) h4).1
    have h6 := cmp_neg' b c
    omega
  · omega
theorem le_lt {a b c : ByteArray} (h : Ky.compare a b ≤ 0) (h2 : Ky.compare b c < 0) : Ky.compare a c < 0 := by
  have h3 := cmp_trans h (Int.le_of_lt h2)
  rcases cmp_in a c with h4 | h4 | h4
  · omega
  · have h5 := (cmp_zero (c := b) h4).2
    have h6 := cmp_neg' a b
    have h7 := cmp_neg' c b
    have h8 := cmp_neg' b c
    omega
  · omega
/-- Does a text lie in lo to hi? -/
def inR (k lo hi : ByteArray) : Bool := decide (0 ≤ Ky.compare k lo) && (decide (hi.size = 0) || decide (Ky.compare k hi < 0))
/-- The i-th entry is right, and behind the one ahead. -/
def entB (l : List Ent) (i : Nat) : Bool := (Ky.right (lat l i).1 && (decide (0 < (lat l i).2.length) && rightC (lat l i).2)) && (decide (i = 0) || ltB (lat l (i - 1)).1 (lat l i).1)
/-- Is an index valid? -/
def rightI (l : List Ent) : Bool := decide (l.length ≤ 64 ∧ ∀ i, i < l.length → entB l i = true)
theorem rightI_yes {l : List Ent} (h1 : l.length ≤ 64) (h2 : ∀ i, i < l.length → entB l i = true) : rightI l = true := by unfold rightI; exact decide_eq_true ⟨h1, h2⟩
theorem rightI_long {l : List Ent} (h : ¬ l.length ≤ 64) : rightI l = false := by unfold rightI; exact decide_eq_false fun h2 => h h2.1
theorem rightI_at {l : List Ent} {i : Nat} (hi : i < l.length) (h : entB l i = false) : rightI l = false := by
  unfold rightI; exact decide_eq_false fun h2 => by rw [h2.2 i hi] at h; cases h
theorem rightI_spec {l : List Ent} (h : rightI l = true) : l.length ≤ 64 ∧ ∀ i, i < l.length → entB l i = true := by unfold rightI at h; exact of_decide_eq_true h
theorem ent_spec {l : List Ent} (h : rightI l = true) {i : Nat} (hi : i < l.length) : Ky.right (lat l i).1 = true ∧ 0 < (lat l i).2.length ∧ rightC (lat l i).2 = true ∧ (0 < i → Ky.compare (lat l (i - 1)).1 (lat l i).1 < 0) := by
  have h2 := (rightI_spec h).2 i hi
  simp only [entB, ltB, Bool.and_eq_true, Bool.or_eq_true, decide_eq_true_eq] at h2
  refine ⟨h2.1.1, h2.1.2.1, h2.1.2.2, fun h0 => ?_⟩
  rcases h2.2 with h3 | h3
  · omega
  · exact h3
theorem ent_ok {l : List Ent} {i : Nat} (h1 : Ky.right (lat l i).1 = true) (h2 : 0 < (lat l i).2.length) (h3 : rightC (lat l i).2 = true) (h4 : 0 < i → Ky.compare (lat l (i - 1)).1 (lat l i).1 < 0) : entB l i = true := by
  simp only [entB, ltB, Bool.and_eq_true, Bool.or_eq_true, decide_eq_true_eq]
  refine ⟨⟨h1, h2, h3⟩, ?_⟩
  by_cases h0 : i = 0
  · exact .inl h0
  · exact .inr (h4 (by omega))
theorem key_step {l : List Ent} (h : rightI l = true) : ∀ (d i : Nat), i + d + 1 < l.length → Ky.compare (lat l i).1 (lat l (i + d + 1)).1 < 0 := by
  intro d
  induction d with
  | zero => intro i hi; exact (ent_spec h (i := i + 1) hi).2.2.2 (by omega)
  | succ d ih => intro i hi; exact lt_le (ih i (by omega)) (Int.le_of_lt ((ent_spec h (i := i + d + 1 + 1) hi).2.2.2 (by omega)))
theorem key_lt {l : List Ent} (h : rightI l = true) {i j : Nat} (hij : i < j) (hj : j < l.length) : Ky.compare (lat l i).1 (lat l j).1 < 0 := by
  have := key_step h (j - i - 1) i (by omega)
  rwa [show i + (j - i - 1) + 1 = j by omega] at this
theorem key_same {a b : ByteArray} (ha : Ky.right a = true) (hb : Ky.right b = true) (h : Ky.compare a b = 0) : a = b := Ky.same_bytes a b (Ky.right_pl a ha).1 (Ky.right_pl b hb).1 h

/-! ### Where a key stands -/
/-- So many entries stand ahead of a text. -/
def IsPos (l : List Ent) (k : ByteArray) (n : Nat) : Prop := n ≤ l.length ∧ (∀ i, i < n → Ky.compare (lat l i).1 k < 0) ∧ (∀ i, n ≤ i → i < l.length → 0 ≤ Ky.compare (lat l i).1 k)
theorem pos_ex {l : List Ent} (h : rightI l = true) (k : ByteArray) : ∃ n, IsPos l k n := by
  have key : ∀ m, m ≤ l.length → ∃ n, n ≤ m ∧ (∀ i, i < n → Ky.compare (lat l i).1 k < 0) ∧ (∀ i, n ≤ i → i < m → 0 ≤ Ky.compare (lat l i).1 k) := by
    intro m
    induction m with
    | zero => intro _; exact ⟨0, Nat.le_refl _, fun i hi => absurd hi (Nat.not_lt_zero _), fun i _ hi => absurd hi (Nat.not_lt_zero _)⟩
    | succ m ih =>
      intro hm
      obtain ⟨n, h1, h2, h3⟩ := ih (by omega)
      by_cases hn : n < m
      · refine ⟨n, by omega, h2, fun i hi him => ?_⟩
        by_cases him2 : i < m
        · exact h3 i hi him2
        · obtain rfl : i = m := by omega
          have h4 := h3 n (Nat.le_refl _) hn
          have h5 := key_lt h hn hm
          rcases Int.lt_or_le (Ky.compare (lat l i).1 k) 0 with h6 | h6
          · have h7 := lt_le h5 (Int.le_of_lt h6)
            omega
          · exact h6
      · obtain rfl : n = m := by omega
        rcases Int.lt_or_le (Ky.compare (lat l n).1 k) 0 with hb | hb
        · refine ⟨n + 1, Nat.le_refl _, fun i hi => ?_, fun i hi him => by omega⟩
          by_cases him2 : i < n
          · exact h2 i him2
          · obtain rfl : i = n := by omega
            exact hb
        · refine ⟨n, by omega, h2, fun i hi him => ?_⟩
          obtain rfl : i = n := by omega
          exact hb
  exact key l.length (Nat.le_refl _)
theorem pos_one {l : List Ent} {k : ByteArray} {n m : Nat} (h : IsPos l k n) (h2 : IsPos l k m) : n = m := by
  rcases Nat.lt_trichotomy n m with hlt | he | hlt
  · have h3 := h.2.2 n (Nat.le_refl _) (by have := h2.1; omega)
    have := h2.2.1 n hlt
    omega
  · exact he
  · have h3 := h2.2.2 m (Nat.le_refl _) (by have := h.1; omega)
    have := h.2.1 m hlt
    omega
/-- Is it there? -/
def thereB (l : List Ent) (k : ByteArray) (n : Nat) : Bool := decide (n < l.length ∧ (lat l n).1 = k)
/-- A key's chain. -/
def chainOf (l : List Ent) (k : ByteArray) (n : Nat) : List Ver := if thereB l k n then (lat l n).2 else []
theorem there_yes {l : List Ent} {k : ByteArray} {n : Nat} (h : thereB l k n = true) : n < l.length ∧ (lat l n).1 = k := by unfold thereB at h; exact of_decide_eq_true h
theorem there_no {l : List Ent} {k : ByteArray} {n : Nat} (h : thereB l k n = false) (h2 : n < l.length) : ¬ (lat l n).1 = k := by
  unfold thereB at h
  exact fun e => of_decide_eq_false h ⟨h2, e⟩
/-- Only at its place does a key lie. -/
theorem only_there {l : List Ent} {k : ByteArray} {n i : Nat} (h : rightI l = true) (hp : IsPos l k n) (hi : i < l.length) (he : (lat l i).1 = k) : i = n ∧ thereB l k n = true := by
  have h1 : i = n := by
    have h2 : Ky.compare (lat l i).1 k = 0 := by rw [he]; exact cmp_self _
    rcases Nat.lt_trichotomy i n with hlt | e | hlt
    · have := hp.2.1 i hlt; omega
    · exact e
    · have h3 := key_lt h hlt hi
      rw [he] at h3
      have h4 := hp.2.2 n (Nat.le_refl _) (by omega)
      omega
  subst h1
  exact ⟨rfl, by unfold thereB; exact decide_eq_true ⟨hi, he⟩⟩

end Go.Proofs.YtkmmifonandkoaaDoor

/-
  The contract of stamp.Right.
-/
set_option linter.unusedVariables false
namespace Go.Proofs.YtkmmifonandkoaaDoor
open Go.RowKit

set_option maxRecDepth 100000 in
set_option maxHeartbeats 400000 in
theorem within_any (n m : Int) (w : World) : Calls Tryd.prog 81 #[.int .i64 n, .int .i64 m] w fun e w' => e = .returned (.bool (inB n m)) ∧ w' = w := by
  by_cases h : 0 ≤ n
  · by_cases h2 : n ≤ m
    · have HE := Lib.hid (inB_yes ⟨h, h2⟩)
      go_enter Tryd.func81, Tryd.ntmps81
      go_wp2_with fail
      go_ret
      exact ⟨by rw [HE.out]; rfl, rfl⟩
    · have HE := Lib.hid (inB_no (n := n) (m := m) (by omega))
      have h3 : decide (n ≤ m) = false := by simpa using h2
      go_enter Tryd.func81, Tryd.ntmps81
      go_wp2_with fail
      go_ret
      exact ⟨by rw [HE.out]; rfl, rfl⟩
  · have HE := Lib.hid (inB_no (n := n) (m := m) (by omega))
    have h3 : decide (0 ≤ n) = false := by simpa using h
    go_enter Tryd.func81, Tryd.ntmps81
    go_wp2_with fail
    go_ret
    exact ⟨by rw [HE.out]; rfl, rfl⟩

set_option maxRecDepth 100000 in
set_option maxHeartbeats 400000 in
theorem Right_any (a b c : Int) (w : World) : Calls Tryd.prog 75 #[(Go.Value.agg #[Go.Value.int Go.IntKind.i64 a, Go.Value.int Go.IntKind.i64 b, Go.Value.int Go.IntKind.i64 c])] w fun e w' => e = .returned (.bool (rightB a b c)) ∧ Below w.heap.size w w' := by
  have HE : Hid (rightB a b c = (inB a 1099511627776 && (inB b 1048576 && inB c 255))) := rfl
  cases h1 : inB a 1099511627776
  · go_enter Tryd.func75, Tryd.ntmps75
    go_wp2_with (go_at_call 81; refine (within_any _ _ _).mono ?_; rintro e w1 ⟨rfl, rfl⟩)
    go_ret
    exact ⟨by rw [HE.out, h1]; rfl, (Below.refl _ _).alloc (Nat.le_refl _) _⟩
  · cases h2 : inB b 1048576
    · go_enter Tryd.func75, Tryd.ntmps75
      go_wp2_with (go_at_call 81; refine (within_any _ _ _).mono ?_; rintro e w1 ⟨rfl, rfl⟩)
      go_ret
      exact ⟨by rw [HE.out, h1, h2]; rfl, (Below.refl _ _).alloc (Nat.le_refl _) _⟩
    · cases h3 : inB c 255
      all_goals
        go_enter Tryd.func75, Tryd.ntmps75
        go_wp2_with (go_at_call 81; refine (within_any _ _ _).mono ?_; rintro e w1 ⟨rfl, rfl⟩)
        go_ret
        exact ⟨by rw [HE.out, h1, h2, h3]; rfl, (Below.refl _ _).alloc (Nat.le_refl _) _⟩


end Go.Proofs.YtkmmifonandkoaaDoor

/-
  Stamps that lie in memory: blocks of three numbers, what reading and writing them does, and results that lie so.
-/
set_option linter.unusedVariables false
namespace Go.Proofs.YtkmmifonandkoaaDoor
open Go.RowKit

/-- The block h holds a stamp. -/
def Box (w : World) (h : Nat) (a b c : Int) : Prop := w.heap[h]? = some (.cells #[.int .i64 a, .int .i64 b, .int .i64 c] 24 (0, 0))
theorem Box.lt {w : World} {h : Nat} {a b c : Int} (H : Box w h a b c) : h < w.heap.size := by
  rcases Nat.lt_or_ge h w.heap.size with h1 | h1
  · exact h1
  · unfold Box at H; rw [Array.getElem?_eq_none h1] at H; cases H
theorem size_alloc (w : World) (o : Obj) : (w.alloc o).heap.size = w.heap.size + 1 := by simp
theorem Box.new (w : World) (a b c : Int) : Box (w.alloc (.cells #[.int .i64 a, .int .i64 b, .int .i64 c] 24)) w.heap.size a b c := by
  show (w.heap.push _)[w.heap.size]? = _
  simp
theorem Box.next {w w' : World} {B h : Nat} {a b c : Int} (H : Box w h a b c) (hb : Below B w w') (hB : h < B) : Box w' h a b c := (hb.block h hB).trans H
theorem Box.over {w w' : World} {h : Nat} {a b c : Int} (H : Box w h a b c) (hb : Below w.heap.size w w') : Box w' h a b c := H.next hb H.lt
theorem Box.alloc {w : World} {h : Nat} {a b c : Int} (H : Box w h a b c) (o : Obj) : Box (w.alloc o) h a b c := H.next ((Below.refl w.heap.size w).alloc (Nat.le_refl _) o) H.lt
theorem Box.drew {w : World} {h : Nat} {a b c : Int} (H : Box w h a b c) : Box w.drew h a b c := H
theorem Box.set {w : World} {h : Nat} {a b c : Int} (H : Box w h a b c) (x y z : Int) : Box (w.setRow h #[.int .i64 x, .int .i64 y, .int .i64 z]) h x y z := setRow_heap w h _ _ _ _ H
theorem Box.other {w : World} {h g : Nat} {a b c : Int} (H : Box w h a b c) (cs : Array Value) (hne : h ≠ g) : Box (w.setRow g cs) h a b c := (setRow_other w g h cs hne).trans H
theorem Box.cell {w : World} {h : Nat} {a b c : Int} (H : Box w h a b c) : w.cell? ⟨h, 0, none⟩ = some (.int .i64 a) ∧ w.cell? ⟨h, 1, none⟩ = some (.int .i64 b) ∧ w.cell? ⟨h, 2, none⟩ = some (.int .i64 c) := by
  unfold Box at H
  refine ⟨?_, ?_, ?_⟩ <;> simp [World.cell?, H]
theorem box_load {ops : Array Oper} {rest : List Oper} {o : Oper} {a : Act} {w : World} {Q : Exit → Act → World → Prop} {x y z : Int} (g : Nat) (H : Box w g x y z) (hgd : o.guard = none) (p : Operand) (ho : o.op = .load 24 p) (hx : a.eval p = .pointer (some ⟨g, 0, none⟩))
    (h : wpList Tryd.prog ops Q rest (a.put o.dst (Go.Value.agg #[Go.Value.int Go.IntKind.i64 x, Go.Value.int Go.IntKind.i64 y, Go.Value.int Go.IntKind.i64 z])) w) : wpList Tryd.prog ops Q (o :: rest) a w :=
  wpList_load_row hgd 24 p ho g hx 24 _ (0, 0) _ H Tryd.underlying24 rfl (by kernel_rfl) h
theorem box_store {ops : Array Oper} {rest : List Oper} {o : Oper} {a : Act} {w : World} {Q : Exit → Act → World → Prop} {x y z x' y' z' : Int} (g : Nat) (H : Box w g x y z) (hgd : o.guard = none) (p q : Operand) (ho : o.op = .store 24 p q) (hx : a.eval p = .pointer (some ⟨g, 0, none⟩)) (hy : a.eval q = (Go.Value.agg #[Go.Value.int Go.IntKind.i64 x', Go.Value.int Go.IntKind.i64 y', Go.Value.int Go.IntKind.i64 z']))
    (h : wpList Tryd.prog ops Q rest (a.put o.dst undef) (w.setRow g #[.int .i64 x', .int .i64 y', .int .i64 z'])) : wpList Tryd.prog ops Q (o :: rest) a w :=
  wpList_store_row hgd 24 p q ho g _ hx hy 24 _ H (by kernel_rfl) rfl (by simp [Value.oneCell']) h
theorem box_result {fn : Func} {p : Tmp} {x y z : Int} (hr : fn.results = #[.cell p 24]) (tmps : Array Value) (w : World) (g : Nat) (hp : tmps.getD p undef = .pointer (some ⟨g, 0, none⟩)) (H : Box w g x y z) :
    (results fn tmps).run Tryd.prog w = .ok (Go.Value.agg #[Go.Value.int Go.IntKind.i64 x, Go.Value.int Go.IntKind.i64 y, Go.Value.int Go.IntKind.i64 z]) w :=
  results_cell_row hr tmps w g 24 _ (0, 0) _ hp H Tryd.underlying24 rfl (by kernel_rfl)
theorem box_result2 {fn : Func} {p q : Tmp} {x y z : Int} (hr : fn.results = #[.cell p 24, .tmp q]) (tmps : Array Value) (w : World) (g : Nat) (hp : tmps.getD p undef = .pointer (some ⟨g, 0, none⟩)) (H : Box w g x y z) :
    (results fn tmps).run Tryd.prog w = .ok (.tuple #[(Go.Value.agg #[Go.Value.int Go.IntKind.i64 x, Go.Value.int Go.IntKind.i64 y, Go.Value.int Go.IntKind.i64 z]), tmps.getD q undef]) w := by
  have hp' : tmps[p]?.getD undef = .pointer (some ⟨g, 0, none⟩) := by simpa using hp
  simp [results, hr, hp', asAddr, run_loadVar_row w g 24 24 _ (0, 0) _ H Tryd.underlying24 rfl (by kernel_rfl)]
theorem box_result3 {fn : Func} {p q r : Tmp} {x y z : Int} (hr : fn.results = #[.cell p 24, .tmp q, .tmp r]) (tmps : Array Value) (w : World) (g : Nat) (hp : tmps.getD p undef = .pointer (some ⟨g, 0, none⟩)) (H : Box w g x y z) :
    (results fn tmps).run Tryd.prog w = .ok (.tuple #[(Go.Value.agg #[Go.Value.int Go.IntKind.i64 x, Go.Value.int Go.IntKind.i64 y, Go.Value.int Go.IntKind.i64 z]), tmps.getD q undef, tmps.getD r undef]) w := by
  have hp' : tmps[p]?.getD undef = .pointer (some ⟨g, 0, none⟩) := by simpa using hp
  simp [results, hr, hp', asAddr, run_loadVar_row w g 24 24 _ (0, 0) _ H Tryd.underlying24 rfl (by kernel_rfl)]
/-- The block that a function on a stamp lays first. -/
def W1 (w : World) (a b c : Int) : World := w.alloc (.cells #[.int .i64 a, .int .i64 b, .int .i64 c] 24)
theorem W1_next {w w1 : World} {a b c : Int} (hb : Below (W1 w a b c).heap.size (W1 w a b c) w1) : Box w1 w.heap.size a b c ∧ Below w.heap.size w w1 :=
  ⟨(Box.new w a b c).over hb, ((Below.refl w.heap.size w).alloc (Nat.le_refl _) _).trans (hb.mono (by simp [W1]))⟩

end Go.Proofs.YtkmmifonandkoaaDoor

/-
  Versions that lie in memory: blocks of five cells, what reading and writing them does, and results that lie so; versions in a row.
-/
set_option linter.unusedVariables false
namespace Go.Proofs.YtkmmifonandkoaaDoor
open Go.RowKit

/-- The block h holds a version. -/
def VBox (w : World) (h : Nat) (a b c : Int) (g : Bool) (s : ByteArray) : Prop := w.heap[h]? = some (.cells #[.int .i64 a, .int .i64 b, .int .i64 c, .bool g, .string s] 26 (0, 0))
theorem VBox.lt {w : World} {h : Nat} {a b c : Int} {g : Bool} {s : ByteArray} (H : VBox w h a b c g s) : h < w.heap.size := by
  rcases Nat.lt_or_ge h w.heap.size with h1 | h1
  · exact h1
  · unfold VBox at H; rw [Array.getElem?_eq_none h1] at H; cases H
theorem VBox.new (w : World) (a b c : Int) (g : Bool) (s : ByteArray) : VBox (w.alloc (.cells #[.int .i64 a, .int .i64 b, .int .i64 c, .bool g, .string s] 26)) w.heap.size a b c g s := by
  show (w.heap.push _)[w.heap.size]? = _
  simp
theorem VBox.next {w w' : World} {B h : Nat} {a b c : Int} {g : Bool} {s : ByteArray} (H : VBox w h a b c g s) (hb : Below B w w') (hB : h < B) : VBox w' h a b c g s := (hb.block h hB).trans H
theorem VBox.over {w w' : World} {h : Nat} {a b c : Int} {g : Bool} {s : ByteArray} (H : VBox w h a b c g s) (hb : Below w.heap.size w w') : VBox w' h a b c g s := H.next hb H.lt
theorem VBox.alloc {w : World} {h : Nat} {a b c : Int} {g : Bool} {s : ByteArray} (H : VBox w h a b c g s) (o : Obj) : VBox (w.alloc o) h a b c g s := H.next ((Below.refl w.heap.size w).alloc (Nat.le_refl _) o) H.lt
theorem VBox.drew {w : World} {h : Nat} {a b c : Int} {g : Bool} {s : ByteArray} (H : VBox w h a b c g s) : VBox w.drew h a b c g s := H
theorem VBox.set {w : World} {h : Nat} {a b c : Int} {g : Bool} {s : ByteArray} (H : VBox w h a b c g s) (x y z : Int) (k : Bool) (t : ByteArray) : VBox (w.setRow h #[.int .i64 x, .int .i64 y, .int .i64 z, .bool k, .string t]) h x y z k t := setRow_heap w h _ _ _ _ H
theorem VBox.other {w : World} {h i : Nat} {a b c : Int} {g : Bool} {s : ByteArray} (H : VBox w h a b c g s) (cs : Array Value) (hne : h ≠ i) : VBox (w.setRow i cs) h a b c g s := (setRow_other w i h cs hne).trans H
theorem VBox.cell {w : World} {h : Nat} {a b c : Int} {g : Bool} {s : ByteArray} (H : VBox w h a b c g s) : w.cell? ⟨h, 0, none⟩ = some (.int .i64 a) ∧ w.cell? ⟨h, 1, none⟩ = some (.int .i64 b) ∧ w.cell? ⟨h, 2, none⟩ = some (.int .i64 c) ∧ w.cell? ⟨h, 3, none⟩ = some (.bool g) ∧ w.cell? ⟨h, 4, none⟩ = some (.string s) := by
  unfold VBox at H
  refine ⟨?_, ?_, ?_, ?_, ?_⟩ <;> simp [World.cell?, H]
theorem VBox.frozen {w : World} {h : Nat} {a b c : Int} {g : Bool} {s : ByteArray} (H : VBox w h a b c g s) (i : Nat) : w.frozen? ⟨h, i, none⟩ = false := by
  unfold VBox at H
  simp [World.frozen?, H]
theorem vbox_load {ops : Array Oper} {rest : List Oper} {o : Oper} {a : Act} {w : World} {Q : Exit → Act → World → Prop} {x y z : Int} {k : Bool} {t : ByteArray} (g : Nat) (H : VBox w g x y z k t) (hgd : o.guard = none) (p : Operand) (ho : o.op = .load 26 p) (hx : a.eval p = .pointer (some ⟨g, 0, none⟩))
    (h : wpList Tryd.prog ops Q rest (a.put o.dst (Go.Value.agg #[Go.Value.int Go.IntKind.i64 x, Go.Value.int Go.IntKind.i64 y, Go.Value.int Go.IntKind.i64 z, Go.Value.bool k, Go.Value.string t])) w) : wpList Tryd.prog ops Q (o :: rest) a w :=
  wpList_load_row hgd 26 p ho g hx 26 _ (0, 0) _ H Tryd.underlying26 rfl (by kernel_rfl) h
theorem vbox_store {ops : Array Oper} {rest : List Oper} {o : Oper} {a : Act} {w : World} {Q : Exit → Act → World → Prop} {x y z x' y' z' : Int} {k k' : Bool} {t t' : ByteArray} (g : Nat) (H : VBox w g x y z k t) (hgd : o.guard = none) (p q : Operand) (ho : o.op = .store 26 p q) (hx : a.eval p = .pointer (some ⟨g, 0, none⟩)) (hy : a.eval q = (Go.Value.agg #[Go.Value.int Go.IntKind.i64 x', Go.Value.int Go.IntKind.i64 y', Go.Value.int Go.IntKind.i64 z', Go.Value.bool k', Go.Value.string t']))
    (h : wpList Tryd.prog ops Q rest (a.put o.dst undef) (w.setRow g #[.int .i64 x', .int .i64 y', .int .i64 z', .bool k', .string t'])) : wpList Tryd.prog ops Q (o :: rest) a w :=
  wpList_store_row hgd 26 p q ho g _ hx hy 26 _ H (by kernel_rfl) rfl (by simp [Value.oneCell']) h
theorem vbox_result2 {fn : Func} {p q : Tmp} {x y z : Int} {k : Bool} {t : ByteArray} (hr : fn.results = #[.cell p 26, .tmp q]) (tmps : Array Value) (w : World) (g : Nat) (hp : tmps.getD p undef = .pointer (some ⟨g, 0, none⟩)) (H : VBox w g x y z k t) :
    (results fn tmps).run Tryd.prog w = .ok (.tuple #[(Go.Value.agg #[Go.Value.int Go.IntKind.i64 x, Go.Value.int Go.IntKind.i64 y, Go.Value.int Go.IntKind.i64 z, Go.Value.bool k, Go.Value.string t]), tmps.getD q undef]) w := by
  have hp' : tmps[p]?.getD undef = .pointer (some ⟨g, 0, none⟩) := by simpa using hp
  simp [results, hr, hp', asAddr, run_loadVar_row w g 26 26 _ (0, 0) _ H Tryd.underlying26 rfl (by kernel_rfl)]

/-- A version as a value; its cells. -/
def verV (v : Ver) : Value := (Go.Value.agg #[Go.Value.int Go.IntKind.i64 (v.1), Go.Value.int Go.IntKind.i64 (v.2.1), Go.Value.int Go.IntKind.i64 (v.2.2.1), Go.Value.bool (v.2.2.2.1), Go.Value.string (v.2.2.2.2)])
def verC (v : Ver) : List Value := [.int .i64 v.1, .int .i64 v.2.1, .int .i64 v.2.2.1, .bool v.2.2.2.1, .string v.2.2.2.2]
def versC (l : List Ver) : List Value := l.flatMap verC
theorem versC_len (l : List Ver) : (versC l).length = l.length * 5 := by
  induction l with
  | nil => rfl
  | cons v l ih => simp only [versC, List.flatMap_cons, List.length_append, List.length_cons] at *; rw [ih]; simp [verC]; omega
theorem versC_snoc (l : List Ver) (v : Ver) : versC l ++ verC v = versC (l ++ [v]) := by simp [versC]
theorem versC_at (l : List Ver) : ∀ (i j : Nat), i < l.length → j < 5 → (versC l)[i * 5 + j]? = (verC (vat l i))[j]? := by
  induction l with
  | nil => intro i j hi; exact absurd hi (Nat.not_lt_zero _)
  | cons v l ih =>
    intro i j hi hj
    have hv : (verC v).length = 5 := rfl
    cases i with
    | zero => simp only [versC, List.flatMap_cons, Nat.zero_mul, Nat.zero_add]; rw [List.getElem?_append_left (by omega)]; rfl
    | succ i =>
      have h2 := ih i j (by simpa using hi) hj
      simp only [versC, List.flatMap_cons] at *
      rw [List.getElem?_append_right (by omega), hv, show (i + 1) * 5 + j - 5 = i * 5 + j by omega, h2]
      simp [vat]
/-- The five cells of a version in a row. -/
def VerAt (W : World) (b o : Nat) (v : Ver) : Prop :=
  W.cell? ⟨b, o, none⟩ = some (.int .i64 v.1) ∧ W.cell? ⟨b, o + 1, none⟩ = some (.int .i64 v.2.1) ∧ W.cell? ⟨b, o + 2, none⟩ = some (.int .i64 v.2.2.1) ∧ W.cell? ⟨b, o + 3, none⟩ = some (.bool v.2.2.2.1) ∧ W.cell? ⟨b, o + 4, none⟩ = some (.string v.2.2.2.2)
theorem VerAt.next {B : Nat} {w w' : World} {b o : Nat} {v : Ver} (H : VerAt w b o v) (hb : Below B w w') (h : b < B) : VerAt w' b o v := by
  unfold VerAt
  rw [hb.cell (p := ⟨b, o, none⟩) h, hb.cell (p := ⟨b, o + 1, none⟩) h, hb.cell (p := ⟨b, o + 2, none⟩) h, hb.cell (p := ⟨b, o + 3, none⟩) h, hb.cell (p := ⟨b, o + 4, none⟩) h]
  exact H
/-- A slice value that leads to versions, wherever they lie. -/
def Vers (w : World) (v : Value) (l : List Ver) : Prop :=
  ∃ ao cap, v = .slice ao l.length cap ∧ l.length ≤ cap ∧ cap ≤ maxLen ∧ (0 < l.length → ∃ b off, ao = some ⟨b, off, none⟩ ∧ b < w.heap.size ∧ ∀ i, i < l.length → VerAt w b (off + i * 5) (vat l i))
theorem Vers.next {w w' : World} {v : Value} {l : List Ver} (h : Vers w v l) (hb : Below w.heap.size w w') : Vers w' v l := by
  obtain ⟨ao, cap, e, h1, h2, h3⟩ := h
  refine ⟨ao, cap, e, h1, h2, fun hp => ?_⟩
  obtain ⟨b, off, e2, h4, h5⟩ := h3 hp
  exact ⟨b, off, e2, Nat.lt_of_lt_of_le h4 hb.size, fun i hi => (h5 i hi).next hb h4⟩
/-- A slice value that owns versions. -/
def OwnsV (w : World) (base : Nat) (v : Value) (l : List Ver) : Prop := w.ownsRow base 26 5 v l.length (versC l)
theorem OwnsV.next {w w' : World} {B : Nat} {v : Value} {l : List Ver} (h : OwnsV w B v l) (hb : Below w.heap.size w w') : OwnsV w' B v l := by
  obtain ⟨hl, h2⟩ := h
  refine ⟨hl, ?_⟩
  rcases h2 with h2 | ⟨g, cap, cur, e1, e2, e3, r⟩
  · exact .inl h2
  · refine .inr ⟨g, cap, cur, e1, e2, (hb.block g ?_).trans e3, r⟩
    rcases Nat.lt_or_ge g w.heap.size with h1 | h1
    · exact h1
    · rw [Array.getElem?_eq_none h1] at e3; cases e3
theorem OwnsV.mono {w : World} {B B' : Nat} {v : Value} {l : List Ver} (h : OwnsV w B v l) (hB : B' ≤ B) : OwnsV w B' v l := by
  obtain ⟨hl, h2⟩ := h
  refine ⟨hl, ?_⟩
  rcases h2 with h2 | ⟨g, cap, cur, e1, e2, r⟩
  · exact .inl h2
  · exact .inr ⟨g, cap, cur, e1, by omega, r⟩
theorem OwnsV.vers {w : World} {B : Nat} {v : Value} {l : List Ver} (h : OwnsV w B v l) : Vers w v l := by
  have h' : w.ownsRow B 26 5 v l.length (versC l) := h
  rcases h'.2 with ⟨e, hn⟩ | ⟨g, cap, cur, e, hB, hg, hc, hm, hsz, htk⟩
  · exact ⟨none, 0, by rw [e, hn], by omega, by unfold maxLen; omega, fun hp => by omega⟩
  · have hgl : g < w.heap.size := by
      rcases Nat.lt_or_ge g w.heap.size with h1 | h1
      · exact h1
      · rw [Array.getElem?_eq_none h1] at hg; cases hg
    refine ⟨some ⟨g, 0, none⟩, cap, e, hc, hm, fun _ => ⟨g, 0, rfl, hgl, fun i hi => ?_⟩⟩
    have key : ∀ j, j < 5 → w.cell? ⟨g, 0 + i * 5 + j, none⟩ = (verC (vat l i))[j]? := by
      intro j hj
      have h1 := versC_at l i j hi hj
      rw [← htk, List.getElem?_take, if_pos (by omega)] at h1
      rw [← h1]
      simp [World.cell?, hg]
    exact ⟨key 0 (by omega), key 1 (by omega), key 2 (by omega), key 3 (by omega), key 4 (by omega)⟩
theorem info_ver : (Tryd.prog.info? 26).map (fun i => (i.zero, i.size, i.bytes)) = some (some ((Go.Value.agg #[Go.Value.int Go.IntKind.i64 0, Go.Value.int Go.IntKind.i64 0, Go.Value.int Go.IntKind.i64 0, Go.Value.bool false, Go.Value.string (ByteArray.empty)])), 5, 48) := by kernel_rfl

end Go.Proofs.YtkmmifonandkoaaDoor

/-
  The contract of chain.rightVersion.
-/
set_option linter.unusedVariables false
namespace Go.Proofs.YtkmmifonandkoaaDoor
open Go.RowKit

theorem empty_of {s : ByteArray} (h : s.size = 0) : s = { data := #[] } := by
  apply ByteArray.ext
  apply Array.eq_empty_of_size_eq_zero
  exact h

set_option maxRecDepth 100000 in
set_option maxHeartbeats 400000 in
theorem rightVersion_any (a b c : Int) (g : Bool) (s : ByteArray) (w : World) : Calls Tryd.prog 56 #[(Go.Value.agg #[Go.Value.int Go.IntKind.i64 a, Go.Value.int Go.IntKind.i64 b, Go.Value.int Go.IntKind.i64 c, Go.Value.bool g, Go.Value.string s])] w fun e w' => e = .returned (.bool (oneB (a, b, c, g, s))) ∧ Below w.heap.size w w' := by
  obtain ⟨r, hr⟩ : ∃ r, r = rightB a b c := ⟨_, rfl⟩
  have HR : Hid (∀ W, Calls Tryd.prog 75 #[(Go.Value.agg #[Go.Value.int Go.IntKind.i64 a, Go.Value.int Go.IntKind.i64 b, Go.Value.int Go.IntKind.i64 c])] W fun e w' => e = .returned (.bool r) ∧ Below W.heap.size W w') := fun W => by rw [hr]; exact Right_any a b c W
  have HO : Hid (oneB (a, b, c, g, s) = ((!(g && decide (0 < s.size))) && (r && decide (s.size ≤ 16)))) := by show _ = _; rw [hr]; rfl
  clear hr
  have HV : Hid (VBox (w.alloc (.cells #[.int .i64 a, .int .i64 b, .int .i64 c, .bool g, .string s] 26)) w.heap.size a b c g s) := VBox.new w a b c g s
  have HB : Hid (Below w.heap.size w (w.alloc (.cells #[.int .i64 a, .int .i64 b, .int .i64 c, .bool g, .string s] 26))) := (Below.refl _ _).alloc (Nat.le_refl _) _
  cases r
  · go_enter Tryd.func56, Tryd.ntmps56
    go_wp2_with fail
    refine (HR.out _).mono ?_
    rintro e w1 ⟨rfl, hb1⟩
    go_wp2_with fail
    go_ret
    exact ⟨by rw [HO.out]; simp, HB.out.trans (hb1.mono (by simp))⟩
  by_cases h16 : s.size ≤ 16
  · by_cases h0 : s.size = 0
    · obtain rfl := empty_of h0
      clear h16 h0
      go_enter Tryd.func56, Tryd.ntmps56
      go_wp2_with fail
      refine (HR.out _).mono ?_
      rintro e w1 ⟨rfl, hb1⟩
      obtain ⟨x0, x1, x2, x3, x4⟩ := (HV.out.over hb1).cell
      go_wp2_with fail
      go_ret
      exact ⟨by rw [HO.out]; cases g <;> rfl, HB.out.trans (hb1.mono (by simp))⟩
    · have e1 : decide ((s.size : Int) ≤ 16) = true := decide_eq_true (by omega)
      have e2 : ¬ s.toList = ({ data := #[] } : ByteArray).toList := fun e => h0 (by rw [list_inj e]; rfl)
      have e3 : s.toList.isEmpty = false := by
        cases h : s.toList.isEmpty
        · rfl
        · exact absurd (show s.toList = ({ data := #[] } : ByteArray).toList by rw [List.isEmpty_iff.1 h, Lib.toList_data]) e2
      have HQ : Hid (decide (0 < s.size) = true ∧ decide (s.size ≤ 16) = true) := ⟨decide_eq_true (by omega), decide_eq_true h16⟩
      have HE2 := Lib.hid e2
      clear h16 h0 e2
      cases g
      all_goals
        go_enter Tryd.func56, Tryd.ntmps56
        go_wp2_with fail
        refine (HR.out _).mono ?_
        rintro e w1 ⟨rfl, hb1⟩
        obtain ⟨x0, x1, x2, x3, x4⟩ := (HV.out.over hb1).cell
        go_wp2_with fail
        go_ret
        exact ⟨by rw [HO.out, HQ.out.1, HQ.out.2]; rfl, HB.out.trans (hb1.mono (by simp))⟩
  · have e1 : decide ((s.size : Int) ≤ 16) = false := decide_eq_false (by omega)
    have HQ : Hid (decide (s.size ≤ 16) = false) := decide_eq_false h16
    clear h16
    go_enter Tryd.func56, Tryd.ntmps56
    go_wp2_with fail
    refine (HR.out _).mono ?_
    rintro e w1 ⟨rfl, hb1⟩
    obtain ⟨x0, x1, x2, x3, x4⟩ := (HV.out.over hb1).cell
    go_wp2_with fail
    go_ret
    exact ⟨by rw [HO.out, HQ.out]; simp, HB.out.trans (hb1.mono (by simp))⟩

end Go.Proofs.YtkmmifonandkoaaDoor

/-
  The contract of cmp.Or.
-/
set_option linter.unusedVariables false
namespace Go.Proofs.YtkmmifonandkoaaDoor
open Go.RowKit

/-- The first of a list that is not zero, or zero. -/
def orL : List Int → Int
  | [] => 0
  | x :: r => if x = 0 then orL r else x
theorem orL_zero : ∀ (zs : List Int), (∀ i, i < zs.length → zs.getD i 0 = 0) → orL zs = 0
  | [], _ => rfl
  | x :: r, h => by
    have h0 : x = 0 := by simpa using h 0 (by simp)
    rw [orL, if_pos h0]
    exact orL_zero r (fun i hi => by simpa using h (i + 1) (by simp; omega))
theorem orL_at : ∀ (zs : List Int) (k : Nat), k < zs.length → (∀ i, i < k → zs.getD i 0 = 0) → zs.getD k 0 ≠ 0 → orL zs = zs.getD k 0
  | [], k, hk, _, _ => absurd hk (Nat.not_lt_zero _)
  | x :: r, 0, _, _, h => by
    have h0 : ¬ x = 0 := by simpa using h
    rw [orL, if_neg h0]; simp
  | x :: r, k + 1, hk, hz, h => by
    have h0 : x = 0 := by simpa using hz 0 (by omega)
    rw [orL, if_pos h0, orL_at r k (by simpa using hk) (fun i hi => by simpa using hz (i + 1) (by omega)) (by simpa using h)]
    simp
theorem orL_three (x y z : Int) : orL [x, y, z] = orI x y z := by
  unfold orI; simp only [orL]
  (repeat' split) <;> simp_all
set_option maxRecDepth 100000 in
set_option maxHeartbeats 400000 in
theorem Or_row (b off len cap : Nat) (zs : List Int) (w : World) (hlen : zs.length = len) (h100 : len ≤ 100) (hcell : ∀ i, i < len → w.cell? ⟨b, off + i, none⟩ = some (.int .i64 (zs.getD i 0))) :
    Calls Tryd.prog 51 #[.slice (some ⟨b, off, none⟩) len cap] w fun e w' => e = .returned (.int .i64 (orL zs)) ∧ w' = w := by
  have HC := Lib.hid hcell
  have HL := Lib.hid hlen
  clear hcell hlen
  go_enter Tryd.func51, Tryd.ntmps51
  go_wp2_with fail
  go_loop [5, 8] (fun _ i => ∃ k : Nat, k ≤ len ∧ i = .int .i64 k ∧ Hid (∀ i, i < k → zs.getD i 0 = 0)) (fun _ i => len - (intOf i).toNat)
  case atStart => exact ⟨0, Nat.zero_le _, rfl, fun i hi => absurd hi (Nat.not_lt_zero _)⟩
  case round =>
    obtain ⟨k, hk, rfl, hz⟩ := hrel
    by_cases hlt : k < len
    · have hcx := HC.out k hlt
      obtain ⟨z, hzz⟩ : ∃ z, z = zs.getD k 0 := ⟨_, rfl⟩
      rw [← hzz] at hcx
      have HZ := Lib.hid hzz
      clear hzz
      by_cases h0 : z = 0
      · subst h0
        have HN : Hid (∀ i, i < k + 1 → zs.getD i 0 = 0) := by
          intro i hi
          by_cases hik : i < k
          · exact hz.out i hik
          · obtain rfl : i = k := by omega
            exact HZ.out.symm
        go_wp2_with fail
        go_round
        case rel => exact ⟨k + 1, by omega, by go_num, HN⟩
        case measure => simp [intOf]; omega
      · have HE : Hid (orL zs = z) := by
          show _ = _
          rw [orL_at zs k (by rw [HL.out]; exact hlt) hz.out (by rw [← HZ.out]; exact h0), HZ.out]
        have hne : (z == 0) = false := beq_eq_false_iff_ne.2 h0
        clear h0
        go_wp2_with fail
        go_ret
        exact ⟨by rw [HE.out]; rfl, rfl⟩
    · have HE : Hid (orL zs = 0) := orL_zero zs (fun i hi => hz.out i (by rw [HL.out] at hi; omega))
      go_wp2_with fail
      go_ret
      exact ⟨by rw [HE.out]; rfl, rfl⟩

theorem Or_new (w : World) (x y z : Int) : Calls Tryd.prog 51 #[.slice (some ⟨w.heap.size, 0, none⟩) 3 3] (w.alloc (.cells #[.int .i64 x, .int .i64 y, .int .i64 z] 3)) fun e w' => e = .returned (.int .i64 (orI x y z)) ∧ w' = w.alloc (.cells #[.int .i64 x, .int .i64 y, .int .i64 z] 3) := by
  rw [← orL_three]
  refine Or_row w.heap.size 0 3 3 [x, y, z] _ rfl (by omega) (fun i hi => ?_)
  have : i = 0 ∨ i = 1 ∨ i = 2 := by omega
  rcases this with rfl | rfl | rfl <;> simp

end Go.Proofs.YtkmmifonandkoaaDoor

/-
  The contract of the library's comparison of ints.
-/
set_option linter.unusedVariables false
namespace Go.Proofs.YtkmmifonandkoaaDoor
open Go.RowKit

set_option maxRecDepth 100000 in
set_option maxHeartbeats 400000 in
theorem isNaN_int (x : Int) (w : World) : Calls Tryd.prog 72 #[.int .i64 x] w fun e w' => e = .returned (.bool false) ∧ w' = w := by
  go_enter Tryd.func72, Tryd.ntmps72
  go_wp2_with fail
  go_ret
  exact ⟨by simp, rfl⟩

set_option maxRecDepth 100000 in
set_option maxHeartbeats 400000 in
theorem cmp_int (x y : Int) (w : World) : Calls Tryd.prog 52 #[.int .i64 x, .int .i64 y] w fun e w' => e = .returned (.int .i64 (Lib.compareInt x y)) ∧ w' = w := by
  have hcases : (x < y ∧ Lib.compareInt x y = -1) ∨ (¬ x < y ∧ y < x ∧ Lib.compareInt x y = 1) ∨ (¬ x < y ∧ ¬ y < x ∧ Lib.compareInt x y = 0) := by
    unfold Lib.compareInt
    by_cases h : x < y
    · exact .inl ⟨h, by rw [if_pos h]⟩
    · by_cases h2 : y < x
      · exact .inr (.inl ⟨h, h2, by rw [if_neg h, if_pos h2]⟩)
      · exact .inr (.inr ⟨h, h2, by rw [if_neg h, if_neg h2]⟩)
  rcases hcases with ⟨h, he⟩ | ⟨h, h2, he⟩ | ⟨h, h2, he⟩
  · have HE := Lib.hid he
    clear he
    have d1 : decide (x < y) = true := decide_eq_true h
    go_enter Tryd.func52, Tryd.ntmps52
    go_wp2_with (go_at_call 72; refine (isNaN_int _ _).mono ?_; rintro e w1 ⟨rfl, rfl⟩)
    go_ret
    exact ⟨by rw [HE.out]; rfl, rfl⟩
  · have HE := Lib.hid he
    clear he
    have d1 : decide (x < y) = false := decide_eq_false h
    have d2 : decide (y < x) = true := decide_eq_true h2
    go_enter Tryd.func52, Tryd.ntmps52
    go_wp2_with (go_at_call 72; refine (isNaN_int _ _).mono ?_; rintro e w1 ⟨rfl, rfl⟩)
    go_ret
    exact ⟨by rw [HE.out]; rfl, rfl⟩
  · have HE := Lib.hid he
    clear he
    have d1 : decide (x < y) = false := decide_eq_false h
    have d2 : decide (y < x) = false := decide_eq_false h2
    go_enter Tryd.func52, Tryd.ntmps52
    go_wp2_with (go_at_call 72; refine (isNaN_int _ _).mono ?_; rintro e w1 ⟨rfl, rfl⟩)
    go_ret
    exact ⟨by rw [HE.out]; rfl, rfl⟩

end Go.Proofs.YtkmmifonandkoaaDoor

/-
  The contract of stamp.Compare.
-/
set_option linter.unusedVariables false
namespace Go.Proofs.YtkmmifonandkoaaDoor
open Go.RowKit

set_option maxRecDepth 100000 in
set_option maxHeartbeats 400000 in
theorem Compare_any (a1 a2 a3 b1 b2 b3 : Int) (w : World) : Calls Tryd.prog 30 #[(Go.Value.agg #[Go.Value.int Go.IntKind.i64 a1, Go.Value.int Go.IntKind.i64 a2, Go.Value.int Go.IntKind.i64 a3]), (Go.Value.agg #[Go.Value.int Go.IntKind.i64 b1, Go.Value.int Go.IntKind.i64 b2, Go.Value.int Go.IntKind.i64 b3])] w fun e w' => e = .returned (.int .i64 (cmpI a1 a2 a3 b1 b2 b3)) ∧ Below w.heap.size w w' := by
  have HE := Lib.hid (or_cmp a1 a2 a3 b1 b2 b3)
  have HC : Hid (∀ x y (W : World), Calls Tryd.prog 52 #[.int .i64 x, .int .i64 y] W fun e w' => e = .returned (.int .i64 (Lib.compareInt x y)) ∧ w' = W) := fun x y W => cmp_int x y W
  go_enter Tryd.func30, Tryd.ntmps30
  go_wp2_with fail
  refine wp_region_still_tail 15 (by kernel_rfl) (by kernel_rfl) ?_
  simp only [List.take_succ_cons, List.take_zero, List.drop_succ_cons, List.drop_zero]
  change wpStill _ _ (World.drew ((w.alloc _).alloc _)) (fun a' => wpList _ _ _ _ a' (World.drew ((w.alloc _).alloc _))) _ _
  obtain ⟨w0, hb, c1, c2, c3, c4, c5, c6, hw0⟩ : ∃ w0, Below w.heap.size w w0 ∧ w0.cell? ⟨w.heap.size, 0, none⟩ = some (.int .i64 a1) ∧ w0.cell? ⟨w.heap.size, 1, none⟩ = some (.int .i64 a2) ∧ w0.cell? ⟨w.heap.size, 2, none⟩ = some (.int .i64 a3) ∧ w0.cell? ⟨w.heap.size + 1, 0, none⟩ = some (.int .i64 b1) ∧ w0.cell? ⟨w.heap.size + 1, 1, none⟩ = some (.int .i64 b2) ∧ w0.cell? ⟨w.heap.size + 1, 2, none⟩ = some (.int .i64 b3) ∧ World.drew ((w.alloc (.cells #[.int .i64 a1, .int .i64 a2, .int .i64 a3] 24)).alloc (.cells #[.int .i64 b1, .int .i64 b2, .int .i64 b3] 24)) = w0 :=
    ⟨_, (((Below.refl _ _).alloc (Nat.le_refl _) _).alloc (by simp) _).drew, by simp, by simp, by simp, by simp, by simp, by simp, rfl⟩
  rw [hw0]
  clear hw0
  repeat (first | still_step | still_call (HC.out _ _ _))
  refine wpStill_nil ?_
  go_wp2_with fail
  refine (Or_new _ _ _ _).mono ?_
  rintro e w1 ⟨rfl, rfl⟩
  go_wp2_with fail
  go_ret
  exact ⟨by rw [HE.out]; rfl, hb.alloc hb.size _⟩


end Go.Proofs.YtkmmifonandkoaaDoor

/-
  A region that draws its order, whose operations read what lies still and whose calls make memory of their own alone: one walk of the lexical order, in a class of worlds (expand.py's go_calm).
-/
set_option linter.unusedVariables false
namespace Go.Proofs.YtkmmifonandkoaaDoor
open Go.RowKit

theorem wp_region_calm {P : Program} {id : Nat} {Q : Exit → Act → World → Prop} {a : Act} {w : World} {l : List Oper} (C : World → Prop) (hm : P.follows .mixedOrders = true) (hB : Region.lexB .any l.toArray = true) (hC : C w.drew)
    (h : wpQuiet P l.toArray C (fun a' => ∀ w', C w' → Q .normal a' w') l a) : (Code.region id l.toArray true).wp P Q a w :=
  wp_region_quiet (C := C) hm hB hC (by simpa using h)

end Go.Proofs.YtkmmifonandkoaaDoor

/-
  The contract of chain.follows.
-/
set_option linter.unusedVariables false
namespace Go.Proofs.YtkmmifonandkoaaDoor
open Go.RowKit

/-- Is a version later than the last of a chain? -/
def folB (l : List Ver) (v : Ver) : Bool := decide (l.length = 0) || befV (vat l (l.length - 1)) v
theorem fol_nil (v : Ver) : folB [] v = true := rfl
/-- The boxed version and one of a row. -/
def FoRel (w : World) (b o : Nat) (u v : Ver) (W : World) : Prop := b < w.heap.size ∧ Below w.heap.size w W ∧ VBox W w.heap.size v.1 v.2.1 v.2.2.1 v.2.2.2.1 v.2.2.2.2 ∧ VerAt W b o u
theorem FoRel.next {w W W' : World} {b o : Nat} {u v : Ver} (H : FoRel w b o u v W) (hb : Below W.heap.size W W') : FoRel w b o u v W' := by
  obtain ⟨h0, h1, h2, h3⟩ := H
  have := h1.size
  exact ⟨h0, h1.trans (hb.mono h1.size), h2.over hb, h3.next hb (by omega)⟩
theorem FoRel.drew {w W : World} {b o : Nat} {u v : Ver} (H : FoRel w b o u v W) : FoRel w b o u v W.drew := H.next ((Below.refl _ _).drew)

set_option maxRecDepth 100000 in
set_option maxHeartbeats 1000000 in
theorem follows_core (a b c : Int) (g : Bool) (s : ByteArray) (w : World) (b0 off k n cap : Nat) (u : Ver) (hn : n = k + 1) (hk : n ≤ maxLen) (hb0 : b0 < w.heap.size) (hu : VerAt w b0 (off + k * 5) u) :
    Calls Tryd.prog 57 #[(Go.Value.agg #[Go.Value.int Go.IntKind.i64 a, Go.Value.int Go.IntKind.i64 b, Go.Value.int Go.IntKind.i64 c, Go.Value.bool g, Go.Value.string s]), .slice (some ⟨b0, off, none⟩) n cap] w fun e w' => e = .returned (.bool (befV u (a, b, c, g, s))) ∧ Below w.heap.size w w' := by
  obtain ⟨ua, ub, uc, ug, us⟩ := u
  obtain ⟨q, hq⟩ : ∃ q, q = cmpI a b c ua ub uc := ⟨_, rfl⟩
  have HC : Hid (∀ W, Calls Tryd.prog 30 #[(Go.Value.agg #[Go.Value.int Go.IntKind.i64 a, Go.Value.int Go.IntKind.i64 b, Go.Value.int Go.IntKind.i64 c]), (Go.Value.agg #[Go.Value.int Go.IntKind.i64 ua, Go.Value.int Go.IntKind.i64 ub, Go.Value.int Go.IntKind.i64 uc])] W fun e w' => e = .returned (.int .i64 q) ∧ Below W.heap.size W w') := fun W => by rw [hq]; exact Compare_any _ _ _ _ _ _ W
  have HQ : Hid (befV (ua, ub, uc, ug, us) (a, b, c, g, s) = decide (0 < q)) := by
    show _ = _
    rcases cmp_cases a b c ua ub uc with ⟨h1, h2, h3⟩ | ⟨h1, h2, h3⟩ | ⟨h1, h2, h3, _⟩ <;> simp [befV, hq, h2, h3]
  have H : Hid (FoRel w b0 (off + k * 5) (ua, ub, uc, ug, us) (a, b, c, g, s) (w.alloc (.cells #[.int .i64 a, .int .i64 b, .int .i64 c, .bool g, .string s] 26))) :=
    ⟨hb0, (Below.refl _ _).alloc (Nat.le_refl _) _, VBox.new _ _ _ _ _ _, hu.next ((Below.refl _ _).alloc (Nat.le_refl _) _) hb0⟩
  have hmx : n ≤ 9223372036854775807 := Nat.le_trans hk (by decide)
  clear hq hu hb0 hk
  have q1 := IntWalk.i64_in (k : Int) (by omega)
  have q2 : ((n : Int) == 0) = false := beq_eq_false_iff_ne.2 (by omega)
  have q3 : k < n := by omega
  have q4 : (n : Int) - 1 = (k : Int) := by omega
  have q5 : ¬ n = 0 := by omega
  have HN := Lib.hid hn
  clear hn
  go_enter Tryd.func57, Tryd.ntmps57
  go_upto_region 1 with (fail)
  refine wp_region_calm (FoRel w b0 (off + k * 5) (ua, ub, uc, ug, us) (a, b, c, g, s)) (by kernel_rfl) (by kernel_rfl) H.out.drew ?_
  repeat ((with_reducible refine wpQuiet_step (fun K hK => ?_)); go_simp; first | (refine hK _ ?_; clear hK K) | (apply Exists.intro; refine ⟨fun wc hwc => ?_, hK _ ?_⟩; (focus (first | (first | (go_at_call 30; refine (HC.out _).mono ?_; rintro e w1 ⟨rfl, hb1⟩; exact ⟨rfl, hwc.next hb1⟩)) | (((obtain ⟨_, _, hx, ⟨x0, x1, x2, x3, x4⟩⟩ := hwc; obtain ⟨y0, y1, y2, y3, y4⟩ := hx.cell; dsimp only at x0 x1 x2 x3 x4 y0 y1 y2 y3 y4; clear hx)); go_simp; done) | (((obtain ⟨_, _, hx, ⟨x0, x1, x2, x3, x4⟩⟩ := hwc; obtain ⟨y0, y1, y2, y3, y4⟩ := hx.cell; dsimp only at x0 x1 x2 x3 x4 y0 y1 y2 y3 y4; clear hx)); go_simp; exact rfl))); clear hK K))
  refine wpQuiet_nil ?_
  intro wc hwc
  go_wp2_with fail
  go_ret
  exact ⟨by rw [HQ.out]; rfl, hwc.2.1⟩

set_option maxRecDepth 100000 in
set_option maxHeartbeats 400000 in
theorem follows_nil (a b c : Int) (g : Bool) (s : ByteArray) (w : World) (ao : Option Addr) (cap : Nat) :
    Calls Tryd.prog 57 #[(Go.Value.agg #[Go.Value.int Go.IntKind.i64 a, Go.Value.int Go.IntKind.i64 b, Go.Value.int Go.IntKind.i64 c, Go.Value.bool g, Go.Value.string s]), .slice ao 0 cap] w fun e w' => e = .returned (.bool true) ∧ Below w.heap.size w w' := by
  have HB : Hid (Below w.heap.size w (w.alloc (.cells #[.int .i64 a, .int .i64 b, .int .i64 c, .bool g, .string s] 26))) := (Below.refl _ _).alloc (Nat.le_refl _) _
  go_enter Tryd.func57, Tryd.ntmps57
  go_upto_region 1 with (fail)
  refine wp_region_calm (fun W => Below w.heap.size w W) (by kernel_rfl) (by kernel_rfl) HB.out.drew ?_
  repeat ((with_reducible refine wpQuiet_step (fun K hK => ?_)); go_simp; first | (refine hK _ ?_; clear hK K) | (apply Exists.intro; refine ⟨fun wc hwc => ?_, hK _ ?_⟩; (focus (first | (fail) | ((skip); go_simp; done) | ((skip); go_simp; exact rfl))); clear hK K))
  refine wpQuiet_nil ?_
  intro wc hwc
  go_wp2_with fail
  go_ret
  exact ⟨rfl, hwc⟩

theorem follows_any {w : World} {v : Value} {l : List Ver} (h : Vers w v l) (a b c : Int) (g : Bool) (s : ByteArray) :
    Calls Tryd.prog 57 #[(Go.Value.agg #[Go.Value.int Go.IntKind.i64 a, Go.Value.int Go.IntKind.i64 b, Go.Value.int Go.IntKind.i64 c, Go.Value.bool g, Go.Value.string s]), v] w fun e w' => e = .returned (.bool (folB l (a, b, c, g, s))) ∧ Below w.heap.size w w' := by
  obtain ⟨ao, cap, rfl, h1, h2, h3⟩ := h
  cases l with
  | nil => exact follows_nil a b c g s w ao cap
  | cons u l =>
    obtain ⟨b0, off, rfl, hb, hcl⟩ := h3 (by simp)
    have h4 := follows_core a b c g s w b0 off l.length _ cap (vat (u :: l) l.length) rfl (by simp at h1 ⊢; omega) hb (hcl _ (by simp))
    have e : folB (u :: l) (a, b, c, g, s) = befV (vat (u :: l) l.length) (a, b, c, g, s) := by simp [folB]
    rw [e]
    exact h4

end Go.Proofs.YtkmmifonandkoaaDoor

/-
  The contract of chain.Right.
-/
set_option linter.unusedVariables false
namespace Go.Proofs.YtkmmifonandkoaaDoor
open Go.RowKit

theorem vat_take (l : List Ver) {k i : Nat} (h : i < k) : vat (l.take k) i = vat l i := by
  unfold vat
  simp [List.getD, h]
theorem ok_fol {l : List Ver} {k : Nat} (h : k < l.length) : okAt l k = (oneB (vat l k) && folB (l.take k) (vat l k)) := by
  unfold okAt folB
  rw [List.length_take, Nat.min_eq_left (by omega)]
  cases k with
  | zero => rfl
  | succ k => rw [vat_take l (by omega)]
theorem Vers.front {w : World} {b off n cap k : Nat} {l : List Ver} (hl : l.length = n) (h1 : n ≤ cap) (h2 : cap ≤ maxLen) (hb : b < w.heap.size) (hcl : ∀ i, i < n → VerAt w b (off + i * 5) (vat l i)) (hk : k ≤ n) : Vers w (.slice (some ⟨b, off, none⟩) k cap) (l.take k) :=
  ⟨some ⟨b, off, none⟩, cap, by rw [List.length_take, Nat.min_eq_left (by omega)], by rw [List.length_take]; omega, h2, fun hp => ⟨b, off, rfl, hb, fun i hi => by
    rw [List.length_take] at hi
    rw [vat_take l (by omega)]
    exact hcl i (by omega)⟩⟩
/-- What a round of Right knows. -/
def RtRel (w : World) (h : Nat) (v : Ver) (W : World) : Prop := Below w.heap.size w W ∧ VBox W h v.1 v.2.1 v.2.2.1 v.2.2.2.1 v.2.2.2.2
theorem RtRel.next {w W W' : World} {h : Nat} {v : Ver} (H : RtRel w h v W) (hb : Below W.heap.size W W') : RtRel w h v W' := ⟨H.1.trans (hb.mono H.1.size), H.2.over hb⟩
theorem RtRel.drew {w W : World} {h : Nat} {v : Ver} (H : RtRel w h v W) : RtRel w h v W.drew := H.next ((Below.refl _ _).drew)

set_option maxRecDepth 100000 in
set_option maxHeartbeats 2000000 in
theorem Right_row (w : World) (ao : Option Addr) (n cap : Nat) (l : List Ver) (hl : l.length = n) (hle : n ≤ cap) (hmx : cap ≤ maxLen) (hcell : 0 < n → ∃ b off, ao = some ⟨b, off, none⟩ ∧ b < w.heap.size ∧ ∀ i, i < n → VerAt w b (off + i * 5) (vat l i)) :
    Calls Tryd.prog 55 #[.slice ao n cap] w fun e w' => e = .returned (.bool (rightC l)) ∧ Below w.heap.size w w' := by
  have HL := Lib.hid hl
  have HC := Lib.hid hcell
  have HLE := Lib.hid hle
  have HMX := Lib.hid hmx
  clear hl hcell hle hmx
  by_cases h64 : 64 < n
  · have HE : Hid (rightC l = false) := rightC_long (by rw [HL.out]; omega)
    go_enter Tryd.func55, Tryd.ntmps55
    go_wp2_with fail
    go_ret
    exact ⟨by rw [HE.out]; rfl, Below.refl _ _⟩
  go_enter Tryd.func55, Tryd.ntmps55
  go_wp2_with fail
  go_loopw [10] (fun i wr => ∃ k : Nat, k ≤ n ∧ i = .int .i64 k ∧ Hid (∀ j, j < k → okAt l j = true) ∧ Hid (Below w.heap.size w wr)) (fun i _ => n - (intOf i).toNat)
  case atStart => exact ⟨0, Nat.zero_le _, rfl, fun j hj => absurd hj (Nat.not_lt_zero _), Below.refl _ _⟩
  case round =>
    obtain ⟨k, hk, rfl, hok, hbel⟩ := hrel
    by_cases hlt : k < n
    · obtain ⟨b, off, rfl, hb, hcl⟩ := HC.out (by omega)
      obtain ⟨v, hv⟩ : ∃ v, v = vat l k := ⟨_, rfl⟩
      obtain ⟨a, t, c, g, s⟩ := v
      have HV := Lib.hid hv
      have HK : Hid (VerAt wr b (off + k * 5) (a, t, c, g, s)) := by rw [hv]; exact (hcl k hlt).next hbel.out hb
      obtain ⟨o, ho⟩ : ∃ o, o = oneB (a, t, c, g, s) := ⟨_, rfl⟩
      obtain ⟨f, hf⟩ : ∃ f, f = folB (l.take k) (a, t, c, g, s) := ⟨_, rfl⟩
      have HO : Hid (∀ W, Calls Tryd.prog 56 #[(Go.Value.agg #[Go.Value.int Go.IntKind.i64 a, Go.Value.int Go.IntKind.i64 t, Go.Value.int Go.IntKind.i64 c, Go.Value.bool g, Go.Value.string s])] W fun e w' => e = .returned (.bool o) ∧ Below W.heap.size W w') := fun W => by rw [ho]; exact rightVersion_any a t c g s W
      have HF : Hid (∀ W, Below w.heap.size w W → Calls Tryd.prog 57 #[(Go.Value.agg #[Go.Value.int Go.IntKind.i64 a, Go.Value.int Go.IntKind.i64 t, Go.Value.int Go.IntKind.i64 c, Go.Value.bool g, Go.Value.string s]), .slice (some ⟨b, off, none⟩) k cap] W fun e w' => e = .returned (.bool f) ∧ Below W.heap.size W w') := fun W hW => by
        rw [hf]
        exact follows_any (Vers.front HL.out HLE.out HMX.out (Nat.lt_of_lt_of_le hb hW.size) (fun i hi => (hcl i hi).next hW hb) (by omega)) a t c g s
      have HOK : Hid (okAt l k = (o && f)) := by show _ = _; rw [ok_fol (by rw [HL.out]; exact hlt), ← hv, ← ho, ← hf]
      clear hv ho hf
      obtain ⟨k0, k1, k2, k3, k4⟩ := HK.out
      dsimp only at k0 k1 k2 k3 k4
      have hkc : k ≤ cap := by have := HLE.out; omega
      have q4 : k < n := hlt
      go_upto_region 6 with (fail)
      have H1 : Hid (RtRel w wr.heap.size (a, t, c, g, s) (wr.alloc (.cells #[.int .i64 a, .int .i64 t, .int .i64 c, .bool g, .string s] 26))) := ⟨hbel.out.alloc hbel.out.size _, VBox.new _ _ _ _ _ _⟩
      clear k0 k1 k2 k3 k4 HK
      cases o
      · have HE : Hid (rightC l = false) := rightC_at (i := k) (by rw [HL.out]; exact hlt) (by rw [HOK.out]; rfl)
        refine wp_region_calm (RtRel w wr.heap.size (a, t, c, g, s)) (by kernel_rfl) (by kernel_rfl) H1.out.drew ?_
        repeat ((with_reducible refine wpQuiet_step (fun K hK => ?_)); go_simp; first | (refine hK _ ?_; clear hK K) | (apply Exists.intro; refine ⟨fun wc hwc => ?_, hK _ ?_⟩; (focus (first | (first | (go_at_call 56; refine (HO.out _).mono ?_; rintro e w1 ⟨rfl, hb1⟩; exact ⟨rfl, hwc.next hb1⟩)) | (((obtain ⟨_, hx⟩ := hwc; obtain ⟨x0, x1, x2, x3, x4⟩ := hx.cell; dsimp only at x0 x1 x2 x3 x4; clear hx)); go_simp; done) | (((obtain ⟨_, hx⟩ := hwc; obtain ⟨x0, x1, x2, x3, x4⟩ := hx.cell; dsimp only at x0 x1 x2 x3 x4; clear hx)); go_simp; exact rfl))); clear hK K))
        refine wpQuiet_nil ?_
        intro wc hwc
        go_wp2_with fail
        go_ret
        exact ⟨by rw [HE.out]; rfl, hwc.1⟩
      cases f
      · have HE : Hid (rightC l = false) := rightC_at (i := k) (by rw [HL.out]; exact hlt) (by rw [HOK.out]; rfl)
        refine wp_region_calm (RtRel w wr.heap.size (a, t, c, g, s)) (by kernel_rfl) (by kernel_rfl) H1.out.drew ?_
        repeat ((with_reducible refine wpQuiet_step (fun K hK => ?_)); go_simp; first | (refine hK _ ?_; clear hK K) | (apply Exists.intro; refine ⟨fun wc hwc => ?_, hK _ ?_⟩; (focus (first | (first | (go_at_call 56; refine (HO.out _).mono ?_; rintro e w1 ⟨rfl, hb1⟩; exact ⟨rfl, hwc.next hb1⟩) | (go_at_call 57; refine (HF.out _ hwc.1).mono ?_; rintro e w1 ⟨rfl, hb1⟩; exact ⟨rfl, hwc.next hb1⟩)) | (((obtain ⟨_, hx⟩ := hwc; obtain ⟨x0, x1, x2, x3, x4⟩ := hx.cell; dsimp only at x0 x1 x2 x3 x4; clear hx)); go_simp; done) | (((obtain ⟨_, hx⟩ := hwc; obtain ⟨x0, x1, x2, x3, x4⟩ := hx.cell; dsimp only at x0 x1 x2 x3 x4; clear hx)); go_simp; exact rfl))); clear hK K))
        refine wpQuiet_nil ?_
        intro wc hwc
        go_wp2_with fail
        go_ret
        exact ⟨by rw [HE.out]; rfl, hwc.1⟩
      · have HN : Hid (∀ j, j < k + 1 → okAt l j = true) := by
          intro j hj
          by_cases hjk : j < k
          · exact hok.out j hjk
          · obtain rfl : j = k := by omega
            rw [HOK.out]; rfl
        refine wp_region_calm (RtRel w wr.heap.size (a, t, c, g, s)) (by kernel_rfl) (by kernel_rfl) H1.out.drew ?_
        repeat ((with_reducible refine wpQuiet_step (fun K hK => ?_)); go_simp; first | (refine hK _ ?_; clear hK K) | (apply Exists.intro; refine ⟨fun wc hwc => ?_, hK _ ?_⟩; (focus (first | (first | (go_at_call 56; refine (HO.out _).mono ?_; rintro e w1 ⟨rfl, hb1⟩; exact ⟨rfl, hwc.next hb1⟩) | (go_at_call 57; refine (HF.out _ hwc.1).mono ?_; rintro e w1 ⟨rfl, hb1⟩; exact ⟨rfl, hwc.next hb1⟩)) | (((obtain ⟨_, hx⟩ := hwc; obtain ⟨x0, x1, x2, x3, x4⟩ := hx.cell; dsimp only at x0 x1 x2 x3 x4; clear hx)); go_simp; done) | (((obtain ⟨_, hx⟩ := hwc; obtain ⟨x0, x1, x2, x3, x4⟩ := hx.cell; dsimp only at x0 x1 x2 x3 x4; clear hx)); go_simp; exact rfl))); clear hK K))
        refine wpQuiet_nil ?_
        intro wc hwc
        go_wp2_with fail
        go_roundw
        case rel => exact ⟨k + 1, by omega, by go_num, HN, hwc.1⟩
        case measure => simp [intOf]; omega
    · have HE : Hid (rightC l = true) := rightC_yes (by rw [HL.out]; omega) (fun i hi => hok.out i (by rw [HL.out] at hi; omega))
      go_wp2_with fail
      go_ret
      exact ⟨by rw [HE.out]; rfl, hbel.out⟩

theorem CRight_any {w : World} {v : Value} {l : List Ver} (h : Vers w v l) : Calls Tryd.prog 55 #[v] w fun e w' => e = .returned (.bool (rightC l)) ∧ Below w.heap.size w w' := by
  obtain ⟨ao, cap, rfl, h1, h2, h3⟩ := h
  exact Right_row w ao _ cap l rfl h1 h2 h3

end Go.Proofs.YtkmmifonandkoaaDoor

/-
  The contracts of chain.upTo, of its closure, and of the library's search as upTo calls it.
-/
set_option linter.unusedVariables false
namespace Go.Proofs.YtkmmifonandkoaaDoor
open Go.RowKit

/-- The two captured boxes, a version of the row. -/
def FnRel (w : World) (ba bx b off n cap o : Nat) (x y z : Int) (v : Ver) (W : World) : Prop :=
  Below w.heap.size w W ∧ W.cell? ⟨ba, 0, none⟩ = some (.slice (some ⟨b, off, none⟩) n cap) ∧ Box W bx x y z ∧ VerAt W b o v
theorem FnRel.next {w W W' : World} {ba bx b off n cap o : Nat} {x y z : Int} {v : Ver} (hba : ba < w.heap.size) (hb0 : b < w.heap.size) (H : FnRel w ba bx b off n cap o x y z v W) (hb : Below W.heap.size W W') : FnRel w ba bx b off n cap o x y z v W' := by
  obtain ⟨h1, h2, h3, h4⟩ := H
  have := h1.size
  exact ⟨h1.trans (hb.mono h1.size), (hb.cell (p := ⟨ba, 0, none⟩) (by show ba < _; omega)).trans h2, h3.over hb, h4.next hb (by omega)⟩

set_option maxRecDepth 100000 in
set_option maxHeartbeats 1000000 in
theorem found_any (w : World) (ba bx b off n cap k : Nat) (x y z : Int) (v : Ver) (hk : k < n) (hn : n ≤ 9223372036854775807) (hba : ba < w.heap.size) (hb0 : b < w.heap.size)
    (hc : w.cell? ⟨ba, 0, none⟩ = some (.slice (some ⟨b, off, none⟩) n cap)) (hx : Box w bx x y z) (hv : VerAt w b (off + k * 5) v) :
    Calls Tryd.prog 77 #[.int .i64 k, .pointer (some ⟨ba, 0, none⟩), .pointer (some ⟨bx, 0, none⟩)] w fun e w' => e = .returned (.bool (befS x y z v)) ∧ Below w.heap.size w w' := by
  obtain ⟨a, t, c, g, s⟩ := v
  obtain ⟨q, hq⟩ : ∃ q, q = cmpI a t c x y z := ⟨_, rfl⟩
  have HC : Hid (∀ W, Calls Tryd.prog 30 #[(Go.Value.agg #[Go.Value.int Go.IntKind.i64 a, Go.Value.int Go.IntKind.i64 t, Go.Value.int Go.IntKind.i64 c]), (Go.Value.agg #[Go.Value.int Go.IntKind.i64 x, Go.Value.int Go.IntKind.i64 y, Go.Value.int Go.IntKind.i64 z])] W fun e w' => e = .returned (.int .i64 q) ∧ Below W.heap.size W w') := fun W => by rw [hq]; exact Compare_any _ _ _ _ _ _ W
  have HQ : Hid (befS x y z (a, t, c, g, s) = decide (0 < q)) := by
    show _ = _
    rcases cmp_cases a t c x y z with ⟨h1, h2, h3⟩ | ⟨h1, h2, h3⟩ | ⟨h1, h2, h3, _⟩ <;> simp [befS, hq, h2, h3]
  have H : Hid (FnRel w ba bx b off n cap (off + k * 5) x y z (a, t, c, g, s) w) := ⟨Below.refl _ _, hc, hx, hv⟩
  have HBA := Lib.hid hba
  have HB0 := Lib.hid hb0
  clear hq hc hx hv hba hb0
  go_enter Tryd.func77, Tryd.ntmps77
  go_upto_region 1 with (fail)
  refine wp_region_calm (FnRel w ba bx b off n cap (off + k * 5) x y z (a, t, c, g, s)) (by kernel_rfl) (by kernel_rfl) (H.out.next HBA.out HB0.out (Below.refl _ _).drew) ?_
  repeat ((with_reducible refine wpQuiet_step (fun K hK => ?_)); go_simp; first | (refine hK _ ?_; clear hK K) | (apply Exists.intro; refine ⟨fun wc hwc => ?_, hK _ ?_⟩; (focus (first | (first | (go_at_call 30; refine (HC.out _).mono ?_; rintro e w1 ⟨rfl, hb1⟩; exact ⟨rfl, hwc.next HBA.out HB0.out hb1⟩)) | (((obtain ⟨_, z0, hx, ⟨x0, x1, x2, x3, x4⟩⟩ := hwc; obtain ⟨y0, y1, y2⟩ := hx.cell; dsimp only at x0 x1 x2 x3 x4 y0 y1 y2; clear hx)); go_simp; done) | (((obtain ⟨_, z0, hx, ⟨x0, x1, x2, x3, x4⟩⟩ := hwc; obtain ⟨y0, y1, y2⟩ := hx.cell; dsimp only at x0 x1 x2 x3 x4 y0 y1 y2; clear hx)); go_simp; exact rfl))); clear hK K))
  refine wpQuiet_nil ?_
  intro wc hwc
  go_wp2_with fail
  go_ret
  exact ⟨by rw [HQ.out]; rfl, hwc.1⟩

set_option maxRecDepth 100000 in
set_option maxHeartbeats 1000000 in
theorem Search_upTo (w : World) (n cnt ba bx : Nat) (p : Nat → Bool) (hn : n < 4611686018427387904) (h1 : cnt ≤ n) (h2 : ∀ i, i < cnt → p i = false) (h3 : ∀ i, cnt ≤ i → i < n → p i = true)
    (HF : ∀ W i, Below w.heap.size w W → i < n → Calls Tryd.prog 77 #[.int .i64 i, .pointer (some ⟨ba, 0, none⟩), .pointer (some ⟨bx, 0, none⟩)] W fun e w' => e = .returned (.bool (p i)) ∧ Below W.heap.size W w') :
    Calls Tryd.prog 66 #[.int .i64 n, .func (.func 77) #[] #[.pointer (some ⟨ba, 0, none⟩), .pointer (some ⟨bx, 0, none⟩)]] w fun e w' => e = .returned (.int .i64 cnt) ∧ Below w.heap.size w w' := by
  have H2 := Lib.hid h2
  have H3 := Lib.hid h3
  have HFH := Lib.hid HF
  clear h2 h3 HF
  go_enter Tryd.func66, Tryd.ntmps66
  go_wp2_with fail
  go_loopw [5, 6] (fun u v wr => ∃ lo hi : Nat, u = .int .i64 lo ∧ v = .int .i64 hi ∧ lo ≤ cnt ∧ cnt ≤ hi ∧ hi ≤ n ∧ Hid (Below w.heap.size w wr)) (fun u v _ => (intOf v).toNat - (intOf u).toNat)
  case atStart => exact ⟨0, n, rfl, rfl, Nat.zero_le _, h1, Nat.le_refl _, Below.refl _ _⟩
  case round =>
    obtain ⟨lo, hi, rfl, rfl, hlo, hhi, hin, hbel⟩ := hrel
    by_cases hlt : lo < hi
    · have hc := Lib.hid (HFH.out wr ((lo + hi) / 2) hbel.out (by omega))
      obtain ⟨m, hm⟩ : ∃ m, m = (lo + hi) / 2 := ⟨_, rfl⟩
      have q1 : ((lo : Int) + (hi : Int)) / 2 = (m : Int) := by omega
      have q2 : lo ≤ m ∧ m < hi := by omega
      rw [← hm] at hc
      have HM := Lib.hid hm
      clear hm
      obtain ⟨r, hr⟩ : ∃ r, r = p m := ⟨_, rfl⟩
      rw [← hr] at hc
      have HR := Lib.hid hr
      clear hr
      cases r
      · have hmc : m < cnt := by
          rcases Nat.lt_or_ge m cnt with h | h
          · exact h
          · have := H3.out m h (by omega)
            rw [← HR.out] at this; cases this
        go_wp2_with (go_at_call 77; refine hc.out.mono ?_; rintro e w1 ⟨rfl, hb1⟩)
        go_roundw
        case rel => exact ⟨m + 1, hi, by go_num, rfl, by omega, hhi, hin, hbel.out.trans (hb1.mono hbel.out.size)⟩
        case measure => simp [intOf]; omega
      · have hmc : cnt ≤ m := by
          rcases Nat.lt_or_ge m cnt with h | h
          · have := H2.out m h
            rw [← HR.out] at this; cases this
          · exact h
        go_wp2_with (go_at_call 77; refine hc.out.mono ?_; rintro e w1 ⟨rfl, hb1⟩)
        go_roundw
        case rel => exact ⟨lo, m, rfl, by go_num, hlo, by omega, by omega, hbel.out.trans (hb1.mono hbel.out.size)⟩
        case measure => simp [intOf]; omega
    · obtain rfl : lo = cnt := by omega
      go_wp2_with fail
      go_ret
      exact ⟨rfl, hbel.out⟩

set_option maxRecDepth 100000 in
set_option maxHeartbeats 400000 in
theorem upTo_row (w : World) (x y z : Int) (ao : Option Addr) (n cap cnt : Nat) (l : List Ver) (hl : l.length = n) (h64 : n ≤ 64) (hcell : 0 < n → ∃ b off, ao = some ⟨b, off, none⟩ ∧ b < w.heap.size ∧ ∀ i, i < n → VerAt w b (off + i * 5) (vat l i)) (hcnt : IsCnt l x y z cnt) :
    Calls Tryd.prog 65 #[.slice ao n cap, (Go.Value.agg #[Go.Value.int Go.IntKind.i64 x, Go.Value.int Go.IntKind.i64 y, Go.Value.int Go.IntKind.i64 z])] w fun e w' => e = .returned (.int .i64 cnt) ∧ Below w.heap.size w w' := by
  have hn : n < 4611686018427387904 := by omega
  have HS : Hid (∀ W, Below w.heap.size w W → W.cell? ⟨w.heap.size, 0, none⟩ = some (.slice ao n cap) → Box W (w.heap.size + 1) x y z → Calls Tryd.prog 66 #[.int .i64 n, .func (.func 77) #[] #[.pointer (some ⟨w.heap.size, 0, none⟩), .pointer (some ⟨w.heap.size + 1, 0, none⟩)]] W fun e w' => e = .returned (.int .i64 cnt) ∧ Below W.heap.size W w') := by
    intro W hW hc hx
    refine Search_upTo W n cnt _ _ (fun i => befS x y z (vat l i)) hn (by rw [← hl]; exact hcnt.1) hcnt.2.1 (fun i h h2 => hcnt.2.2 i h (by omega)) fun W' i hW' hi => ?_
    obtain ⟨b, off, rfl, hb, hcl⟩ := hcell (by omega)
    have h1 := hW.size
    have h2 := hW'.size
    have h3 := hx.lt
    exact found_any W' _ _ b off n cap i x y z _ hi (by omega) (by omega) (by omega) ((hW'.cell (p := ⟨w.heap.size, 0, none⟩) (by show w.heap.size < _; omega)).trans hc) (hx.over hW') (((hcl i hi).next hW hb).next hW' (by omega))
  clear hcell hcnt hl h64
  have HB : Hid (Below w.heap.size w ((w.alloc (.cells #[.slice ao n cap] 39)).alloc (.cells #[.int .i64 x, .int .i64 y, .int .i64 z] 24))) := ((Below.refl _ _).alloc (Nat.le_refl _) _).alloc (by simp) _
  have HX : Hid (Box ((w.alloc (.cells #[.slice ao n cap] 39)).alloc (.cells #[.int .i64 x, .int .i64 y, .int .i64 z] 24)) (w.heap.size + 1) x y z) := by
    have := Box.new (w.alloc (.cells #[.slice ao n cap] 39)) x y z
    show Box _ _ _ _ _
    simpa using this
  go_enter Tryd.func65, Tryd.ntmps65
  go_wp2_with fail
  refine (HS.out _ HB.out (by simp) HX.out).mono ?_
  rintro e w1 ⟨rfl, hb1⟩
  go_wp2_with fail
  go_ret
  exact ⟨rfl, HB.out.trans (hb1.mono HB.out.size)⟩

theorem upTo_any {w : World} {v : Value} {l : List Ver} (h : Vers w v l) (h64 : l.length ≤ 64) {x y z : Int} {n : Nat} (hn : IsCnt l x y z n) : Calls Tryd.prog 65 #[v, (Go.Value.agg #[Go.Value.int Go.IntKind.i64 x, Go.Value.int Go.IntKind.i64 y, Go.Value.int Go.IntKind.i64 z])] w fun e w' => e = .returned (.int .i64 n) ∧ Below w.heap.size w w' := by
  obtain ⟨ao, cap, rfl, h1, h2, h3⟩ := h
  exact upTo_row w x y z ao _ cap n l rfl h64 h3 hn

end Go.Proofs.YtkmmifonandkoaaDoor

/-
  The contracts of chain.At and chain.Value.
-/
set_option linter.unusedVariables false
namespace Go.Proofs.YtkmmifonandkoaaDoor
open Go.RowKit

/-- The stamp's box and the result's. -/
def At2 (w : World) (x y z : Int) (u : Ver) (W : World) : Prop :=
  Below w.heap.size w W ∧ Box W w.heap.size x y z ∧ VBox W (w.heap.size + 1) u.1 u.2.1 u.2.2.1 u.2.2.2.1 u.2.2.2.2
theorem At2.next {w W W' : World} {x y z : Int} {u : Ver} (H : At2 w x y z u W) (hb : Below W.heap.size W W') : At2 w x y z u W' :=
  ⟨H.1.trans (hb.mono H.1.size), H.2.1.over hb, H.2.2.over hb⟩
theorem At2.put {w W : World} {x y z : Int} {u : Ver} (H : At2 w x y z u W) (v : Ver) : At2 w x y z v (W.setRow (w.heap.size + 1) #[.int .i64 (v.1), .int .i64 (v.2.1), .int .i64 (v.2.2.1), .bool (v.2.2.2.1), .string (v.2.2.2.2)]) :=
  ⟨below_setRow H.1 (by omega) _, H.2.1.other _ (by omega), H.2.2.set _ _ _ _ _⟩
theorem At2.new (w : World) (x y z : Int) : At2 w x y z ver0 ((w.alloc (.cells #[.int .i64 x, .int .i64 y, .int .i64 z] 24)).alloc (.cells #[.int .i64 0, .int .i64 0, .int .i64 0, .bool false, .string ({ data := #[] })] 26)) := by
  refine ⟨((Below.refl w.heap.size w).alloc (Nat.le_refl _) _).alloc (by simp) _, (Box.new w x y z).alloc _, ?_⟩
  have := VBox.new (w.alloc (.cells #[.int .i64 x, .int .i64 y, .int .i64 z] 24)) 0 0 0 false { data := #[] }
  simpa [ver0] using this

set_option maxRecDepth 100000 in
set_option maxHeartbeats 1000000 in
theorem At_row (w : World) (x y z : Int) (ao : Option Addr) (len cap : Nat) (l : List Ver) (n : Nat) (r : Bool) (hl : l.length = len) (hle : len ≤ cap) (hmx : cap ≤ maxLen) (hcell : 0 < len → ∃ b off, ao = some ⟨b, off, none⟩ ∧ b < w.heap.size ∧ ∀ i, i < len → VerAt w b (off + i * 5) (vat l i))
    (hr : rightC l = r) (hn : r = true → IsCnt l x y z n) (hn0 : r = false → n = 0) (v : Ver) (hv0 : n = 0 → v = ver0) (hv1 : 0 < n → v = vat l (n - 1)) :
    Calls Tryd.prog 44 #[.slice ao len cap, (Go.Value.agg #[Go.Value.int Go.IntKind.i64 x, Go.Value.int Go.IntKind.i64 y, Go.Value.int Go.IntKind.i64 z])] w fun e w' => e = .returned (.tuple #[verV v, .bool (decide (0 < n))]) ∧ Below w.heap.size w w' := by
  have HC := Lib.hid hcell
  have HVS : ∀ W, Below w.heap.size w W → Vers W (.slice ao len cap) l := fun W hW => ⟨ao, cap, by rw [hl], by omega, hmx, fun hp => by
    obtain ⟨b, off, e1, h1, h2⟩ := hcell (by omega)
    exact ⟨b, off, e1, Nat.lt_of_lt_of_le h1 hW.size, fun i hi => (h2 i (by omega)).next hW h1⟩⟩
  have HR : Hid (∀ W, Below w.heap.size w W → Calls Tryd.prog 55 #[.slice ao len cap] W fun e w' => e = .returned (.bool r) ∧ Below W.heap.size W w') := by
    intro W hW
    rw [← hr]
    exact CRight_any (HVS W hW)
  have HU : Hid (r = true → ∀ W, Below w.heap.size w W → Calls Tryd.prog 65 #[.slice ao len cap, (Go.Value.agg #[Go.Value.int Go.IntKind.i64 x, Go.Value.int Go.IntKind.i64 y, Go.Value.int Go.IntKind.i64 z])] W fun e w' => e = .returned (.int .i64 n) ∧ Below W.heap.size W w') := by
    intro h W hW
    exact upTo_any (HVS W hW) (rightC_spec (hr.trans h)).1 (hn h)
  have HN : Hid (r = true → n ≤ len) := fun h => by rw [← hl]; exact (hn h).1
  have HN0 := Lib.hid hn0
  have HV0 := Lib.hid hv0
  have HV1 := Lib.hid hv1
  have hmx2 : len ≤ 9223372036854775807 := Nat.le_trans hle (Nat.le_trans hmx (by decide))
  have HL := Lib.hid hl
  clear hl hcell hr hn hn0 HVS hle hmx hv0 hv1
  go_enter Tryd.func44, Tryd.ntmps44
  go_upto_region 1 with (fail)
  obtain ⟨w2, H2, HW2⟩ : ∃ w2, Hid (At2 w x y z ver0 w2) ∧ Hid (((w.alloc (.cells #[.int .i64 x, .int .i64 y, .int .i64 z] 24)).alloc (.cells #[.int .i64 0, .int .i64 0, .int .i64 0, .bool false, .string ({ data := #[] })] 26)) = w2) := ⟨_, At2.new w x y z, rfl⟩
  rw [HW2.out]
  clear HW2
  go_wp2_with fail
  refine (HR.out _ H2.out.1).mono ?_
  rintro e w3 ⟨rfl, hb3⟩
  have H3 : Hid (At2 w x y z ver0 w3) := H2.out.next hb3
  clear hb3 H2
  cases r
  · have hn00 := HN0.out (by first | rfl | trivial)
    subst hn00
    have hv := HV0.out rfl
    subst hv
    go_wp2_with (refine vbox_store (w.heap.size + 1) H3.out.2.2 rfl _ _ rfl rfl rfl ?_)
    exact bodyPost_ret (vbox_result2 rfl _ _ (w.heap.size + 1) rfl (H3.out.2.2.set 0 0 0 false { data := #[] })) rfl ⟨rfl, below_setRow H3.out.1 (by omega) _⟩
  · obtain ⟨x0, x1, x2⟩ := H3.out.2.1.cell
    go_wp2_with fail
    refine (HU.out (by first | rfl | trivial) _ H3.out.1).mono ?_
    rintro e w4 ⟨rfl, hb4⟩
    have H4 : Hid (At2 w x y z ver0 w4) := H3.out.next hb4
    clear hb4 H3 x0 x1 x2
    by_cases h0 : n = 0
    · subst h0
      have hv := HV0.out rfl
      subst hv
      go_wp2_with (refine vbox_store (w.heap.size + 1) H4.out.2.2 rfl _ _ rfl rfl rfl ?_)
      exact bodyPost_ret (vbox_result2 rfl _ _ (w.heap.size + 1) rfl (H4.out.2.2.set 0 0 0 false { data := #[] })) rfl ⟨rfl, below_setRow H4.out.1 (by omega) _⟩
    · obtain ⟨m, hm⟩ : ∃ m, n = m + 1 := ⟨n - 1, by omega⟩
      subst hm
      have hnl := HN.out (by first | rfl | trivial)
      obtain ⟨b, off, rfl, hb, hcl⟩ := HC.out (by omega)
      have hv := HV1.out (by omega)
      rw [Nat.add_sub_cancel] at hv
      have HVA : Hid (VerAt w4 b (off + m * 5) v) := by rw [hv]; exact (hcl m (by omega)).next H4.out.1 hb
      clear hv hcl HV0 HV1 HU HR
      have q1 := IntWalk.i64_in (m : Int) (by omega)
      have q2 : m < len := by omega
      have q3 : (m : Int) + 1 - 1 = (m : Int) := by omega
      obtain ⟨a, t, c, g, s⟩ := v
      obtain ⟨y0, y1, y2, y3, y4⟩ := HVA.out
      dsimp only at y0 y1 y2 y3 y4
      clear h0
      go_wp2_with (refine vbox_store (w.heap.size + 1) H4.out.2.2 rfl _ _ rfl rfl rfl ?_)
      exact bodyPost_ret (vbox_result2 rfl _ _ (w.heap.size + 1) rfl (H4.out.2.2.set a t c g s)) rfl ⟨by rw [decide_eq_true (by omega : 0 < m + 1)]; rfl, below_setRow H4.out.1 (by omega) _⟩

theorem CAt_any {w : World} {v : Value} {l : List Ver} {x y z : Int} {u : Ver} {ok : Bool} (h : Vers w v l) (ha : IsAt l x y z u ok) :
    Calls Tryd.prog 44 #[v, (Go.Value.agg #[Go.Value.int Go.IntKind.i64 x, Go.Value.int Go.IntKind.i64 y, Go.Value.int Go.IntKind.i64 z])] w fun e w' => e = .returned (.tuple #[verV u, .bool ok]) ∧ Below w.heap.size w w' := by
  obtain ⟨ao, cap, rfl, h1, h2, h3⟩ := h
  rcases ha with ⟨e, rfl, rfl⟩ | ⟨e, c1, rfl, rfl⟩ | ⟨e, rfl, n, c1, rfl⟩
  · exact At_row w x y z ao _ cap l 0 false rfl h1 h2 h3 e (fun h => by cases h) (fun _ => rfl) ver0 (fun _ => rfl) (fun h => absurd h (Nat.not_lt_zero _))
  · exact At_row w x y z ao _ cap l 0 true rfl h1 h2 h3 e (fun _ => c1) (fun h => by cases h) ver0 (fun _ => rfl) (fun h => absurd h (Nat.not_lt_zero _))
  · have h4 := At_row w x y z ao _ cap l (n + 1) true rfl h1 h2 h3 e (fun _ => c1) (fun h => by cases h) (vat l n) (fun h => absurd h (by omega)) (fun h => rfl)
    rwa [decide_eq_true (by omega : 0 < n + 1)] at h4

set_option maxRecDepth 100000 in
set_option maxHeartbeats 400000 in
theorem Value_core (w : World) (v : Value) (x y z a b c : Int) (g ok : Bool) (s : ByteArray)
    (HA : Hid (∀ W, Below w.heap.size w W → Calls Tryd.prog 44 #[v, (Go.Value.agg #[Go.Value.int Go.IntKind.i64 x, Go.Value.int Go.IntKind.i64 y, Go.Value.int Go.IntKind.i64 z])] W fun e w' => e = .returned (.tuple #[(Go.Value.agg #[Go.Value.int Go.IntKind.i64 a, Go.Value.int Go.IntKind.i64 b, Go.Value.int Go.IntKind.i64 c, Go.Value.bool g, Go.Value.string s]), .bool ok]) ∧ Below W.heap.size W w')) :
    Calls Tryd.prog 47 #[v, (Go.Value.agg #[Go.Value.int Go.IntKind.i64 x, Go.Value.int Go.IntKind.i64 y, Go.Value.int Go.IntKind.i64 z])] w fun e w' => e = .returned (.tuple #[.string (valV (a, b, c, g, s) ok), .bool (hasV (a, b, c, g, s) ok)]) ∧ Below w.heap.size w w' := by
  have HB : Below w.heap.size w (w.alloc (.cells #[.int .i64 x, .int .i64 y, .int .i64 z] 24)) := (Below.refl _ _).alloc (Nat.le_refl _) _
  cases ok <;> cases g
  all_goals
    go_enter Tryd.func47, Tryd.ntmps47
    go_wp2_with fail
    refine (HA.out _ HB).mono ?_
    rintro e w1 ⟨rfl, hb1⟩
    have hb := HB.trans (hb1.mono HB.size)
    go_wp2_with fail
    go_ret2
    exact ⟨rfl, hb.alloc hb.size _⟩

theorem CValue_any {w : World} {v : Value} {l : List Ver} {x y z : Int} {u : Ver} {ok : Bool} (h : Vers w v l) (ha : IsAt l x y z u ok) :
    Calls Tryd.prog 47 #[v, (Go.Value.agg #[Go.Value.int Go.IntKind.i64 x, Go.Value.int Go.IntKind.i64 y, Go.Value.int Go.IntKind.i64 z])] w fun e w' => e = .returned (.tuple #[.string (valV u ok), .bool (hasV u ok)]) ∧ Below w.heap.size w w' := by
  obtain ⟨a, b, c, g, s⟩ := u
  obtain ⟨ao, cap, rfl, h1, h2, h3⟩ := h
  refine Value_core w _ x y z a b c g ok s fun W hW => CAt_any ⟨ao, cap, rfl, h1, h2, fun hp => ?_⟩ ha
  obtain ⟨b, off, e1, h4, h5⟩ := h3 hp
  exact ⟨b, off, e1, Nat.lt_of_lt_of_le h4 hW.size, fun i hi => (h5 i hi).next hW h4⟩

end Go.Proofs.YtkmmifonandkoaaDoor

/-
  The contract of slices.Clone at versions; chain.Prune.
-/
set_option linter.unusedVariables false
namespace Go.Proofs.YtkmmifonandkoaaDoor
open Go.RowKit

/-- The cells of a row of versions, as an append wants them. -/
theorem vers_news {w : World} {b off n : Nat} {l : List Ver} (hl : l.length = n) (h : ∀ i, i < n → VerAt w b (off + i * 5) (vat l i)) : ∀ j u, (versC l)[j]? = some u → w.cell? ((⟨b, off, none⟩ : Addr).add j) = some u := by
  intro j u hj
  have hlt : j < l.length * 5 := by rw [← versC_len]; exact (List.getElem?_eq_some_iff.1 hj).1
  have e : j = j / 5 * 5 + j % 5 := by omega
  rw [e, versC_at l (j / 5) (j % 5) (by omega) (by omega)] at hj
  obtain ⟨h0, h1, h2, h3, h4⟩ := h (j / 5) (by omega)
  have ha : (⟨b, off, none⟩ : Addr).add j = ⟨b, off + j / 5 * 5 + j % 5, none⟩ := by
    rw [Addr.add_lit, show off + j = off + j / 5 * 5 + j % 5 by omega]
  rw [ha]
  have hs : j % 5 = 0 ∨ j % 5 = 1 ∨ j % 5 = 2 ∨ j % 5 = 3 ∨ j % 5 = 4 := by omega
  rcases hs with e | e | e | e | e <;> rw [e] at hj ⊢ <;> simp [verC] at hj <;> subst hj <;> assumption
theorem versC_one (l : List Ver) : ∀ u ∈ versC l, u.oneCell' = true := by
  intro u hu
  obtain ⟨v, _, hv⟩ := List.mem_flatMap.1 hu
  simp only [verC, List.mem_cons, List.not_mem_nil, or_false] at hv
  rcases hv with rfl | rfl | rfl | rfl | rfl <;> rfl

set_option maxRecDepth 100000 in
set_option maxHeartbeats 1000000 in
theorem Clone_some (w : World) (ad : Addr) (n cap : Nat) (l : List Ver) (hl : l.length = n) (h64 : n ≤ 64) (hcell : ∀ j u, (versC l)[j]? = some u → w.cell? (ad.add j) = some u) :
    Calls Tryd.prog 60 #[.slice (some ad) n cap] w fun e w' => ∃ v, e = .returned v ∧ OwnsV w' w.heap.size v l ∧ Below w.heap.size w w' := by
  obtain ⟨i0, hi, hz0, hz1, hz2⟩ := info_parts info_ver
  have q22 : ∀ (w : World) (a : Option Addr) (n c n' c' : Nat), (binOp .eql 39 (.slice a n c) (.slice none n' c')).run Tryd.prog w = .ok (.bool a.isNone) w := fun w a n c n' c' => Lib.run_eql_slice_nil w _ _ a n c n' c' Tryd.underlying39
  have HC := Lib.hid hcell
  have HL := Lib.hid hl
  have hmul : (versC l).length = n * 5 := by rw [versC_len, hl]
  have HM := Lib.hid hmul
  clear hcell hl hmul
  go_enter Tryd.func60, Tryd.ntmps60
  go_wp2_with (at_builtin; refine wpList_append_own _ rfl _ _ 39 rfl w.heap.size 26 i0 _ 5 48 Tryd.underlying39 hi hz0 hz1 hz2 rfl (by decide) _ _ _ rfl (World.ownsRow_made w #[] 0 (Nat.le_refl _) (Nat.zero_le _) rfl) ad n cap (versC l) rfl HM.out ?qc2 (versC_one l) ?qc4 ?qc5 ?qc6 ?_)
  case qc2 => exact fun j u hj => Lib.cell?_alloc_some _ (HC.out j u hj)
  case qc4 => unfold maxLen; omega
  case qc5 => omega
  case qc6 => simp
  intro v' w1 hown hgrow hnil
  have HB : Hid (Below w.heap.size w w1) := ((Below.refl _ w).alloc (Nat.le_refl _) _).grown hgrow (by simp) (by intro k hk; simp [Value.ownBlock] at hk; omega)
  have HO : Hid (OwnsV w1 w.heap.size v' l) := by
    show OwnsV _ _ _ _
    unfold OwnsV
    rw [HL.out]
    simpa using hown
  clear hown hgrow hnil
  go_wp2_with fail
  go_ret
  exact ⟨v', rfl, HO.out, HB.out⟩

set_option maxRecDepth 100000 in
set_option maxHeartbeats 400000 in
theorem Clone_nil (w : World) (n cap : Nat) :
    Calls Tryd.prog 60 #[.slice none n cap] w fun e w' => ∃ v, e = .returned v ∧ OwnsV w' w.heap.size v [] ∧ Below w.heap.size w w' := by
  have q22 : ∀ (w : World) (a : Option Addr) (n c n' c' : Nat), (binOp .eql 39 (.slice a n c) (.slice none n' c')).run Tryd.prog w = .ok (.bool a.isNone) w := fun w a n c n' c' => Lib.run_eql_slice_nil w _ _ a n c n' c' Tryd.underlying39
  go_enter Tryd.func60, Tryd.ntmps60
  go_wp2_with fail
  go_ret
  exact ⟨_, rfl, World.ownsRow_nil _ _ _ _, Below.refl _ _⟩

/-- The rest of a slice of versions, as slicing gives it: cloned. -/
theorem Clone_any {w : World} {v : Value} {l : List Ver} (h : Vers w v l) (h64 : l.length ≤ 64) :
    Calls Tryd.prog 60 #[v] w fun e w' => ∃ v', e = .returned v' ∧ OwnsV w' w.heap.size v' l ∧ Below w.heap.size w w' := by
  obtain ⟨ao, cap, rfl, h1, h2, h3⟩ := h
  cases ao with
  | none =>
    have : l = [] := by
      rcases Nat.eq_zero_or_pos l.length with h | h
      · exact List.length_eq_zero_iff.1 h
      · obtain ⟨b, off, e, _⟩ := h3 h; cases e
    subst this
    exact Clone_nil w _ cap
  | some ad =>
    refine Clone_some w ad _ cap l rfl h64 ?_
    rcases Nat.eq_zero_or_pos l.length with h | h
    · intro j u hj
      have : l = [] := List.length_eq_zero_iff.1 h
      subst this
      simp [versC] at hj
    · obtain ⟨b, off, e, hb, hcl⟩ := h3 h
      obtain rfl : ad = ⟨b, off, none⟩ := Option.some.inj e
      exact vers_news rfl hcl

end Go.Proofs.YtkmmifonandkoaaDoor
