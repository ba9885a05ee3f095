/-
  What the laws of chains ask of package chain's functions: their contracts' forms.
-/
import Derived.Test.YtbboamfjkdcjeaaVrBox
import Derived.Test.YtbboamfjkdcjeaaVrPlain
set_option linter.unusedVariables false
namespace Go.Proofs.Ytbboamfjkdcjeaa
open Go.RowKit

def FRight : Prop := ∀ (W : World) (v : Value) (l : List Ver), Vers W v l → Calls Try.prog 14 #[v] W fun e w' => e = .returned (.bool (rightC l)) ∧ Below W.heap.size W w'
def FAt : Prop := ∀ (W : World) (v : Value) (l : List Ver) (x y z a b c : Int) (g : Bool) (s : ByteArray) (ok : Bool), Vers W v l → IsAt l x y z (a, b, c, g, s) ok → Calls Try.prog 16 #[v, (Go.Value.agg #[Go.Value.int Go.IntKind.i64 x, Go.Value.int Go.IntKind.i64 y, Go.Value.int Go.IntKind.i64 z])] W fun e w' => e = .returned (.tuple #[(Go.Value.agg #[Go.Value.int Go.IntKind.i64 a, Go.Value.int Go.IntKind.i64 b, Go.Value.int Go.IntKind.i64 c, Go.Value.bool g, Go.Value.string s]), .bool ok]) ∧ Below W.heap.size W w'
def FValue : Prop := ∀ (W : World) (v : Value) (l : List Ver) (x y z : Int) (u : Ver) (ok : Bool), Vers W v l → IsAt l x y z u ok → Calls Try.prog 18 #[v, (Go.Value.agg #[Go.Value.int Go.IntKind.i64 x, Go.Value.int Go.IntKind.i64 y, Go.Value.int Go.IntKind.i64 z])] W fun e w' => e = .returned (.tuple #[.string (valV u ok), .bool (hasV u ok)]) ∧ Below W.heap.size W w'
/-- What a chain is behind pruning. -/
def IsPruned (l : List Ver) (x y z : Int) (m : List Ver) : Prop := (rightC l = false ∧ m = []) ∨ (rightC l = true ∧ ∃ k, IsCut l x y z k ∧ m = l.drop k)
theorem pruned_ex (l : List Ver) (x y z : Int) : ∃ m, IsPruned l x y z m := by
  cases h : rightC l
  · exact ⟨_, .inl ⟨h, rfl⟩⟩
  · obtain ⟨k, hk⟩ := cut_ex h x y z
    exact ⟨_, .inr ⟨h, k, hk, rfl⟩⟩
theorem pruned_right {l : List Ver} {x y z : Int} {m : List Ver} (h : IsPruned l x y z m) (hr : rightC l = true) : rightC m = true ∧ m.length ≤ l.length := by
  rcases h with ⟨e, _⟩ | ⟨_, k, _, rfl⟩
  · rw [hr] at e; cases e
  · exact ⟨right_drop hr k, by simp⟩
theorem pruned_keeps {l : List Ver} {a b c x y z : Int} {m : List Ver} {v u : Ver} {ok ok' : Bool} (hr : rightC l = true) (h : IsPruned l a b c m) (hle : befB x y z a b c = false) (h1 : IsAt l x y z v ok) (h2 : IsAt m x y z u ok') : valV v ok = valV u ok' ∧ hasV v ok = hasV u ok' := by
  rcases h with ⟨e, _⟩ | ⟨_, k, hk, rfl⟩
  · rw [hr] at e; cases e
  · exact cut_keeps hr hk hle h1 h2
theorem pruned_twice {l : List Ver} {a b c a' b' c' x y z : Int} {m m2 m3 : List Ver} (hr : rightC l = true) (h : IsPruned l a b c m) (h2 : IsPruned m a' b' c' m2) (h3 : IsPruned l x y z m3)
    (hl : (x = a ∧ y = b ∧ z = c ∧ befB a b c a' b' c' = false) ∨ (x = a' ∧ y = b' ∧ z = c' ∧ befB a' b' c' a b c = false)) : m2 = m3 := by
  rcases h with ⟨e, _⟩ | ⟨_, k, hk, rfl⟩
  · rw [hr] at e; cases e
  rcases h2 with ⟨e, _⟩ | ⟨_, i, hi, rfl⟩
  · rw [right_drop hr k] at e; cases e
  rcases h3 with ⟨e, _⟩ | ⟨_, j, hj, rfl⟩
  · rw [hr] at e; cases e
  exact cut_twice hk hi hr hl hj
def FPrune : Prop := ∀ (W : World) (v : Value) (l : List Ver) (x y z : Int) (m : List Ver), Vers W v l → IsPruned l x y z m → Calls Try.prog 20 #[v, (Go.Value.agg #[Go.Value.int Go.IntKind.i64 x, Go.Value.int Go.IntKind.i64 y, Go.Value.int Go.IntKind.i64 z])] W fun e w' => ∃ v', e = .returned v' ∧ Vers w' v' m ∧ Below W.heap.size W w'
/-- What Add gives: the chain, and the error's number. -/
def IsAdd (l : List Ver) (u : Ver) (m : List Ver) (e : Int) : Prop :=
  ((rightC l = false ∨ oneB u = false) ∧ m = [] ∧ e = 1) ∨
  (rightC l = true ∧ oneB u = true ∧ 0 < l.length ∧ befV (vat l (l.length - 1)) u = false ∧ m = [] ∧ e = 9) ∨
  (rightC l = true ∧ oneB u = true ∧ (l.length = 0 ∨ befV (vat l (l.length - 1)) u = true) ∧ 64 ≤ l.length ∧ m = [] ∧ e = 6) ∨
  (rightC l = true ∧ oneB u = true ∧ (l.length = 0 ∨ befV (vat l (l.length - 1)) u = true) ∧ l.length < 64 ∧ m = l ++ [u] ∧ e = 0)
theorem add_ex (l : List Ver) (u : Ver) : ∃ m e, IsAdd l u m e := by
  cases h1 : rightC l
  · exact ⟨_, _, .inl ⟨.inl h1, rfl, rfl⟩⟩
  cases h2 : oneB u
  · exact ⟨_, _, .inl ⟨.inr h2, rfl, rfl⟩⟩
  by_cases h3 : l.length = 0 ∨ befV (vat l (l.length - 1)) u = true
  · by_cases h4 : l.length < 64
    · exact ⟨_, _, .inr (.inr (.inr ⟨h1, h2, h3, h4, rfl, rfl⟩))⟩
    · exact ⟨_, _, .inr (.inr (.inl ⟨h1, h2, h3, by omega, rfl, rfl⟩))⟩
  · refine ⟨_, _, .inr (.inl ⟨h1, h2, ?_, ?_, rfl, rfl⟩)⟩
    · rcases Nat.eq_zero_or_pos l.length with h | h
      · exact absurd (.inl h) h3
      · exact h
    · cases hb : befV (vat l (l.length - 1)) u
      · rfl
      · exact absurd (.inr hb) h3
def FAdd : Prop := ∀ (W : World) (v : Value) (l : List Ver) (a b c : Int) (g : Bool) (s : ByteArray) (m : List Ver) (e : Int), Vers W v l → IsAdd l (a, b, c, g, s) m e → Calls Try.prog 10 #[v, (Go.Value.agg #[Go.Value.int Go.IntKind.i64 a, Go.Value.int Go.IntKind.i64 b, Go.Value.int Go.IntKind.i64 c, Go.Value.bool g, Go.Value.string s])] W fun e' w' => ∃ v', e' = .returned (.tuple #[v', .int .i64 e]) ∧ Vers w' v' m ∧ Below W.heap.size W w'
theorem vers_nil (W : World) : Vers W (.slice none 0 0) [] := ⟨none, 0, rfl, Nat.le_refl _, by unfold maxLen; omega, fun h => absurd h (Nat.not_lt_zero _)⟩

end Go.Proofs.Ytbboamfjkdcjeaa
