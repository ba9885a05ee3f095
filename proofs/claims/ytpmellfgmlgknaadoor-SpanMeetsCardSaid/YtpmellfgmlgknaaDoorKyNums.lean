/-
  Slices of numbers: of the call's own, and wherever they lie.
-/
import Derived.Test.YtpmellfgmlgknaaDoorKyRest
namespace Go.Proofs.YtpmellfgmlgknaaDoor
open Go.RowKit
set_option linter.unusedVariables false

/-- Numbers of one kind, wherever they lie. -/
def NumsAt (k : IntKind) (w : World) (v : Value) (l : List Nat) : Prop :=
  ∃ ao cap, v = .slice ao l.length cap ∧ (0 < l.length → ∃ b, ao = some ⟨b, 0, none⟩ ∧ b < w.heap.size ∧ ∀ i, i < l.length → w.cell? ⟨b, i, none⟩ = some (.int k ((l.getD i 0 : Nat) : Int)))
theorem NumsAt.next {k : IntKind} {w w' : World} {v : Value} {l : List Nat} (h : NumsAt k w v l) (hb : Below w.heap.size w w') : NumsAt k w' v l := by
  obtain ⟨ao, cap, e, h1⟩ := h
  refine ⟨ao, cap, e, fun hp => ?_⟩
  obtain ⟨b, e2, h4, h5⟩ := h1 hp
  exact ⟨b, e2, Nat.lt_of_lt_of_le h4 hb.size, fun i hi => (hb.cell (p := ⟨b, i, none⟩) h4).trans (h5 i hi)⟩

def intsV (l : List Nat) : List Value := l.map fun (c : Nat) => Value.int .i64 (c : Int)
def OwnsI (w : World) (base : Nat) (v : Value) (l : List Nat) : Prop := w.ownsRow base 3 1 v l.length (intsV l)
theorem info_int : (Tryd.prog.info? 3).map (fun i => (i.zero, i.size, i.bytes)) = some (some (.int .i64 0), 1, 8) := by kernel_rfl
theorem block_lt {w : World} {h : Nat} {o : Obj} (e : w.heap[h]? = some o) : h < w.heap.size := by
  rcases Nat.lt_or_ge h w.heap.size with h1 | h1
  · exact h1
  · rw [Array.getElem?_eq_none h1] at e; cases e
theorem OwnsI.nums {w : World} {B : Nat} {v : Value} {l : List Nat} (h : OwnsI w B v l) : NumsAt .i64 w v l := by
  have h' : w.ownsRow B 3 1 v l.length (intsV l) := h
  rcases h'.2 with ⟨e, hn⟩ | ⟨g, cap, cur, e, hB, hg, hc, hm, _, _⟩
  · exact ⟨none, 0, by rw [e, hn], fun hp => by omega⟩
  · refine ⟨some ⟨g, 0, none⟩, cap, e, fun _ => ⟨g, rfl, block_lt hg, fun i hi => ?_⟩⟩
    subst e
    rw [h'.cellAt i (by omega)]
    simp [intsV, hi, List.getD]

end Go.Proofs.YtpmellfgmlgknaaDoor
