/-
  Spans that came in, by value and in a slice.
-/
import Derived.Test.YtpmellfgmlgknaaDoorSpRefWhole
import Derived.ProofKit
import Derived.ChangeSame
import Derived.Deep.Strs
import Derived.Lib.SmallJoins
import Derived.Deep.Slices
import Derived.Below
set_option linter.unusedVariables false
namespace Go.Proofs.YtpmellfgmlgknaaDoor
open Go.RowKit Go.ChangeShapes Go.WideShapes Go.Deep

def spnC (s : Spn) : List Value := [.string s.1, .string s.2]
theorem trod_span {H : Type} {enc : TypeId × Value → H} {W : World} {base fuel : Nat} {sp : Nat → Bool} {hd : Bool} {cs : List Value} {x : DataW H × List MemPlace} (hl : cs.length = 2)
    (h : DataW.trod enc Tryd.prog W base sp hd fuel 23 cs = some x) : ∃ v : Spn, cs = spnC v := by
  match cs, hl with
  | [v0, v1], _ =>
    obtain ⟨y0, y1, n, _, _, h0, h1⟩ := ChangeShapes.trod_struct2 Tryd.underlying23 h
    have kt : Tryd.prog.cellsOf 9 = 1 := by kernel_rfl
    have g0 : DataW.trod enc Tryd.prog W base sp hd n 9 (([v0, v1].drop 0).take (Tryd.prog.cellsOf 9)) = some y0 := h0
    have g1 : DataW.trod enc Tryd.prog W base sp hd n 9 (([v0, v1].drop 1).take (Tryd.prog.cellsOf 9)) = some y1 := h1
    rw [kt] at g0 g1
    obtain ⟨s, f0, _⟩ := DataW.trod_string Tryd.underlying9 g0
    obtain ⟨u, f1, _⟩ := DataW.trod_string Tryd.underlying9 g1
    simp only [List.drop, List.take, List.cons.injEq, and_true] at f0 f1
    subst f0; subst f1
    exact ⟨(s, u), rfl⟩

set_option maxRecDepth 100000 in
theorem open_span {H : Type} {enc : TypeId × Value → H} {W : World} {base b0 : Nat} {r : Reach} {sp : Nat → Bool} {hd : Bool} {v : Value} {d : DataW H} {p : List MemPlace} (hv : Value.okWide Tryd.prog W r b0 23 v)
    (h : DataW.Trod enc Tryd.prog W base sp hd 23 v d p) : ∃ a b : ByteArray, v = (Go.Value.agg #[Go.Value.string a, Go.Value.string b]) := by
  obtain ⟨cs, rfl, hsz⟩ := okWide_struct Tryd.underlying23 hv
  have k2 : Tryd.prog.cellsOf 23 = 2 := by kernel_rfl
  rw [k2] at hsz
  obtain ⟨l⟩ := cs
  obtain ⟨fuel, hf⟩ := h
  obtain ⟨⟨a, b⟩, e⟩ := trod_span (by simpa using hsz) (show DataW.trod enc Tryd.prog W base sp hd fuel 23 l = some (d, p) from hf)
  exact ⟨a, b, by rw [e]; rfl⟩

set_option maxRecDepth 100000 in
theorem open_spans {H : Type} {enc : TypeId × Value → H} {W : World} {b0 : Nat} {r : Reach} {hd : Bool} {v : Value} {d : DataW H} {p : List MemPlace} (hv : Value.okWide Tryd.prog W r b0 37 v)
    (h : DataW.Trod enc Tryd.prog W 0 (fun _ => true) hd 37 v d p) (hlt : ∀ x ∈ p, x.block < W.heap.size) : ∃ l : List Spn, Spans W v l := by
  obtain ⟨o, len, cap, rfl⟩ := okWide_slice Tryd.underlying37 hv
  obtain ⟨fuel, hf⟩ := h
  rcases open_slice Tryd.underlying37 hf with ⟨hcs, _⟩ | ⟨a, l, c, m, n, D, Pl, hcs, _, hl, hm, hmm, hx, hcell⟩
  · simp [Value.cells] at hcs
    obtain ⟨rfl, rfl, rfl⟩ := hcs
    exact ⟨[], none, 0, rfl, by simp, by unfold maxLen; omega, fun hp => absurd hp (Nat.not_lt_zero _)⟩
  · simp [Value.cells] at hcs
    obtain ⟨rfl, rfl, rfl⟩ := hcs
    by_cases h0 : len = 0
    · subst h0
      exact ⟨[], _, _, rfl, by simp, hm, fun hp => absurd hp (Nat.not_lt_zero _)⟩
    have hm2 : m = cap := by simpa using hmm
    subst hm2
    have k2 : Tryd.prog.cellsOf 23 = 2 := by kernel_rfl
    rw [k2] at hx hcell
    simp only [Prod.mk.injEq] at hx
    obtain ⟨b, off, spot⟩ := a
    have hspot : spot = none := by
      obtain ⟨cs', h1, h2⟩ := hcell 0 (by omega)
      obtain ⟨_, hlen, hc⟩ := World.cells?_some h1
      obtain ⟨q, rfl⟩ := trod_span hlen h2
      have c0 : W.cell? (((⟨b, off, spot⟩ : Addr).add (0 * 2)).add 0) = some (.string q.1) := by simpa [spnC] using hc 0 (by omega)
      simpa [Addr.add] using World.cell?_spot c0
    subst hspot
    have each : ∀ i, i < len → ∃ q : Spn, SpanAt W b (off + i * 2) q := by
      intro i hi
      obtain ⟨cs', h1, h2⟩ := hcell i (by omega)
      obtain ⟨_, hlen, hc⟩ := World.cells?_some h1
      obtain ⟨q, rfl⟩ := trod_span hlen h2
      have ad : ∀ j, ((⟨b, off, none⟩ : Addr).add (i * 2)).add j = ⟨b, off + i * 2 + j, none⟩ := by
        intro j
        rw [add_add]
        unfold Addr.add
        split
        · rename_i h9
          have e1 : off + i * 2 + j = off := by omega
          rw [e1]
        · rw [Nat.add_assoc]
      have c0 := hc 0 (by omega)
      have c1 := hc 1 (by omega)
      rw [ad] at c0 c1
      exact ⟨q, by simpa [spnC] using c0, by simpa [spnC] using c1⟩
    obtain ⟨q, hq⟩ := choose_lt (α := Spn) each
    refine ⟨(List.range len).map q, some ⟨b, off, none⟩, m, by simp, by simpa using hl, hm, fun _ => ⟨b, off, rfl, hlt (.cell b off) ?_, fun i hi => ?_⟩⟩
    · rw [hx.2]
      exact List.mem_append.2 (.inl (MemPlace.mem_row.2 ⟨0, by omega, by simp⟩))
    · have hi' : i < len := by simpa using hi
      have e1 : sat ((List.range len).map q) i = q i := by simp [sat, List.getD, hi']
      rw [e1]
      exact hq i hi'


end Go.Proofs.YtpmellfgmlgknaaDoor
