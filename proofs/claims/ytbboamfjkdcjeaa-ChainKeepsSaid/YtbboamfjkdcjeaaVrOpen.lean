/-
  Versions that came in, by value and in a slice.
-/
import Derived.Test.YtbboamfjkdcjeaaSmOpen
import Derived.Test.YtbboamfjkdcjeaaVrBox
import Derived.Deep.Slices
import Derived.Below
set_option linter.unusedVariables false
namespace Go.Proofs.Ytbboamfjkdcjeaa
open Go.RowKit Go.ChangeShapes Go.WideShapes Go.Deep

theorem trod_version {H : Type} {enc : TypeId × Value → H} {W : World} {base fuel : Nat} {sp : Nat → Bool} {hd : Bool} {cs : List Value} {x : DataW H × List MemPlace} (hl : cs.length = 5)
    (h : DataW.trod enc Try.prog W base sp hd fuel 26 cs = some x) : ∃ v : Ver, cs = verC v := by
  match cs, hl with
  | [v0, v1, v2, v3, v4], _ =>
    obtain ⟨y0, y1, y2, n, _, _, h0, h1, h2⟩ := trod_struct3 Try.underlying26 h
    have ks : Try.prog.cellsOf 24 = 3 := by kernel_rfl
    have kb : Try.prog.cellsOf 4 = 1 := by kernel_rfl
    have kt : Try.prog.cellsOf 9 = 1 := by kernel_rfl
    have g0 : DataW.trod enc Try.prog W base sp hd n 24 (([v0, v1, v2, v3, v4].drop 0).take (Try.prog.cellsOf 24)) = some y0 := h0
    have g1 : DataW.trod enc Try.prog W base sp hd n 4 (([v0, v1, v2, v3, v4].drop 3).take (Try.prog.cellsOf 4)) = some y1 := h1
    have g2 : DataW.trod enc Try.prog W base sp hd n 9 (([v0, v1, v2, v3, v4].drop 4).take (Try.prog.cellsOf 9)) = some y2 := h2
    rw [ks] at g0
    rw [kb] at g1
    rw [kt] at g2
    obtain ⟨a, b, c, f0⟩ := trod_stamp rfl g0
    obtain ⟨n1, f1, _⟩ := DataW.trod_bool Try.underlying4 g1
    obtain ⟨s, f2, _⟩ := DataW.trod_string Try.underlying9 g2
    simp only [List.drop, List.take, List.cons.injEq, and_true] at f0 f1 f2
    obtain ⟨rfl, rfl, rfl⟩ := f0
    subst f1; subst f2
    exact ⟨(_, _, _, n1, s), rfl⟩

theorem open_version {H : Type} {enc : TypeId × Value → H} {W : World} {base b0 : Nat} {r : Reach} {sp : Nat → Bool} {hd : Bool} {v : Value} {d : DataW H} {p : List MemPlace} (hv : Value.okWide Try.prog W r b0 26 v)
    (h : DataW.Trod enc Try.prog W base sp hd 26 v d p) : ∃ (a b c : Int) (g : Bool) (s : ByteArray), v = (Go.Value.agg #[Go.Value.int Go.IntKind.i64 a, Go.Value.int Go.IntKind.i64 b, Go.Value.int Go.IntKind.i64 c, Go.Value.bool g, Go.Value.string s]) := by
  obtain ⟨cs, rfl, hsz⟩ := okWide_struct Try.underlying26 hv
  have k5 : Try.prog.cellsOf 26 = 5 := by kernel_rfl
  rw [k5] at hsz
  obtain ⟨l⟩ := cs
  obtain ⟨fuel, hf⟩ := h
  obtain ⟨⟨a, b, c, g, s⟩, e⟩ := trod_version (by simpa using hsz) (show DataW.trod enc Try.prog W base sp hd fuel 26 l = some (d, p) from hf)
  exact ⟨a, b, c, g, s, by rw [e]; rfl⟩

theorem open_versions {H : Type} {enc : TypeId × Value → H} {W : World} {b0 : Nat} {r : Reach} {hd : Bool} {v : Value} {d : DataW H} {p : List MemPlace} (hv : Value.okWide Try.prog W r b0 22 v)
    (h : DataW.Trod enc Try.prog W 0 (fun _ => true) hd 22 v d p) (hlt : ∀ x ∈ p, x.block < W.heap.size) : ∃ l : List Ver, Vers W v l := by
  obtain ⟨o, len, cap, rfl⟩ := okWide_slice Try.underlying22 hv
  obtain ⟨fuel, hf⟩ := h
  rcases open_slice Try.underlying22 hf with ⟨hcs, _⟩ | ⟨a, l, c, m, n, D, Pl, hcs, _, hl, hm, hmm, hx, hcell⟩
  · simp [Value.cells] at hcs
    obtain ⟨rfl, rfl, rfl⟩ := hcs
    exact ⟨[], none, 0, rfl, by simp, by unfold maxLen; omega, fun hp => absurd hp (Nat.not_lt_zero _)⟩
  · simp [Value.cells] at hcs
    obtain ⟨rfl, rfl, rfl⟩ := hcs
    by_cases h0 : len = 0
    · subst h0
      exact ⟨[], _, _, rfl, by simp, hm, fun hp => absurd hp (Nat.not_lt_zero _)⟩
    have hm2 : m = cap := by simpa using hmm
    subst hm2
    have k5 : Try.prog.cellsOf 26 = 5 := by kernel_rfl
    rw [k5] at hx hcell
    simp only [Prod.mk.injEq] at hx
    obtain ⟨b, off, spot⟩ := a
    have hspot : spot = none := by
      obtain ⟨cs', h1, h2⟩ := hcell 0 (by omega)
      obtain ⟨_, hlen, hc⟩ := World.cells?_some h1
      obtain ⟨q, rfl⟩ := trod_version hlen h2
      have c0 : W.cell? (((⟨b, off, spot⟩ : Addr).add (0 * 5)).add 0) = some (.int .i64 q.1) := by simpa [verC] using hc 0 (by omega)
      simpa [Addr.add] using World.cell?_spot c0
    subst hspot
    have each : ∀ i, i < len → ∃ q : Ver, VerAt W b (off + i * 5) q := by
      intro i hi
      obtain ⟨cs', h1, h2⟩ := hcell i (by omega)
      obtain ⟨_, hlen, hc⟩ := World.cells?_some h1
      obtain ⟨q, rfl⟩ := trod_version hlen h2
      have ad : ∀ j, ((⟨b, off, none⟩ : Addr).add (i * 5)).add j = ⟨b, off + i * 5 + j, none⟩ := by
        intro j
        rw [add_add]
        unfold Addr.add
        split
        · rename_i h9
          have e1 : off + i * 5 + j = off := by omega
          rw [e1]
        · rw [Nat.add_assoc]
      have c0 := hc 0 (by omega)
      have c1 := hc 1 (by omega)
      have c2 := hc 2 (by omega)
      have c3 := hc 3 (by omega)
      have c4 := hc 4 (by omega)
      rw [ad] at c0 c1 c2 c3 c4
      exact ⟨q, by simpa [verC] using c0, by simpa [verC] using c1, by simpa [verC] using c2, by simpa [verC] using c3, by simpa [verC] using c4⟩
    obtain ⟨q, hq⟩ := choose_lt (α := Ver) each
    refine ⟨(List.range len).map q, some ⟨b, off, none⟩, m, by simp, by simpa using hl, hm, fun _ => ⟨b, off, rfl, hlt (.cell b off) ?_, fun i hi => ?_⟩⟩
    · rw [hx.2]
      exact List.mem_append.2 (.inl (MemPlace.mem_row.2 ⟨0, by omega, by simp⟩))
    · have hi' : i < len := by simpa using hi
      have e1 : vat ((List.range len).map q) i = q i := by simp [vat, List.getD, hi']
      rw [e1]
      exact hq i hi'

end Go.Proofs.Ytbboamfjkdcjeaa
