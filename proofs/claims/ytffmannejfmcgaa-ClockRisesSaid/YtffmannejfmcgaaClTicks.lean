/-
  A row of ticks that came in: what each cell holds.
-/
import Derived.Test.YtffmannejfmcgaaClOpen
import Derived.Deep.Slices
import Derived.Below
set_option linter.unusedVariables false
namespace Go.Proofs.Ytffmannejfmcgaa
open Go.RowKit Go.ChangeShapes Go.WideShapes Go.Deep

/-- The cells of one tick. -/
def TickAt (W : World) (b off : Nat) (q : Int × Bool × Int × Int × Int) : Prop :=
  W.cell? ⟨b, off, none⟩ = some (.int .i64 q.1) ∧ W.cell? ⟨b, off + 1, none⟩ = some (.bool q.2.1) ∧ W.cell? ⟨b, off + 2, none⟩ = some (.int .i64 q.2.2.1) ∧ W.cell? ⟨b, off + 3, none⟩ = some (.int .i64 q.2.2.2.1) ∧ W.cell? ⟨b, off + 4, none⟩ = some (.int .i64 q.2.2.2.2)
/-- A slice of ticks. -/
def IsTicks (W : World) (o : Option Addr) (len : Nat) (T : Nat → Int × Bool × Int × Int × Int) : Prop :=
  len = 0 ∨ ∃ b off, o = some ⟨b, off, none⟩ ∧ b < W.heap.size ∧ ∀ i, i < len → TickAt W b (off + i * 5) (T i)
theorem cell_below {B : Nat} {w w' : World} {b : Nat} (hb : Below B w w') (h : b < B) (i : Nat) : w'.cell? ⟨b, i, none⟩ = w.cell? ⟨b, i, none⟩ := by
  unfold World.cell?
  simp only [hb.block b h]
theorem TickAt.next {B : Nat} {w w' : World} {b off : Nat} {q : Int × Bool × Int × Int × Int} (H : TickAt w b off q) (hb : Below B w w') (h : b < B) : TickAt w' b off q := by
  unfold TickAt
  simp only [cell_below hb h]
  exact H

theorem trod_tick {H : Type} {enc : TypeId × Value → H} {W : World} {base fuel : Nat} {sp : Nat → Bool} {hd : Bool} {cs : List Value} {x : DataW H × List MemPlace} (hl : cs.length = 5)
    (h : DataW.trod enc Try.prog W base sp hd fuel 44 cs = some x) : ∃ (n : Int) (t : Bool) (a b c : Int), cs = [.int .i64 n, .bool t, .int .i64 a, .int .i64 b, .int .i64 c] := by
  match cs, hl with
  | [v0, v1, v2, v3, v4], _ =>
    obtain ⟨y0, y1, y2, n, _, _, h0, h1, h2⟩ := trod_struct3 Try.underlying44 h
    have k : Try.prog.cellsOf 3 = 1 := by kernel_rfl
    have kb : Try.prog.cellsOf 4 = 1 := by kernel_rfl
    have ks : Try.prog.cellsOf 23 = 3 := by kernel_rfl
    have g0 : DataW.trod enc Try.prog W base sp hd n 3 (([v0, v1, v2, v3, v4].drop 0).take (Try.prog.cellsOf 3)) = some y0 := h0
    have g1 : DataW.trod enc Try.prog W base sp hd n 4 (([v0, v1, v2, v3, v4].drop 1).take (Try.prog.cellsOf 4)) = some y1 := h1
    have g2 : DataW.trod enc Try.prog W base sp hd n 23 (([v0, v1, v2, v3, v4].drop 2).take (Try.prog.cellsOf 23)) = some y2 := h2
    rw [k] at g0
    rw [kb] at g1
    rw [ks] at g2
    obtain ⟨n0, f0, _, _⟩ := DataW.trod_int Try.underlying3 g0
    obtain ⟨n1, f1, _⟩ := DataW.trod_bool Try.underlying4 g1
    obtain ⟨a, b, c, f2⟩ := trod_stamp rfl g2
    simp only [List.drop, List.take, List.cons.injEq, and_true] at f0 f1 f2
    obtain ⟨rfl, rfl, rfl⟩ := f2
    subst f0; subst f1
    exact ⟨n0, n1, _, _, _, rfl⟩

theorem open_ticks {H : Type} {enc : TypeId × Value → H} {W : World} {b0 : Nat} {r : Reach} {hd : Bool} {v : Value} {d : DataW H} {p : List MemPlace} (hv : Value.okWide Try.prog W r b0 42 v)
    (h : DataW.Trod enc Try.prog W 0 (fun _ => true) hd 42 v d p) (hlt : ∀ x ∈ p, x.block < W.heap.size) : ∃ (o : Option Addr) (len cap : Nat) (T : Nat → Int × Bool × Int × Int × Int), v = .slice o len cap ∧ IsTicks W o len T := by
  obtain ⟨o, len, cap, rfl⟩ := okWide_slice Try.underlying42 hv
  obtain ⟨fuel, hf⟩ := h
  rcases open_slice Try.underlying42 hf with ⟨hcs, _⟩ | ⟨a, l, c, m, n, D, Pl, hcs, _, hl, hm, hmm, hx, hcell⟩
  · simp [Value.cells] at hcs
    obtain ⟨rfl, rfl, rfl⟩ := hcs
    exact ⟨_, _, _, fun _ => (0, false, 0, 0, 0), rfl, .inl rfl⟩
  · simp [Value.cells] at hcs
    obtain ⟨rfl, rfl, rfl⟩ := hcs
    by_cases h0 : len = 0
    · exact ⟨_, _, _, fun _ => (0, false, 0, 0, 0), rfl, .inl h0⟩
    have hm2 : m = cap := by simpa using hmm
    subst hm2
    have k5 : Try.prog.cellsOf 44 = 5 := by kernel_rfl
    rw [k5] at hx hcell
    simp only [Prod.mk.injEq] at hx
    obtain ⟨b, off, spot⟩ := a
    have hspot : spot = none := by
      obtain ⟨cs', h1, h2⟩ := hcell 0 (by omega)
      obtain ⟨_, hlen, hc⟩ := World.cells?_some h1
      obtain ⟨x0, x1, x2, x3, x4, rfl⟩ := trod_tick hlen h2
      have c0 : W.cell? (((⟨b, off, spot⟩ : Addr).add (0 * 5)).add 0) = some (.int .i64 x0) := by simpa using hc 0 (by omega)
      simpa [Addr.add] using World.cell?_spot c0
    subst hspot
    have each : ∀ i, i < len → ∃ q : Int × Bool × Int × Int × Int, TickAt W b (off + i * 5) q := by
      intro i hi
      obtain ⟨cs', h1, h2⟩ := hcell i (by omega)
      obtain ⟨_, hlen, hc⟩ := World.cells?_some h1
      obtain ⟨x0, x1, x2, x3, x4, rfl⟩ := trod_tick hlen h2
      have c0 := hc 0 (by omega)
      have c1 := hc 1 (by omega)
      have c2 := hc 2 (by omega)
      have c3 := hc 3 (by omega)
      have c4 := hc 4 (by omega)
      refine ⟨(x0, x1, x2, x3, x4), ?_⟩
      have ad : ∀ j, ((⟨b, off, none⟩ : Addr).add (i * 5)).add j = ⟨b, off + i * 5 + j, none⟩ := by
        intro j
        rw [add_add]
        unfold Addr.add
        split
        · rename_i h9
          have e1 : off + i * 5 + j = off := by omega
          rw [e1]
        · rw [Nat.add_assoc]
      rw [ad] at c0 c1 c2 c3 c4
      exact ⟨by simpa using c0, by simpa using c1, by simpa using c2, by simpa using c3, by simpa using c4⟩
    obtain ⟨q, hq⟩ := choose_lt each
    refine ⟨_, _, _, q, rfl, .inr ⟨b, off, rfl, hlt (.cell b off) ?_, fun i hi => hq i hi⟩⟩
    rw [hx.2]
    exact List.mem_append.2 (.inl (MemPlace.mem_row.2 ⟨0, by omega, by simp⟩))

end Go.Proofs.Ytffmannejfmcgaa
