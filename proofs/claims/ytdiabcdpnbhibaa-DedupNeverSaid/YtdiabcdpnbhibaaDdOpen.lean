/-
  Rows of tables that came in, by value and in a slice.
-/
import Derived.Test.YtdiabcdpnbhibaaSmOpen
import Derived.Test.YtdiabcdpnbhibaaDdBox
import Derived.Deep.Slices
import Derived.Below
set_option linter.unusedVariables false
namespace Go.Proofs.Ytdiabcdpnbhibaa
open Go.RowKit Go.ChangeShapes Go.WideShapes Go.Deep

theorem trod_items {H : Type} {enc : TypeId × Value → H} {W : World} {base fuel : Nat} {sp : Nat → Bool} {hd : Bool} {cs : List Value} {x : DataW H × List MemPlace} (h : DataW.trod enc Try.prog W base sp hd fuel 29 cs = some x) : ∃ (ao : Option Addr) (n cap : Nat), cs = [.slice ao n cap] := by
  rcases open_slice Try.underlying29 h with ⟨hcs, _⟩ | ⟨a, len, cap, m, n, D, Pl, hcs, _⟩
  · exact ⟨none, 0, 0, hcs⟩
  · exact ⟨_, _, _, hcs⟩

set_option maxRecDepth 100000 in
set_option maxHeartbeats 1000000 in
theorem trod_answer {H : Type} {enc : TypeId × Value → H} {W : World} {base fuel : Nat} {sp : Nat → Bool} {hd : Bool} {cs : List Value} {x : DataW H × List MemPlace} (hl : cs.length = 9)
    (h : DataW.trod enc Try.prog W base sp hd fuel 31 cs = some x) : ∃ (e : Int) (s : Int × Int × Int) (f : Bool) (v : ByteArray) (u : Option Addr × Nat × Nat) (nx : ByteArray) (m : Bool), cs = [.int .i64 e, .int .i64 s.1, .int .i64 s.2.1, .int .i64 s.2.2, .bool f, .string v, .slice u.1 u.2.1 u.2.2, .string nx, .bool m] := by
  match cs, hl with
  | [v0, v1, v2, v3, v4, v5, v6, v7, v8], _ =>
    obtain ⟨xs, n, _, rfl, hlc, hlen, hf⟩ := DataW.trod_struct Try.underlying31 h
    match xs, hlen with
    | [y0, y1, y2, y3, y4, y5, y6], _ =>
      have ki : Try.prog.cellsOf 26 = 1 := by kernel_rfl
      have ks : Try.prog.cellsOf 28 = 3 := by kernel_rfl
      have kb : Try.prog.cellsOf 4 = 1 := by kernel_rfl
      have kt : Try.prog.cellsOf 9 = 1 := by kernel_rfl
      have kl : Try.prog.cellsOf 29 = 1 := by kernel_rfl
      have g0 : DataW.trod enc Try.prog W base sp hd n 26 (([v0, v1, v2, v3, v4, v5, v6, v7, v8].drop 0).take (Try.prog.cellsOf 26)) = some y0 := by simpa using hf 0 _ rfl
      have g1 : DataW.trod enc Try.prog W base sp hd n 28 (([v0, v1, v2, v3, v4, v5, v6, v7, v8].drop 1).take (Try.prog.cellsOf 28)) = some y1 := by simpa using hf 1 _ rfl
      have g2 : DataW.trod enc Try.prog W base sp hd n 4 (([v0, v1, v2, v3, v4, v5, v6, v7, v8].drop 4).take (Try.prog.cellsOf 4)) = some y2 := by simpa using hf 2 _ rfl
      have g3 : DataW.trod enc Try.prog W base sp hd n 9 (([v0, v1, v2, v3, v4, v5, v6, v7, v8].drop 5).take (Try.prog.cellsOf 9)) = some y3 := by simpa using hf 3 _ rfl
      have g4 : DataW.trod enc Try.prog W base sp hd n 29 (([v0, v1, v2, v3, v4, v5, v6, v7, v8].drop 6).take (Try.prog.cellsOf 29)) = some y4 := by simpa using hf 4 _ rfl
      have g5 : DataW.trod enc Try.prog W base sp hd n 9 (([v0, v1, v2, v3, v4, v5, v6, v7, v8].drop 7).take (Try.prog.cellsOf 9)) = some y5 := by simpa using hf 5 _ rfl
      have g6 : DataW.trod enc Try.prog W base sp hd n 4 (([v0, v1, v2, v3, v4, v5, v6, v7, v8].drop 8).take (Try.prog.cellsOf 4)) = some y6 := by simpa using hf 6 _ rfl
      rw [ki] at g0
      rw [ks] at g1
      rw [kb] at g2 g6
      rw [kt] at g3 g5
      rw [kl] at g4
      obtain ⟨e, f0, _, _⟩ := DataW.trod_int Try.underlying26 g0
      obtain ⟨a, b, c, f1⟩ := trod_stamp rfl g1
      obtain ⟨n2, f2, _⟩ := DataW.trod_bool Try.underlying4 g2
      obtain ⟨s3, f3, _⟩ := DataW.trod_string Try.underlying9 g3
      obtain ⟨ao, ni, cap, f4⟩ := trod_items g4
      obtain ⟨s5, f5, _⟩ := DataW.trod_string Try.underlying9 g5
      obtain ⟨n6, f6, _⟩ := DataW.trod_bool Try.underlying4 g6
      simp only [List.drop, List.take, List.cons.injEq, and_true] at f0 f1 f2 f3 f4 f5 f6
      obtain ⟨rfl, rfl, rfl⟩ := f1
      subst f0; subst f2; subst f3; subst f4; subst f5; subst f6
      exact ⟨_, (_, _, _), _, _, (_, _, _), _, _, rfl⟩

set_option maxRecDepth 100000 in
set_option maxHeartbeats 1000000 in
theorem trod_done {H : Type} {enc : TypeId × Value → H} {W : World} {base fuel : Nat} {sp : Nat → Bool} {hd : Bool} {cs : List Value} {x : DataW H × List MemPlace} (hl : cs.length = 11)
    (h : DataW.trod enc Try.prog W base sp hd fuel 33 cs = some x) : ∃ d : DnV, cs = dnC d := by
  match cs, hl with
  | [v0, v1, v2, v3, v4, v5, v6, v7, v8, v9, v10], _ =>
    obtain ⟨y0, y1, y2, n, _, _, h0, h1, h2⟩ := trod_struct3 Try.underlying33 h
    have ki : Try.prog.cellsOf 3 = 1 := by kernel_rfl
    have ka : Try.prog.cellsOf 31 = 9 := by kernel_rfl
    have g0 : DataW.trod enc Try.prog W base sp hd n 3 (([v0, v1, v2, v3, v4, v5, v6, v7, v8, v9, v10].drop 0).take (Try.prog.cellsOf 3)) = some y0 := h0
    have g1 : DataW.trod enc Try.prog W base sp hd n 3 (([v0, v1, v2, v3, v4, v5, v6, v7, v8, v9, v10].drop 1).take (Try.prog.cellsOf 3)) = some y1 := h1
    have g2 : DataW.trod enc Try.prog W base sp hd n 31 (([v0, v1, v2, v3, v4, v5, v6, v7, v8, v9, v10].drop 2).take (Try.prog.cellsOf 31)) = some y2 := h2
    rw [ki] at g0 g1
    rw [ka] at g2
    obtain ⟨c, f0, _, _⟩ := DataW.trod_int Try.underlying3 g0
    obtain ⟨r, f1, _, _⟩ := DataW.trod_int Try.underlying3 g1
    obtain ⟨e, s, f, v, u, nx, m, f2⟩ := trod_answer rfl g2
    simp only [List.drop, List.take, List.cons.injEq, and_true] at f0 f1 f2
    obtain ⟨rfl, rfl, rfl, rfl, rfl, rfl, rfl, rfl, rfl⟩ := f2
    subst f0; subst f1
    exact ⟨((_, _, e, s, f, v, u.2.1, nx, m), u.1, u.2.2), rfl⟩

set_option maxRecDepth 100000 in
theorem open_done {H : Type} {enc : TypeId × Value → H} {W : World} {base b0 : Nat} {r : Reach} {sp : Nat → Bool} {hd : Bool} {v : Value} {d : DataW H} {p : List MemPlace} (hv : Value.okWide Try.prog W r b0 33 v)
    (h : DataW.Trod enc Try.prog W base sp hd 33 v d p) : ∃ x : DnV, v = dnV x := by
  obtain ⟨cs, rfl, hsz⟩ := okWide_struct Try.underlying33 hv
  have k5 : Try.prog.cellsOf 33 = 11 := by kernel_rfl
  rw [k5] at hsz
  obtain ⟨l⟩ := cs
  obtain ⟨fuel, hf⟩ := h
  obtain ⟨x, e⟩ := trod_done (by simpa using hsz) (show DataW.trod enc Try.prog W base sp hd fuel 33 l = some (d, p) from hf)
  exact ⟨x, by rw [e]; rfl⟩

set_option maxRecDepth 100000 in
set_option maxHeartbeats 1000000 in
theorem open_dones {H : Type} {enc : TypeId × Value → H} {W : World} {b0 : Nat} {r : Reach} {hd : Bool} {v : Value} {d : DataW H} {p : List MemPlace} (hv : Value.okWide Try.prog W r b0 22 v)
    (h : DataW.Trod enc Try.prog W 0 (fun _ => true) hd 22 v d p) (hlt : ∀ x ∈ p, x.block < W.heap.size) : ∃ l : List Dn, Tab W v l := by
  suffices hs : ∃ es : List DnV, TabV W v es by
    obtain ⟨es, hes⟩ := hs
    exact ⟨_, es, hes, rfl⟩
  obtain ⟨o, len, cap, rfl⟩ := okWide_slice Try.underlying22 hv
  obtain ⟨fuel, hf⟩ := h
  rcases open_slice Try.underlying22 hf with ⟨hcs, _⟩ | ⟨a, l, c, m, n, D, Pl, hcs, _, hl, hm, hmm, hx, hcell⟩
  · simp [Value.cells] at hcs
    obtain ⟨rfl, rfl, rfl⟩ := hcs
    exact ⟨[], none, 0, rfl, by simp, by unfold maxLen; omega, fun hp => absurd hp (Nat.not_lt_zero _)⟩
  · simp [Value.cells] at hcs
    obtain ⟨rfl, rfl, rfl⟩ := hcs
    by_cases h0 : len = 0
    · subst h0
      exact ⟨[], _, _, rfl, by simp, hm, fun hp => absurd hp (Nat.not_lt_zero _)⟩
    have hm2 : m = cap := by simpa using hmm
    subst hm2
    have k5 : Try.prog.cellsOf 33 = 11 := by kernel_rfl
    rw [k5] at hx hcell
    simp only [Prod.mk.injEq] at hx
    obtain ⟨b, off, spot⟩ := a
    have hspot : spot = none := by
      obtain ⟨cs', h1, h2⟩ := hcell 0 (by omega)
      obtain ⟨_, hlen, hc⟩ := World.cells?_some h1
      obtain ⟨q, rfl⟩ := trod_done hlen h2
      have c0 : W.cell? (((⟨b, off, spot⟩ : Addr).add (0 * 11)).add 0) = some (.int .i64 q.1.1) := by simpa [dnC] using hc 0 (by omega)
      simpa [Addr.add] using World.cell?_spot c0
    subst hspot
    have each : ∀ i, i < len → ∃ q : DnV, DnAt W b (off + i * 11) q := by
      intro i hi
      obtain ⟨cs', h1, h2⟩ := hcell i (by omega)
      obtain ⟨_, hlen, hc⟩ := World.cells?_some h1
      obtain ⟨q, rfl⟩ := trod_done hlen h2
      have ad : ∀ j, ((⟨b, off, none⟩ : Addr).add (i * 11)).add j = ⟨b, off + i * 11 + j, none⟩ := by
        intro j
        rw [add_add]
        unfold Addr.add
        split
        · rename_i h9
          have e1 : off + i * 11 + j = off := by omega
          rw [e1]
        · rw [Nat.add_assoc]
      have c0 := hc 0 (by omega)
      have c1 := hc 1 (by omega)
      have c2 := hc 2 (by omega)
      have c3 := hc 3 (by omega)
      have c4 := hc 4 (by omega)
      have c5 := hc 5 (by omega)
      have c6 := hc 6 (by omega)
      have c7 := hc 7 (by omega)
      have c8 := hc 8 (by omega)
      have c9 := hc 9 (by omega)
      have c10 := hc 10 (by omega)
      rw [ad] at c0 c1 c2 c3 c4 c5 c6 c7 c8 c9 c10
      exact ⟨q, by simpa [dnC] using c0, by simpa [dnC] using c1, by simpa [dnC] using c2, by simpa [dnC] using c3, by simpa [dnC] using c4, by simpa [dnC] using c5, by simpa [dnC] using c6, by simpa [dnC] using c7, by simpa [dnC] using c8, by simpa [dnC] using c9, by simpa [dnC] using c10⟩
    obtain ⟨q, hq⟩ := choose_lt (α := DnV) each
    refine ⟨(List.range len).map q, some ⟨b, off, none⟩, m, by simp, by simpa using hl, hm, fun _ => ⟨b, off, rfl, hlt (.cell b off) ?_, fun i hi => ?_⟩⟩
    · rw [hx.2]
      exact List.mem_append.2 (.inl (MemPlace.mem_row.2 ⟨0, by omega, by simp⟩))
    · have hi' : i < len := by simpa using hi
      have e1 : det ((List.range len).map q) i = q i := by simp [det, List.getD, hi']
      rw [e1]
      exact hq i hi'

end Go.Proofs.Ytdiabcdpnbhibaa
