/-
  The contract of chain.Add, and the five functions of package chain in the forms that the laws ask for.
-/
import Derived.Test.YtbboamfjkdcjeaaVrPrune
import Derived.Test.YtbboamfjkdcjeaaVrConcat
set_option linter.unusedVariables false
namespace Go.Proofs.Ytbboamfjkdcjeaa
open Go.RowKit

/-- One version in a block of its own, as a slice. -/
theorem vers_lit {w : World} {g : Nat} {a b c : Int} {k : Bool} {s : ByteArray} (H : VBox w g a b c k s) : Vers w (.slice (some ⟨g, 0, none⟩) 1 1) [(a, b, c, k, s)] :=
  ⟨_, 1, rfl, Nat.le_refl _, by unfold maxLen; omega, fun _ => ⟨g, 0, rfl, H.lt, fun i hi => by
    obtain rfl : i = 0 := by simpa using hi
    exact H.cell⟩⟩

set_option maxRecDepth 100000 in
set_option maxHeartbeats 1000000 in
theorem Add_row (w : World) (ao : Option Addr) (len cap : Nat) (l : List Ver) (a b c : Int) (g : Bool) (s : ByteArray) (r o f : Bool) (hl : l.length = len) (hr : rightC l = r) (ho : oneB (a, b, c, g, s) = o) (hf : folB l (a, b, c, g, s) = f) (hv : Vers w (.slice ao len cap) l) :
    (r = false ∨ o = false → Calls Try.prog 10 #[.slice ao len cap, (Go.Value.agg #[Go.Value.int Go.IntKind.i64 a, Go.Value.int Go.IntKind.i64 b, Go.Value.int Go.IntKind.i64 c, Go.Value.bool g, Go.Value.string s])] w fun e w' => e = .returned (.tuple #[.slice none 0 0, .int .i64 1]) ∧ Below w.heap.size w w') ∧
    (r = true → o = true → f = false → Calls Try.prog 10 #[.slice ao len cap, (Go.Value.agg #[Go.Value.int Go.IntKind.i64 a, Go.Value.int Go.IntKind.i64 b, Go.Value.int Go.IntKind.i64 c, Go.Value.bool g, Go.Value.string s])] w fun e w' => e = .returned (.tuple #[.slice none 0 0, .int .i64 9]) ∧ Below w.heap.size w w') ∧
    (r = true → o = true → f = true → 64 ≤ len → Calls Try.prog 10 #[.slice ao len cap, (Go.Value.agg #[Go.Value.int Go.IntKind.i64 a, Go.Value.int Go.IntKind.i64 b, Go.Value.int Go.IntKind.i64 c, Go.Value.bool g, Go.Value.string s])] w fun e w' => e = .returned (.tuple #[.slice none 0 0, .int .i64 6]) ∧ Below w.heap.size w w') ∧
    (r = true → o = true → f = true → len < 64 → Calls Try.prog 10 #[.slice ao len cap, (Go.Value.agg #[Go.Value.int Go.IntKind.i64 a, Go.Value.int Go.IntKind.i64 b, Go.Value.int Go.IntKind.i64 c, Go.Value.bool g, Go.Value.string s])] w fun e w' => ∃ v, e = .returned (.tuple #[v, .int .i64 0]) ∧ OwnsV w' w.heap.size v (l ++ [(a, b, c, g, s)]) ∧ Below w.heap.size w w') := by
  have HR : Hid (∀ W, Below w.heap.size w W → Calls Try.prog 14 #[.slice ao len cap] W fun e w' => e = .returned (.bool r) ∧ Below W.heap.size W w') := fun W hW => by
    rw [← hr]; exact CRight_any (hv.next hW)
  have HO : Hid (∀ W, Calls Try.prog 24 #[(Go.Value.agg #[Go.Value.int Go.IntKind.i64 a, Go.Value.int Go.IntKind.i64 b, Go.Value.int Go.IntKind.i64 c, Go.Value.bool g, Go.Value.string s])] W fun e w' => e = .returned (.bool o) ∧ Below W.heap.size W w') := fun W => by
    rw [← ho]; exact rightVersion_any a b c g s W
  have HF : Hid (∀ W, Below w.heap.size w W → Calls Try.prog 25 #[(Go.Value.agg #[Go.Value.int Go.IntKind.i64 a, Go.Value.int Go.IntKind.i64 b, Go.Value.int Go.IntKind.i64 c, Go.Value.bool g, Go.Value.string s]), .slice ao len cap] W fun e w' => e = .returned (.bool f) ∧ Below W.heap.size W w') := fun W hW => by
    rw [← hf]; exact follows_any (hv.next hW) a b c g s
  have HCC : Hid (∀ W (h k : Nat), len < 64 → Below w.heap.size w W → h < W.heap.size → W.cell? ⟨h, 0, none⟩ = some (.slice ao len cap) → W.cell? ⟨h, 1, none⟩ = some (.slice (some ⟨k, 0, none⟩) 1 1) → VBox W k a b c g s → Calls Try.prog 26 #[.slice (some ⟨h, 0, none⟩) 2 2] W fun e w' => ∃ v, e = .returned v ∧ OwnsV w' W.heap.size v (l ++ [(a, b, c, g, s)]) ∧ Below W.heap.size W w') := fun W h k h64 hW hh c0 c1 hk =>
    Concat_row W h len 1 cap 1 ao _ l [(a, b, c, g, s)] hl rfl (by omega) (by omega) hh c0 c1 (hv.next hW) (vers_lit hk)
  have HV0 : Hid (VBox (w.alloc (.cells #[.int .i64 a, .int .i64 b, .int .i64 c, .bool g, .string s] 26)) w.heap.size a b c g s) := VBox.new w a b c g s
  have HB0 : Hid (Below w.heap.size w (w.alloc (.cells #[.int .i64 a, .int .i64 b, .int .i64 c, .bool g, .string s] 26))) := (Below.refl _ _).alloc (Nat.le_refl _) _
  have H64 : Hid (r = true → len ≤ 64) := fun h => by rw [← hl]; exact (rightC_spec (hr.trans h)).1
  clear hl hr ho hf hv
  refine ⟨fun h => ?_, fun h1 h2 h3 => ?_, fun h1 h2 h3 h4 => ?_, fun h1 h2 h3 h4 => ?_⟩
  · cases r
    · clear h
      go_enter Try.func10, Try.ntmps10
      go_wp2_with fail
      refine (HR.out _ HB0.out).mono ?_
      rintro e w1 ⟨rfl, hb1⟩
      go_wp2_with fail
      go_ret2
      exact ⟨rfl, HB0.out.trans (hb1.mono HB0.out.size)⟩
    · obtain rfl : o = false := by rcases h with h | h; cases h; exact h
      clear h
      go_enter Try.func10, Try.ntmps10
      go_wp2_with fail
      refine (HR.out _ HB0.out).mono ?_
      rintro e w1 ⟨rfl, hb1⟩
      have H1 : Hid (Below w.heap.size w w1 ∧ VBox w1 w.heap.size a b c g s) := ⟨HB0.out.trans (hb1.mono HB0.out.size), HV0.out.over hb1⟩
      clear hb1
      obtain ⟨x0, x1, x2, x3, x4⟩ := H1.out.2.cell
      go_wp2_with fail
      refine (HO.out _).mono ?_
      rintro e w2 ⟨rfl, hb2⟩
      go_wp2_with fail
      go_ret2
      exact ⟨rfl, H1.out.1.trans (hb2.mono H1.out.1.size)⟩
  all_goals
    subst h1
    subst h2
    subst h3
    go_enter Try.func10, Try.ntmps10
    go_wp2_with fail
    refine (HR.out _ HB0.out).mono ?_
    rintro e w1 ⟨rfl, hb1⟩
    have H1 : Hid (Below w.heap.size w w1 ∧ VBox w1 w.heap.size a b c g s) := ⟨HB0.out.trans (hb1.mono HB0.out.size), HV0.out.over hb1⟩
    clear hb1
    obtain ⟨x0, x1, x2, x3, x4⟩ := H1.out.2.cell
    go_wp2_with fail
    refine (HO.out _).mono ?_
    rintro e w2 ⟨rfl, hb2⟩
    have H2 : Hid (Below w.heap.size w w2 ∧ VBox w2 w.heap.size a b c g s) := ⟨H1.out.1.trans (hb2.mono H1.out.1.size), H1.out.2.over hb2⟩
    clear hb2 x0 x1 x2 x3 x4 H1 HV0 HB0
    obtain ⟨x0, x1, x2, x3, x4⟩ := H2.out.2.cell
    go_wp2_with fail
    refine (HF.out _ H2.out.1).mono ?_
    rintro e w3 ⟨rfl, hb3⟩
    have H3 : Hid (Below w.heap.size w w3 ∧ VBox w3 w.heap.size a b c g s) := ⟨H2.out.1.trans (hb3.mono H2.out.1.size), H2.out.2.over hb3⟩
    clear hb3 x0 x1 x2 x3 x4 H2
  · go_wp2_with fail
    go_ret2
    exact ⟨rfl, H3.out.1⟩
  · have hx := H64.out (by first | rfl | trivial)
    obtain rfl : len = 64 := by omega
    go_wp2_with fail
    go_ret2
    exact ⟨rfl, H3.out.1⟩
  · have e1 : ((len : Int) == 64) = false := beq_eq_false_iff_ne.2 (by omega)
    have e2 : ¬ len = 64 := by omega
    obtain ⟨x0, x1, x2, x3, x4⟩ := H3.out.2.cell
    have H4 : Hid (len < 64) := h4
    clear h4
    obtain ⟨W5, h5, H5⟩ : ∃ W5, ((w3.alloc (.cells #[.int .i64 a, .int .i64 b, .int .i64 c, .bool g, .string s] 26)).alloc (.cells #[.slice ao len cap, .slice (some ⟨w3.heap.size, 0, none⟩) 1 1] 22)) = W5 ∧ Hid (Below w.heap.size w W5 ∧ w3.heap.size + 1 < W5.heap.size ∧ W5.cell? ⟨w3.heap.size + 1, 0, none⟩ = some (.slice ao len cap) ∧ W5.cell? ⟨w3.heap.size + 1, 1, none⟩ = some (.slice (some ⟨w3.heap.size, 0, none⟩) 1 1) ∧ VBox W5 w3.heap.size a b c g s) :=
      ⟨_, rfl, (H3.out.1.alloc H3.out.1.size _).alloc (Nat.le_trans H3.out.1.size (by simp)) _, by simp, by simp, by simp, (VBox.new w3 a b c g s).alloc _⟩
    go_wp2_with fail
    refine (HCC.out _ _ _ H4.out H5.out.1 H5.out.2.1 H5.out.2.2.1 H5.out.2.2.2.1 H5.out.2.2.2.2).mono ?_
    rintro e w6 ⟨v, rfl, ho6, hb6⟩
    have H6 : Hid (OwnsV w6 w.heap.size v (l ++ [(a, b, c, g, s)]) ∧ Below w.heap.size w w6) := ⟨ho6.mono H5.out.1.size, H5.out.1.trans (hb6.mono H5.out.1.size)⟩
    clear ho6 hb6 h5 H5
    go_wp2_with fail
    go_ret2
    exact ⟨v, rfl, H6.out⟩

end Go.Proofs.Ytbboamfjkdcjeaa
