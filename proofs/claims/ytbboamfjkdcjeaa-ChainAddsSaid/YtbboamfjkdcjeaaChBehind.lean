/-
  The walk of ChainBehind, over what it asks of package chain.
-/
import Derived.Test.YtbboamfjkdcjeaaChReads
import Derived.Test.YtbboamfjkdcjeaaSmCompare
set_option linter.unusedVariables false
namespace Go.Proofs.Ytbboamfjkdcjeaa
open Go.RowKit

/-- A version, a stamp and a chain in memory. -/
def KB (w : World) (a b c : Int) (g : Bool) (s : ByteArray) (x y z : Int) (v : Value) (l : List Ver) (W : World) : Prop := Below w.heap.size w W ∧ VBox W w.heap.size a b c g s ∧ Box W (w.heap.size + 1) x y z ∧ Vers W v l
theorem KB.new {w : World} {v : Value} {l : List Ver} (a b c : Int) (g : Bool) (s : ByteArray) (x y z : Int) (h : Vers w v l) : KB w a b c g s x y z v l (((w.alloc (.cells #[.int .i64 a, .int .i64 b, .int .i64 c, .bool g, .string s] 26))).alloc (.cells #[.int .i64 x, .int .i64 y, .int .i64 z] 24)) := by
  have hb : Below w.heap.size w (((w.alloc (.cells #[.int .i64 a, .int .i64 b, .int .i64 c, .bool g, .string s] 26))).alloc (.cells #[.int .i64 x, .int .i64 y, .int .i64 z] 24)) := ((Below.refl _ _).alloc (Nat.le_refl _) _).alloc (by simp) _
  have h2 := Box.new (w.alloc (.cells #[.int .i64 a, .int .i64 b, .int .i64 c, .bool g, .string s] 26)) x y z
  rw [size_alloc] at h2
  exact ⟨hb, (VBox.new _ _ _ _ _ _).alloc _, h2, h.next hb⟩
theorem KB.next {w W W' : World} {a b c : Int} {g : Bool} {s : ByteArray} {x y z : Int} {v : Value} {l : List Ver} (H : KB w a b c g s x y z v l W) (hb : Below W.heap.size W W') : KB w a b c g s x y z v l W' := ⟨H.1.trans (hb.mono H.1.size), H.2.1.over hb, H.2.2.1.over hb, H.2.2.2.next hb⟩
theorem add_no {l : List Ver} {u : Ver} {m : List Ver} {e : Int} (h : IsAdd l u m e) (h0 : ¬ e = 0) : m = [] ∧ (e = 1 ∨ e = 9 ∨ e = 6) := by
  rcases h with ⟨_, h1, h2⟩ | ⟨_, _, _, _, h1, h2⟩ | ⟨_, _, _, _, h1, h2⟩ | ⟨_, _, _, _, h1, h2⟩
  · exact ⟨h1, .inl h2⟩
  · exact ⟨h1, .inr (.inl h2)⟩
  · exact ⟨h1, .inr (.inr h2)⟩
  · exact absurd h2 h0
theorem add_yes {l : List Ver} {u : Ver} {m : List Ver} (h : IsAdd l u m 0) : rightC l = true ∧ oneB u = true ∧ (l.length = 0 ∨ befV (vat l (l.length - 1)) u = true) ∧ l.length < 64 ∧ m = l ++ [u] ∧ rightC m = true := by
  rcases h with ⟨_, h1, h2⟩ | ⟨_, _, _, _, h1, h2⟩ | ⟨_, _, _, _, h1, h2⟩ | ⟨h1, h2, h3, h4, rfl, _⟩
  · cases h2
  · cases h2
  · cases h2
  · exact ⟨h1, h2, h3, h4, rfl, right_snoc h1 h2 h4 h3⟩
/-- The value of a valid version that is gone is empty. -/
theorem one_gone {a b c : Int} {g : Bool} {s : ByteArray} (h : oneB (a, b, c, g, s) = true) : valV (a, b, c, g, s) true = s := by
  unfold valV
  cases g
  · rfl
  · have h2 : s.size = 0 := by
      unfold oneB at h
      rcases Nat.eq_zero_or_pos s.size with h1 | h1
      · exact h1
      · simp [h1] at h
    have h3 : s = { data := #[] } := by
      cases s with
      | mk d =>
        have : d.size = 0 := h2
        have : d = #[] := Array.eq_empty_of_size_eq_zero this
        subst this; rfl
    rw [h3]; rfl

set_option maxRecDepth 100000 in
set_option maxHeartbeats 800000 in
theorem chainBehind_core (HF : FAwake) (HA : FAdd) (HR : FRight) (HV : FValue) (w : World) (v : Value) (l : List Ver) (a b c : Int) (g : Bool) (s : ByteArray) (x y z : Int) (hv : Vers w v l) : Calls Try.prog 8 #[v, (Go.Value.agg #[Go.Value.int Go.IntKind.i64 a, Go.Value.int Go.IntKind.i64 b, Go.Value.int Go.IntKind.i64 c, Go.Value.bool g, Go.Value.string s]), (Go.Value.agg #[Go.Value.int Go.IntKind.i64 x, Go.Value.int Go.IntKind.i64 y, Go.Value.int Go.IntKind.i64 z])] w fun e w' => e = .returned (.bool true) ∧ Below w.heap.size w w' := by
  have HAW : Hid (∀ W, Calls Try.prog 9 #[] W fun e w' => e = .returned (.bool true) ∧ Below W.heap.size W w') := fun W => HF W
  obtain ⟨m, e, hm⟩ := add_ex l (a, b, c, g, s)
  obtain ⟨u, ok, ha⟩ := at_ex m x y z
  obtain ⟨u', ok', ha'⟩ := at_ex l x y z
  obtain ⟨t, ht⟩ : ∃ t, t = valV u ok := ⟨_, rfl⟩
  obtain ⟨i, hi⟩ : ∃ i, i = hasV u ok := ⟨_, rfl⟩
  obtain ⟨ao, n, cap, rfl, hn⟩ := vers_slice hv
  obtain ⟨q, hq⟩ : ∃ q, q = cmpI x y z a b c := ⟨_, rfl⟩
  have A0 : Hid (∀ W, Calls Try.prog 22 #[(Go.Value.agg #[Go.Value.int Go.IntKind.i64 x, Go.Value.int Go.IntKind.i64 y, Go.Value.int Go.IntKind.i64 z]), (Go.Value.agg #[Go.Value.int Go.IntKind.i64 a, Go.Value.int Go.IntKind.i64 b, Go.Value.int Go.IntKind.i64 c])] W fun e w' => e = .returned (.int .i64 q) ∧ Below W.heap.size W w') := fun W => by rw [hq]; exact Compare_any _ _ _ _ _ _ W
  have A1 : Hid (∀ W, Vers W (.slice ao n cap) l → Calls Try.prog 10 #[.slice ao n cap, (Go.Value.agg #[Go.Value.int Go.IntKind.i64 a, Go.Value.int Go.IntKind.i64 b, Go.Value.int Go.IntKind.i64 c, Go.Value.bool g, Go.Value.string s])] W fun e' w' => ∃ v', e' = .returned (.tuple #[v', .int .i64 e]) ∧ Vers w' v' m ∧ Below W.heap.size W w') := fun W h => HA W _ l a b c g s m e h hm
  have A2 : Hid (∀ W v', Vers W v' m → Calls Try.prog 18 #[v', (Go.Value.agg #[Go.Value.int Go.IntKind.i64 x, Go.Value.int Go.IntKind.i64 y, Go.Value.int Go.IntKind.i64 z])] W fun e w' => e = .returned (.tuple #[.string t, .bool i]) ∧ Below W.heap.size W w') := fun W v' h => by rw [ht, hi]; exact HV W v' m x y z _ ok h ha
  have A3 : Hid (e = 0 → (∀ W v', Vers W v' m → Calls Try.prog 14 #[v'] W fun e w' => e = .returned (.bool true) ∧ Below W.heap.size W w') ∧ (¬ q < 0 → t = s ∧ i = !g) ∧ (q < 0 → ∀ W, Vers W (.slice ao n cap) l → Calls Try.prog 18 #[.slice ao n cap, (Go.Value.agg #[Go.Value.int Go.IntKind.i64 x, Go.Value.int Go.IntKind.i64 y, Go.Value.int Go.IntKind.i64 z])] W fun e w' => e = .returned (.tuple #[.string t, .bool i]) ∧ Below W.heap.size W w')) := by
    intro h0
    subst h0
    obtain ⟨k1, k2, k3, k4, rfl, k6⟩ := add_yes hm
    have k7 := snoc_at (w := u') (ok' := ok') k1 k6 ha
    refine ⟨fun W v' h => by rw [← k6]; exact HR W v' _ h, fun h => ?_, fun h W hW => ?_⟩
    · have hb : befS x y z (a, b, c, g, s) = false := by
        rcases cmp_cases x y z a b c with ⟨_, _, k⟩ | ⟨k, _⟩ | ⟨k, _⟩
        · omega
        · exact k
        · exact k
      obtain ⟨rfl, rfl⟩ := k7.1 hb
      exact ⟨by rw [ht, one_gone k2], by rw [hi]; rfl⟩
    · have hb : befS x y z (a, b, c, g, s) = true := by
        rcases cmp_cases x y z a b c with ⟨k, _, _⟩ | ⟨_, _, k⟩ | ⟨_, _, k, _⟩
        · exact k
        · omega
        · omega
      obtain ⟨rfl, rfl⟩ := k7.2 hb ha'
      rw [ht, hi]
      exact HV W _ l x y z _ _ hW ha'
  have A4 : Hid (¬ e = 0 → m = [] ∧ (e = 1 ∨ e = 9 ∨ e = 6)) := fun h => add_no hm h
  have H0 := Lib.hid (KB.new a b c g s x y z hv)
  clear hv hm hq ht hi ha ha' HA HF HR HV hn
  by_cases h100 : 100 < n
  · go_enter Try.func8, Try.ntmps8
    go_wp2_with fail
    refine (HAW.out _).mono ?_
    rintro e w9 ⟨rfl, hb9⟩
    go_wp2_with fail
    go_ret
    exact ⟨rfl, H0.out.1.trans (hb9.mono H0.out.1.size)⟩
  by_cases h0 : e = 0
  · subst h0
    obtain ⟨B1, B2, B3⟩ := A3.out (by first | rfl | trivial)
    have HB1 := Lib.hid B1
    clear B1 A3 A4
    by_cases hq0 : q < 0
    · have HB3 := Lib.hid (B3 hq0)
      have hqd : decide (0 ≤ q) = false := decide_eq_false (by omega)
      clear B2 B3 hq0
      go_enter Try.func8, Try.ntmps8
      go_wp2_with fail
      refine (A1.out _ H0.out.2.2.2).mono ?_
      rintro e w1 ⟨v1, rfl, hv1, hb1⟩
      have H1 : Hid (KB w a b c g s x y z (.slice ao n cap) l w1 ∧ Vers w1 v1 m) := ⟨H0.out.next hb1, hv1⟩
      clear hb1 H0 hv1
      go_wp2_with (first | (refine box_load (w.heap.size + 1) H1.out.1.2.2.1 rfl _ rfl rfl ?_))
      refine (A2.out _ _ H1.out.2).mono ?_
      rintro e w2 ⟨rfl, hb2⟩
      have H2 := Lib.hid (H1.out.1.next hb2)
      clear hb2 H1
      obtain ⟨x0, x1, x2⟩ := H2.out.2.2.1.cell
      obtain ⟨y0, y1, y2, _⟩ := H2.out.2.1.cell
      go_wp2_with fail
      refine (A0.out _).mono ?_
      rintro e w3 ⟨rfl, hb3⟩
      have H3 := Lib.hid (H2.out.next hb3)
      clear hb3 H2 x0 x1 x2 y0 y1 y2
      go_wp2_with (first | (refine box_load (w.heap.size + 1) H3.out.2.2.1 rfl _ rfl rfl ?_))
      refine (HB3.out _ H3.out.2.2.2).mono ?_
      rintro e w4 ⟨rfl, hb4⟩
      have hb := H3.out.1.trans (hb4.mono H3.out.1.size)
      go_wp2_with fail
      refine (HAW.out _).mono ?_
      rintro e w9 ⟨rfl, hb9⟩
      go_wp2_with fail
      go_ret
      exact ⟨rfl, hb.trans (hb9.mono hb.size)⟩
    · have hqd : decide (0 ≤ q) = true := decide_eq_true (by omega)
      obtain ⟨rfl, rfl⟩ := B2 hq0
      clear B2 B3 hq0
      go_enter Try.func8, Try.ntmps8
      go_wp2_with fail
      refine (A1.out _ H0.out.2.2.2).mono ?_
      rintro e w1 ⟨v1, rfl, hv1, hb1⟩
      have H1 : Hid (KB w a b c g t x y z (.slice ao n cap) l w1 ∧ Vers w1 v1 m) := ⟨H0.out.next hb1, hv1⟩
      clear hb1 H0 hv1
      go_wp2_with (first | (refine box_load (w.heap.size + 1) H1.out.1.2.2.1 rfl _ rfl rfl ?_))
      refine (A2.out _ _ H1.out.2).mono ?_
      rintro e w2 ⟨rfl, hb2⟩
      have H2 : Hid (KB w a b c g t x y z (.slice ao n cap) l w2 ∧ Vers w2 v1 m) := ⟨H1.out.1.next hb2, H1.out.2.next hb2⟩
      clear hb2 H1
      obtain ⟨x0, x1, x2⟩ := H2.out.1.2.2.1.cell
      obtain ⟨y0, y1, y2, _⟩ := H2.out.1.2.1.cell
      go_wp2_with fail
      refine (A0.out _).mono ?_
      rintro e w3 ⟨rfl, hb3⟩
      have H3 : Hid (KB w a b c g t x y z (.slice ao n cap) l w3 ∧ Vers w3 v1 m) := ⟨H2.out.1.next hb3, H2.out.2.next hb3⟩
      clear hb3 H2 x0 x1 x2 y0 y1 y2
      obtain ⟨y0, y1, y2, y3, y4⟩ := H3.out.1.2.1.cell
      go_wp2_with fail
      refine (HB1.out _ _ H3.out.2).mono ?_
      rintro e w4 ⟨rfl, hb4⟩
      have hb := H3.out.1.1.trans (hb4.mono H3.out.1.1.size)
      clear y0 y1 y2 y3 y4
      go_wp2_with fail
      refine (HAW.out _).mono ?_
      rintro e w9 ⟨rfl, hb9⟩
      go_wp2_with fail
      go_ret
      exact ⟨rfl, hb.trans (hb9.mono hb.size)⟩
  · obtain ⟨rfl, he⟩ := A4.out h0
    clear A3 A4 h0
    rcases he with rfl | rfl | rfl
    all_goals
      go_enter Try.func8, Try.ntmps8
      go_wp2_with fail
      refine (A1.out _ H0.out.2.2.2).mono ?_
      rintro e w1 ⟨v1, rfl, hv1, hb1⟩
      have hb := H0.out.1.trans (hb1.mono H0.out.1.size)
      obtain ⟨ao1, n1, cap1, rfl, hn1⟩ := vers_slice hv1
      obtain rfl : n1 = 0 := by rw [← hn1]; rfl
      clear hv1 hn1
      go_wp2_with fail
      refine (HAW.out _).mono ?_
      rintro e w9 ⟨rfl, hb9⟩
      go_wp2_with fail
      go_ret
      exact ⟨rfl, hb.trans (hb9.mono hb.size)⟩

end Go.Proofs.Ytbboamfjkdcjeaa
