/-
  The walk of ClockJoins.
-/
import Derived.Test.YtffmannejfmcgaaClAwake
import Derived.Test.YtffmannejfmcgaaClRaise
import Derived.Test.YtffmannejfmcgaaSmEq
set_option linter.unusedVariables false
namespace Go.Proofs.Ytffmannejfmcgaa
open Go.RowKit

/-- A clock and two stamps in memory. -/
def KJ (w : World) (a b c x1 y1 z1 x2 y2 z2 : Int) (W : World) : Prop := Below w.heap.size w W ∧ CBox W w.heap.size a b c ∧ Box W (w.heap.size + 1) x1 y1 z1 ∧ Box W (w.heap.size + 1 + 1) x2 y2 z2
theorem KJ.new (w : World) (a b c x1 y1 z1 x2 y2 z2 : Int) : KJ w a b c x1 y1 z1 x2 y2 z2 ((((((w.alloc (.cells #[.int .i64 a, .int .i64 b, .int .i64 c] 25))).alloc (.cells #[.int .i64 x1, .int .i64 y1, .int .i64 z1] 23))).alloc (.cells #[.int .i64 x2, .int .i64 y2, .int .i64 z2] 23))) := by
  refine ⟨(((Below.refl w.heap.size w).alloc (Nat.le_refl _) _).alloc (by simp) _).alloc (by simp; omega) _, ((CBox.new w a b c).alloc _).alloc _, ?_, ?_⟩
  · have := (Box.new (w.alloc (.cells #[.int .i64 a, .int .i64 b, .int .i64 c] 25)) x1 y1 z1).alloc (.cells #[.int .i64 x2, .int .i64 y2, .int .i64 z2] 23)
    simpa using this
  · have := Box.new (((w.alloc (.cells #[.int .i64 a, .int .i64 b, .int .i64 c] 25))).alloc (.cells #[.int .i64 x1, .int .i64 y1, .int .i64 z1] 23)) x2 y2 z2
    simpa using this
theorem KJ.next {w W W' : World} {a b c x1 y1 z1 x2 y2 z2 : Int} (H : KJ w a b c x1 y1 z1 x2 y2 z2 W) (hb : Below W.heap.size W W') : KJ w a b c x1 y1 z1 x2 y2 z2 W' :=
  ⟨H.1.trans (hb.mono H.1.size), H.2.1.over hb, H.2.2.1.over hb, H.2.2.2.over hb⟩
theorem KJ.alloc {w W : World} {a b c x1 y1 z1 x2 y2 z2 : Int} (H : KJ w a b c x1 y1 z1 x2 y2 z2 W) (o : Obj) : KJ w a b c x1 y1 z1 x2 y2 z2 (W.alloc o) := H.next ((Below.refl _ _).alloc (Nat.le_refl _) o)
theorem KJ.row {w W : World} {a b c x1 y1 z1 x2 y2 z2 : Int} (H : KJ w a b c x1 y1 z1 x2 y2 z2 W) {g : Nat} (hg : w.heap.size + 3 ≤ g) (cs : Array Value) : KJ w a b c x1 y1 z1 x2 y2 z2 (W.setRow g cs) :=
  ⟨below_setRow H.1 (by omega) cs, H.2.1.other _ (by omega), H.2.2.1.other _ (by omega), H.2.2.2.other _ (by omega)⟩
theorem KJ.size {w W : World} {a b c x1 y1 z1 x2 y2 z2 : Int} (H : KJ w a b c x1 y1 z1 x2 y2 z2 W) : w.heap.size + 3 ≤ W.heap.size := by
  have := H.2.2.2.lt
  omega

set_option maxRecDepth 100000 in
set_option maxHeartbeats 400000 in
theorem clockJoins_walk (w : World) (a b c x1 y1 z1 x2 y2 z2 : Int) : Calls Try.prog 9 #[(Go.Value.agg #[Go.Value.int Go.IntKind.i64 a, Go.Value.int Go.IntKind.i64 b, Go.Value.int Go.IntKind.i64 c]), (Go.Value.agg #[Go.Value.int Go.IntKind.i64 x1, Go.Value.int Go.IntKind.i64 y1, Go.Value.int Go.IntKind.i64 z1]), (Go.Value.agg #[Go.Value.int Go.IntKind.i64 x2, Go.Value.int Go.IntKind.i64 y2, Go.Value.int Go.IntKind.i64 z2])] w fun e w' => e = .returned (.bool true) ∧ Below w.heap.size w w' := by
  have HAW : Hid (∀ W, Calls Try.prog 12 #[] W fun e w' => e = .returned (.bool true) ∧ Below W.heap.size W w') := fun W => awake_any W
  obtain ⟨p, q, r, e, k1⟩ : ∃ p q r e, raiseF a b c x1 y1 z1 = (p, q, r, e) := ⟨_, _, _, _, rfl⟩
  obtain ⟨p', q', r', f, k2⟩ : ∃ p' q' r' f, raiseF p q r x2 y2 z2 = (p', q', r', f) := ⟨_, _, _, _, rfl⟩
  obtain ⟨s, t, u, g, k3⟩ : ∃ s t u g, raiseF a b c x2 y2 z2 = (s, t, u, g) := ⟨_, _, _, _, rfl⟩
  obtain ⟨s', t', u', h, k4⟩ : ∃ s' t' u' h, raiseF s t u x1 y1 z1 = (s', t', u', h) := ⟨_, _, _, _, rfl⟩
  obtain ⟨m, n, o, i, k5⟩ : ∃ m n o i, raiseF p' q' r' x1 y1 z1 = (m, n, o, i) := ⟨_, _, _, _, rfl⟩
  have C1 : Hid (∀ W, Calls Try.prog 15 #[(Go.Value.agg #[Go.Value.int Go.IntKind.i64 a, Go.Value.int Go.IntKind.i64 b, Go.Value.int Go.IntKind.i64 c]), (Go.Value.agg #[Go.Value.int Go.IntKind.i64 x1, Go.Value.int Go.IntKind.i64 y1, Go.Value.int Go.IntKind.i64 z1])] W fun e' w' => e' = .returned (.tuple #[(Go.Value.agg #[Go.Value.int Go.IntKind.i64 p, Go.Value.int Go.IntKind.i64 q, Go.Value.int Go.IntKind.i64 r]), .int .i64 e]) ∧ Below W.heap.size W w') := fun W => Raise_any _ _ _ _ _ _ _ _ _ _ W k1
  have C2 : Hid (∀ W, Calls Try.prog 15 #[(Go.Value.agg #[Go.Value.int Go.IntKind.i64 p, Go.Value.int Go.IntKind.i64 q, Go.Value.int Go.IntKind.i64 r]), (Go.Value.agg #[Go.Value.int Go.IntKind.i64 x2, Go.Value.int Go.IntKind.i64 y2, Go.Value.int Go.IntKind.i64 z2])] W fun e' w' => e' = .returned (.tuple #[(Go.Value.agg #[Go.Value.int Go.IntKind.i64 p', Go.Value.int Go.IntKind.i64 q', Go.Value.int Go.IntKind.i64 r']), .int .i64 f]) ∧ Below W.heap.size W w') := fun W => Raise_any _ _ _ _ _ _ _ _ _ _ W k2
  have C3 : Hid (∀ W, Calls Try.prog 15 #[(Go.Value.agg #[Go.Value.int Go.IntKind.i64 a, Go.Value.int Go.IntKind.i64 b, Go.Value.int Go.IntKind.i64 c]), (Go.Value.agg #[Go.Value.int Go.IntKind.i64 x2, Go.Value.int Go.IntKind.i64 y2, Go.Value.int Go.IntKind.i64 z2])] W fun e' w' => e' = .returned (.tuple #[(Go.Value.agg #[Go.Value.int Go.IntKind.i64 s, Go.Value.int Go.IntKind.i64 t, Go.Value.int Go.IntKind.i64 u]), .int .i64 g]) ∧ Below W.heap.size W w') := fun W => Raise_any _ _ _ _ _ _ _ _ _ _ W k3
  have C4 : Hid (∀ W, Calls Try.prog 15 #[(Go.Value.agg #[Go.Value.int Go.IntKind.i64 s, Go.Value.int Go.IntKind.i64 t, Go.Value.int Go.IntKind.i64 u]), (Go.Value.agg #[Go.Value.int Go.IntKind.i64 x1, Go.Value.int Go.IntKind.i64 y1, Go.Value.int Go.IntKind.i64 z1])] W fun e' w' => e' = .returned (.tuple #[(Go.Value.agg #[Go.Value.int Go.IntKind.i64 s', Go.Value.int Go.IntKind.i64 t', Go.Value.int Go.IntKind.i64 u']), .int .i64 h]) ∧ Below W.heap.size W w') := fun W => Raise_any _ _ _ _ _ _ _ _ _ _ W k4
  have C5 : Hid (∀ W, Calls Try.prog 15 #[(Go.Value.agg #[Go.Value.int Go.IntKind.i64 p', Go.Value.int Go.IntKind.i64 q', Go.Value.int Go.IntKind.i64 r']), (Go.Value.agg #[Go.Value.int Go.IntKind.i64 x1, Go.Value.int Go.IntKind.i64 y1, Go.Value.int Go.IntKind.i64 z1])] W fun e' w' => e' = .returned (.tuple #[(Go.Value.agg #[Go.Value.int Go.IntKind.i64 m, Go.Value.int Go.IntKind.i64 n, Go.Value.int Go.IntKind.i64 o]), .int .i64 i]) ∧ Below W.heap.size W w') := fun W => Raise_any _ _ _ _ _ _ _ _ _ _ W k5
  have hcases := Lib.hid (joins k1 k2 k3 k4 k5)
  clear k1 k2 k3 k4 k5
  go_enter Try.func9, Try.ntmps9
  go_wp2_with fail
  refine (C1.out _).mono ?_
  rintro e w1 ⟨rfl, hb1⟩
  have H1 : Hid (KJ w a b c x1 y1 z1 x2 y2 z2 w1) := (KJ.new w a b c x1 y1 z1 x2 y2 z2).next hb1
  clear hb1 C1
  go_upto_region 2 with (fail)
  have H2 : Hid (KJ w a b c x1 y1 z1 x2 y2 z2 (w1.alloc (.cells #[.int .i64 p, .int .i64 q, .int .i64 r] 25)) ∧ w.heap.size + 3 ≤ w1.heap.size ∧ CBox (w1.alloc (.cells #[.int .i64 p, .int .i64 q, .int .i64 r] 25)) w1.heap.size p q r) := ⟨H1.out.alloc _, H1.out.size, CBox.new _ _ _ _⟩
  generalize (w1.alloc (.cells #[.int .i64 p, .int .i64 q, .int .i64 r] 25)) = w2 at H2 ⊢
  generalize w1.heap.size = g7 at H2 ⊢
  clear H1
  go_wp2_with (first | (refine cbox_load g7 H2.out.2.2 rfl _ rfl rfl ?_) | (refine box_load (w.heap.size + 1 + 1) H2.out.1.2.2.2 rfl _ rfl rfl ?_))
  refine (C2.out _).mono ?_
  rintro e w3 ⟨rfl, hb3⟩
  have H3 : Hid (KJ w a b c x1 y1 z1 x2 y2 z2 w3 ∧ w.heap.size + 3 ≤ g7 ∧ CBox w3 g7 p q r) := ⟨H2.out.1.next hb3, H2.out.2.1, H2.out.2.2.over hb3⟩
  clear hb3 C2 H2
  go_upto_region 3 with (first | (refine cbox_store g7 H3.out.2.2 rfl _ _ rfl rfl rfl ?_))
  have H4 : Hid (KJ w a b c x1 y1 z1 x2 y2 z2 (w3.setRow g7 #[.int .i64 p', .int .i64 q', .int .i64 r']) ∧ w.heap.size + 3 ≤ g7 ∧ CBox (w3.setRow g7 #[.int .i64 p', .int .i64 q', .int .i64 r']) g7 p' q' r') := ⟨H3.out.1.row H3.out.2.1 _, H3.out.2.1, H3.out.2.2.set _ _ _⟩
  generalize w3.setRow g7 #[.int .i64 p', .int .i64 q', .int .i64 r'] = w4 at H4 ⊢
  clear H3
  go_wp2_with (first | (refine cbox_load w.heap.size H4.out.1.2.1 rfl _ rfl rfl ?_) | (refine box_load (w.heap.size + 1 + 1) H4.out.1.2.2.2 rfl _ rfl rfl ?_))
  refine (C3.out _).mono ?_
  rintro e w5 ⟨rfl, hb5⟩
  have H5 : Hid (KJ w a b c x1 y1 z1 x2 y2 z2 w5 ∧ w.heap.size + 3 ≤ g7 ∧ CBox w5 g7 p' q' r') := ⟨H4.out.1.next hb5, H4.out.2.1, H4.out.2.2.over hb5⟩
  clear hb5 C3 H4
  go_upto_region 4 with (fail)
  have H6 : Hid (KJ w a b c x1 y1 z1 x2 y2 z2 (w5.alloc (.cells #[.int .i64 s, .int .i64 t, .int .i64 u] 25)) ∧ w.heap.size + 3 ≤ g7 ∧ CBox (w5.alloc (.cells #[.int .i64 s, .int .i64 t, .int .i64 u] 25)) g7 p' q' r' ∧ g7 < w5.heap.size ∧ CBox (w5.alloc (.cells #[.int .i64 s, .int .i64 t, .int .i64 u] 25)) w5.heap.size s t u) := ⟨H5.out.1.alloc _, H5.out.2.1, H5.out.2.2.alloc _, H5.out.2.2.lt, CBox.new _ _ _ _⟩
  generalize (w5.alloc (.cells #[.int .i64 s, .int .i64 t, .int .i64 u] 25)) = w6 at H6 ⊢
  generalize w5.heap.size = g10 at H6 ⊢
  clear H5
  go_wp2_with (first | (refine cbox_load g10 H6.out.2.2.2.2 rfl _ rfl rfl ?_) | (refine box_load (w.heap.size + 1) H6.out.1.2.2.1 rfl _ rfl rfl ?_))
  refine (C4.out _).mono ?_
  rintro e w7 ⟨rfl, hb7⟩
  have H7 : Hid (KJ w a b c x1 y1 z1 x2 y2 z2 w7 ∧ w.heap.size + 3 ≤ g7 ∧ CBox w7 g7 p' q' r' ∧ g7 < g10 ∧ CBox w7 g10 s t u) := ⟨H6.out.1.next hb7, H6.out.2.1, H6.out.2.2.1.over hb7, H6.out.2.2.2.1, H6.out.2.2.2.2.over hb7⟩
  clear hb7 C4 H6
  go_upto_region 5 with (first | (refine cbox_store g10 H7.out.2.2.2.2 rfl _ _ rfl rfl rfl ?_))
  have H8 : Hid (KJ w a b c x1 y1 z1 x2 y2 z2 (w7.setRow g10 #[.int .i64 s', .int .i64 t', .int .i64 u']) ∧ CBox (w7.setRow g10 #[.int .i64 s', .int .i64 t', .int .i64 u']) g7 p' q' r' ∧ CBox (w7.setRow g10 #[.int .i64 s', .int .i64 t', .int .i64 u']) g10 s' t' u') := by
    obtain ⟨h1, h2, h3, h4, h5⟩ := H7.out
    exact ⟨h1.row (by omega) _, h3.other _ (by omega), h5.set _ _ _⟩
  generalize w7.setRow g10 #[.int .i64 s', .int .i64 t', .int .i64 u'] = w8 at H8 ⊢
  clear H7
  go_wp2_with (first | (refine cbox_load g7 H8.out.2.1 rfl _ rfl rfl ?_) | (refine box_load (w.heap.size + 1) H8.out.1.2.2.1 rfl _ rfl rfl ?_))
  refine (C5.out _).mono ?_
  rintro e w9 ⟨rfl, hb9⟩
  have H9 : Hid (Below w.heap.size w w9 ∧ CBox w9 g7 p' q' r' ∧ CBox w9 g10 s' t' u') := ⟨(H8.out.1.next hb9).1, H8.out.2.1.over hb9, H8.out.2.2.over hb9⟩
  clear hb9 C5 H8
  go_upto_region 6 with (fail)
  have H : Hid (Below w.heap.size w (w9.alloc (.cells #[.int .i64 m, .int .i64 n, .int .i64 o] 25)) ∧ CBox (w9.alloc (.cells #[.int .i64 m, .int .i64 n, .int .i64 o] 25)) g7 p' q' r' ∧ CBox (w9.alloc (.cells #[.int .i64 m, .int .i64 n, .int .i64 o] 25)) g10 s' t' u' ∧ CBox (w9.alloc (.cells #[.int .i64 m, .int .i64 n, .int .i64 o] 25)) w9.heap.size m n o) := ⟨H9.out.1.alloc H9.out.1.size _, H9.out.2.1.alloc _, H9.out.2.2.alloc _, CBox.new _ _ _ _⟩
  generalize (w9.alloc (.cells #[.int .i64 m, .int .i64 n, .int .i64 o] 25)) = wa at H ⊢
  generalize w9.heap.size = g13 at H ⊢
  clear H9
  rcases hcases.out with (rfl | ⟨rfl, rfl⟩ | ⟨rfl, rfl, rfl⟩ | ⟨rfl, rfl, rfl, rfl⟩) | ⟨rfl, rfl, rfl, rfl, rfl, rfl, rfl, rfl, rfl, rfl, rfl⟩
  · clear hcases
    go_wp2_with fail
    refine (HAW.out _).mono ?_
    rintro e wb ⟨rfl, hb⟩
    go_wp2_with fail
    go_ret
    exact ⟨rfl, H.out.1.trans (hb.mono H.out.1.size)⟩
  · clear hcases
    go_wp2_with fail
    refine (HAW.out _).mono ?_
    rintro e wb ⟨rfl, hb⟩
    go_wp2_with fail
    go_ret
    exact ⟨rfl, H.out.1.trans (hb.mono H.out.1.size)⟩
  · clear hcases
    go_wp2_with fail
    refine (HAW.out _).mono ?_
    rintro e wb ⟨rfl, hb⟩
    go_wp2_with fail
    go_ret
    exact ⟨rfl, H.out.1.trans (hb.mono H.out.1.size)⟩
  · clear hcases
    go_wp2_with fail
    refine (HAW.out _).mono ?_
    rintro e wb ⟨rfl, hb⟩
    go_wp2_with fail
    go_ret
    exact ⟨rfl, H.out.1.trans (hb.mono H.out.1.size)⟩
  · clear hcases
    obtain ⟨x0, x1, x2⟩ := H.out.2.1.cell
    obtain ⟨y0, y1, y2⟩ := H.out.2.2.1.cell
    obtain ⟨z0, z1, z2⟩ := H.out.2.2.2.cell
    go_wp2_with fail
    refine (HAW.out _).mono ?_
    rintro e wb ⟨rfl, hb⟩
    go_wp2_with fail
    go_ret
    exact ⟨rfl, H.out.1.trans (hb.mono H.out.1.size)⟩

end Go.Proofs.Ytffmannejfmcgaa
