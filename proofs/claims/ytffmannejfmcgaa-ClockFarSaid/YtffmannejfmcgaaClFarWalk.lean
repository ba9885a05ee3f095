/-
  The walk of ClockFar.
-/
import Derived.Test.YtffmannejfmcgaaClAwake
import Derived.Test.YtffmannejfmcgaaClHear
import Derived.Test.YtffmannejfmcgaaSmCompare
import Derived.Test.YtffmannejfmcgaaSmEq
set_option linter.unusedVariables false
namespace Go.Proofs.Ytffmannejfmcgaa
open Go.RowKit

/-- A clock and a stamp in memory. -/
def KS (w : World) (a b c x y z : Int) (W : World) : Prop := Below w.heap.size w W ∧ CBox W w.heap.size a b c ∧ Box W (w.heap.size + 1) x y z
theorem KS.new (w : World) (a b c x y z : Int) : KS w a b c x y z ((((w.alloc (.cells #[.int .i64 a, .int .i64 b, .int .i64 c] 25))).alloc (.cells #[.int .i64 x, .int .i64 y, .int .i64 z] 23))) := by
  refine ⟨((Below.refl w.heap.size w).alloc (Nat.le_refl _) _).alloc (by simp) _, (CBox.new w a b c).alloc _, ?_⟩
  have := Box.new (w.alloc (.cells #[.int .i64 a, .int .i64 b, .int .i64 c] 25)) x y z
  simpa using this
theorem KS.next {w W W' : World} {a b c x y z : Int} (H : KS w a b c x y z W) (hb : Below W.heap.size W W') : KS w a b c x y z W' :=
  ⟨H.1.trans (hb.mono H.1.size), H.2.1.over hb, H.2.2.over hb⟩
theorem KS.alloc {w W : World} {a b c x y z : Int} (H : KS w a b c x y z W) (o : Obj) : KS w a b c x y z (W.alloc o) := H.next ((Below.refl _ _).alloc (Nat.le_refl _) o)

set_option maxRecDepth 100000 in
set_option maxHeartbeats 400000 in
theorem clockFar_no (w : World) (a b c n x y z e : Int) (h : hearV a b c n x y z = (0, 0, 0, e)) (he : e = 1 ∨ e = 12) : Calls Try.prog 8 #[(Go.Value.agg #[Go.Value.int Go.IntKind.i64 a, Go.Value.int Go.IntKind.i64 b, Go.Value.int Go.IntKind.i64 c]), .int .i64 n, (Go.Value.agg #[Go.Value.int Go.IntKind.i64 x, Go.Value.int Go.IntKind.i64 y, Go.Value.int Go.IntKind.i64 z])] w fun e w' => e = .returned (.bool true) ∧ Below w.heap.size w w' := by
  have HAW : Hid (∀ W, Calls Try.prog 12 #[] W fun e w' => e = .returned (.bool true) ∧ Below W.heap.size W w') := fun W => awake_any W
  have HH : Hid (∀ W, Calls Try.prog 13 #[(Go.Value.agg #[Go.Value.int Go.IntKind.i64 a, Go.Value.int Go.IntKind.i64 b, Go.Value.int Go.IntKind.i64 c]), .int .i64 n, (Go.Value.agg #[Go.Value.int Go.IntKind.i64 x, Go.Value.int Go.IntKind.i64 y, Go.Value.int Go.IntKind.i64 z])] W fun e' w' => e' = .returned (.tuple #[(Go.Value.agg #[Go.Value.int Go.IntKind.i64 0, Go.Value.int Go.IntKind.i64 0, Go.Value.int Go.IntKind.i64 0]), .int .i64 e]) ∧ Below W.heap.size W w') := fun W => Hear_any _ _ _ _ _ _ _ _ _ _ _ W h
  clear h
  have hd : (e == 0) = false := by rw [beq_eq_false_iff_ne]; omega
  clear he
  go_enter Try.func8, Try.ntmps8
  go_wp2_with fail
  refine (HH.out _).mono ?_
  rintro e w1 ⟨rfl, hb1⟩
  have H1 : Hid (KS w a b c x y z w1) := (KS.new w a b c x y z).next hb1
  clear hb1
  go_wp2_with fail
  have H2 : Hid (KS w a b c x y z (w1.alloc (.cells #[.int .i64 0, .int .i64 0, .int .i64 0] 25))) := H1.out.alloc _
  refine (HAW.out _).mono ?_
  rintro e w9 ⟨rfl, hb9⟩
  go_wp2_with fail
  go_ret
  exact ⟨rfl, H2.out.1.trans (hb9.mono H2.out.1.size)⟩

set_option maxRecDepth 100000 in
set_option maxHeartbeats 400000 in
theorem clockFar_yes (w : World) (a b c n x y z p q r k : Int) (d : Bool) (h : hearV a b c n x y z = (p, q, r, 0)) (hx : 0 ≤ n ∧ n ≤ 1099511627776 ∧ x ≤ n + 1000) (hd : sameB p q r a b c = d) (hp : d = false → p ≤ n + 1000) (hk : cmpI p q r a b c = k) (hk0 : 0 ≤ k) : Calls Try.prog 8 #[(Go.Value.agg #[Go.Value.int Go.IntKind.i64 a, Go.Value.int Go.IntKind.i64 b, Go.Value.int Go.IntKind.i64 c]), .int .i64 n, (Go.Value.agg #[Go.Value.int Go.IntKind.i64 x, Go.Value.int Go.IntKind.i64 y, Go.Value.int Go.IntKind.i64 z])] w fun e w' => e = .returned (.bool true) ∧ Below w.heap.size w w' := by
  have HAW : Hid (∀ W, Calls Try.prog 12 #[] W fun e w' => e = .returned (.bool true) ∧ Below W.heap.size W w') := fun W => awake_any W
  have HH : Hid (∀ W, Calls Try.prog 13 #[(Go.Value.agg #[Go.Value.int Go.IntKind.i64 a, Go.Value.int Go.IntKind.i64 b, Go.Value.int Go.IntKind.i64 c]), .int .i64 n, (Go.Value.agg #[Go.Value.int Go.IntKind.i64 x, Go.Value.int Go.IntKind.i64 y, Go.Value.int Go.IntKind.i64 z])] W fun e' w' => e' = .returned (.tuple #[(Go.Value.agg #[Go.Value.int Go.IntKind.i64 p, Go.Value.int Go.IntKind.i64 q, Go.Value.int Go.IntKind.i64 r]), .int .i64 0]) ∧ Below W.heap.size W w') := fun W => Hear_any _ _ _ _ _ _ _ _ _ _ _ W h
  have HC : Hid (∀ W, Calls Try.prog 20 #[(Go.Value.agg #[Go.Value.int Go.IntKind.i64 p, Go.Value.int Go.IntKind.i64 q, Go.Value.int Go.IntKind.i64 r]), (Go.Value.agg #[Go.Value.int Go.IntKind.i64 a, Go.Value.int Go.IntKind.i64 b, Go.Value.int Go.IntKind.i64 c])] W fun e w' => e = .returned (.int .i64 k) ∧ Below W.heap.size W w') := fun W => by rw [← hk]; exact Compare_any _ _ _ _ _ _ W
  have HE : Hid (∀ W, (Op.equalIn 10000 23 (Go.Value.agg #[Go.Value.int Go.IntKind.i64 p, Go.Value.int Go.IntKind.i64 q, Go.Value.int Go.IntKind.i64 r]) (Go.Value.agg #[Go.Value.int Go.IntKind.i64 a, Go.Value.int Go.IntKind.i64 b, Go.Value.int Go.IntKind.i64 c])).run Try.prog W = .ok d W) := fun W => by rw [← hd]; exact eq_stamp _ _ _ _ _ _ W
  have HQ := Lib.hid (IntWalk.i64_in (n + 1000) (by omega))
  have q1 : decide (x ≤ n + 1000) = true := by simp only [decide_eq_true_eq]; omega
  have q2 : decide (0 ≤ k) = true := by simpa using hk0
  clear h hd hk hx hk0
  cases d
  · have q3 : decide (p ≤ n + 1000) = true := by simpa using hp rfl
    clear hp
    go_enter Try.func8, Try.ntmps8
    go_wp2_with fail
    refine (HH.out _).mono ?_
    rintro e w1 ⟨rfl, hb1⟩
    have H1 : Hid (KS w a b c x y z w1) := (KS.new w a b c x y z).next hb1
    clear hb1
    go_upto_region 4 with (fail)
    have H2 : Hid (KS w a b c x y z (w1.alloc (.cells #[.int .i64 p, .int .i64 q, .int .i64 r] 25)) ∧ CBox (w1.alloc (.cells #[.int .i64 p, .int .i64 q, .int .i64 r] 25)) w1.heap.size p q r) := ⟨H1.out.alloc _, CBox.new _ _ _ _⟩
    clear H1
    generalize (w1.alloc (.cells #[.int .i64 p, .int .i64 q, .int .i64 r] 25)) = w2 at H2 ⊢
    generalize w1.heap.size = g7 at H2 ⊢
    obtain ⟨x0, x1, x2⟩ := H2.out.1.2.1.cell
    obtain ⟨y0, y1, y2⟩ := H2.out.1.2.2.cell
    obtain ⟨z0, z1, z2⟩ := H2.out.2.cell
    have hq := HQ.out
    have he := HE.out
    go_wp2_with fail
    refine (HC.out _).mono ?_
    rintro e w3 ⟨rfl, hb3⟩
    have H3 : Hid (KS w a b c x y z w3) := H2.out.1.next hb3
    clear hb3 x0 x1 x2 y0 y1 y2 z0 z1 z2
    go_wp2_with fail
    refine (HAW.out _).mono ?_
    rintro e w9 ⟨rfl, hb9⟩
    go_wp2_with fail
    go_ret
    exact ⟨rfl, H3.out.1.trans (hb9.mono H3.out.1.size)⟩
  · clear hp
    go_enter Try.func8, Try.ntmps8
    go_wp2_with fail
    refine (HH.out _).mono ?_
    rintro e w1 ⟨rfl, hb1⟩
    have H1 : Hid (KS w a b c x y z w1) := (KS.new w a b c x y z).next hb1
    clear hb1
    go_upto_region 4 with (fail)
    have H2 : Hid (KS w a b c x y z (w1.alloc (.cells #[.int .i64 p, .int .i64 q, .int .i64 r] 25)) ∧ CBox (w1.alloc (.cells #[.int .i64 p, .int .i64 q, .int .i64 r] 25)) w1.heap.size p q r) := ⟨H1.out.alloc _, CBox.new _ _ _ _⟩
    clear H1
    generalize (w1.alloc (.cells #[.int .i64 p, .int .i64 q, .int .i64 r] 25)) = w2 at H2 ⊢
    generalize w1.heap.size = g7 at H2 ⊢
    obtain ⟨x0, x1, x2⟩ := H2.out.1.2.1.cell
    obtain ⟨y0, y1, y2⟩ := H2.out.1.2.2.cell
    obtain ⟨z0, z1, z2⟩ := H2.out.2.cell
    have hq := HQ.out
    have he := HE.out
    go_wp2_with fail
    refine (HC.out _).mono ?_
    rintro e w3 ⟨rfl, hb3⟩
    have H3 : Hid (KS w a b c x y z w3) := H2.out.1.next hb3
    clear hb3 x0 x1 x2 y0 y1 y2 z0 z1 z2
    go_wp2_with fail
    refine (HAW.out _).mono ?_
    rintro e w9 ⟨rfl, hb9⟩
    go_wp2_with fail
    go_ret
    exact ⟨rfl, H3.out.1.trans (hb9.mono H3.out.1.size)⟩

theorem clockFar_walk (w : World) (a b c n : Int) (hn : -9223372036854775808 ≤ n ∧ n ≤ 9223372036854775807) (x y z : Int) : Calls Try.prog 8 #[(Go.Value.agg #[Go.Value.int Go.IntKind.i64 a, Go.Value.int Go.IntKind.i64 b, Go.Value.int Go.IntKind.i64 c]), .int .i64 n, (Go.Value.agg #[Go.Value.int Go.IntKind.i64 x, Go.Value.int Go.IntKind.i64 y, Go.Value.int Go.IntKind.i64 z])] w fun e w' => e = .returned (.bool true) ∧ Below w.heap.size w w' := by
  obtain ⟨p, q, r, e, h⟩ : ∃ p q r e, hearV a b c n x y z = (p, q, r, e) := ⟨_, _, _, _, rfl⟩
  rcases hear_cases h with ⟨he, rfl, rfl, rfl⟩ | ⟨rfl, h1, h2, h3, h4, h5⟩
  · exact clockFar_no w a b c n x y z e h he
  · obtain ⟨_, g1, g2, g3, g4⟩ := raise_right h1 h3 h5
    have g5 := inB_true h2
    refine clockFar_yes w a b c n x y z p q r _ _ h ⟨g5.1, g5.2, h4⟩ rfl (fun hd => ?_) rfl ?_
    · unfold sameB at hd
      simp only [decide_eq_false_iff_not] at hd
      omega
    · rcases cmp_cases p q r a b c with ⟨k1, _, _⟩ | ⟨_, _, k3⟩ | ⟨_, _, k3, _⟩
      · exfalso
        unfold befB at k1
        revert k1
        (repeat' split) <;> simp <;> omega
      · omega
      · omega

end Go.Proofs.Ytffmannejfmcgaa
