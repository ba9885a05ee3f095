/-
  The walk of ClockApart.
-/
import Derived.Test.YtffmannejfmcgaaClAwake
import Derived.Test.YtffmannejfmcgaaClHear
import Derived.Test.YtffmannejfmcgaaSmEq
set_option linter.unusedVariables false
namespace Go.Proofs.Ytffmannejfmcgaa
open Go.RowKit

/-- Two clocks in memory. -/
def KK (w : World) (a b c x y z : Int) (W : World) : Prop := Below w.heap.size w W ∧ CBox W w.heap.size a b c ∧ CBox W (w.heap.size + 1) x y z
theorem KK.new (w : World) (a b c x y z : Int) : KK w a b c x y z ((((w.alloc (.cells #[.int .i64 a, .int .i64 b, .int .i64 c] 25))).alloc (.cells #[.int .i64 x, .int .i64 y, .int .i64 z] 25))) := by
  refine ⟨((Below.refl w.heap.size w).alloc (Nat.le_refl _) _).alloc (by simp) _, (CBox.new w a b c).alloc _, ?_⟩
  have := CBox.new (w.alloc (.cells #[.int .i64 a, .int .i64 b, .int .i64 c] 25)) x y z
  simpa using this
theorem KK.next {w W W' : World} {a b c x y z : Int} (H : KK w a b c x y z W) (hb : Below W.heap.size W W') : KK w a b c x y z W' :=
  ⟨H.1.trans (hb.mono H.1.size), H.2.1.over hb, H.2.2.over hb⟩
theorem KK.alloc {w W : World} {a b c x y z : Int} (H : KK w a b c x y z W) (o : Obj) : KK w a b c x y z (W.alloc o) := H.next ((Below.refl _ _).alloc (Nat.le_refl _) o)

set_option maxRecDepth 100000 in
set_option maxHeartbeats 400000 in
theorem clockApart_same (w : World) (a b c x y n m : Int) : Calls Try.prog 7 #[(Go.Value.agg #[Go.Value.int Go.IntKind.i64 a, Go.Value.int Go.IntKind.i64 b, Go.Value.int Go.IntKind.i64 c]), (Go.Value.agg #[Go.Value.int Go.IntKind.i64 x, Go.Value.int Go.IntKind.i64 y, Go.Value.int Go.IntKind.i64 c]), .int .i64 n, .int .i64 m] w fun e w' => e = .returned (.bool true) ∧ Below w.heap.size w w' := by
  have HAW : Hid (∀ W, Calls Try.prog 12 #[] W fun e w' => e = .returned (.bool true) ∧ Below W.heap.size W w') := fun W => awake_any W
  go_enter Try.func7, Try.ntmps7
  go_wp2_with fail
  have H1 : Hid (KK w a b c x y c (((w.alloc (.cells #[.int .i64 a, .int .i64 b, .int .i64 c] 25))).alloc (.cells #[.int .i64 x, .int .i64 y, .int .i64 c] 25))) := KK.new w a b c x y c
  refine (HAW.out _).mono ?_
  rintro e w9 ⟨rfl, hb9⟩
  go_wp2_with fail
  go_ret
  exact ⟨rfl, H1.out.1.trans (hb9.mono H1.out.1.size)⟩

set_option maxRecDepth 100000 in
set_option maxHeartbeats 400000 in
theorem clockApart_unlike (w : World) (a b c x y z n m p q r e p' q' r' f : Int) (hne : ¬ c = z) (h : nowV a b c n = (p, q, r, e)) (h2 : nowV x y z m = (p', q', r', f)) (hc : e = 1 ∨ e = 6 ∨ (e = 0 ∧ f = 1) ∨ (e = 0 ∧ f = 6) ∨ (e = 0 ∧ f = 0 ∧ sameB p q r p' q' r' = false)) : Calls Try.prog 7 #[(Go.Value.agg #[Go.Value.int Go.IntKind.i64 a, Go.Value.int Go.IntKind.i64 b, Go.Value.int Go.IntKind.i64 c]), (Go.Value.agg #[Go.Value.int Go.IntKind.i64 x, Go.Value.int Go.IntKind.i64 y, Go.Value.int Go.IntKind.i64 z]), .int .i64 n, .int .i64 m] w fun e w' => e = .returned (.bool true) ∧ Below w.heap.size w w' := by
  have HAW : Hid (∀ W, Calls Try.prog 12 #[] W fun e w' => e = .returned (.bool true) ∧ Below W.heap.size W w') := fun W => awake_any W
  have HN : Hid (∀ W, Calls Try.prog 10 #[(Go.Value.agg #[Go.Value.int Go.IntKind.i64 a, Go.Value.int Go.IntKind.i64 b, Go.Value.int Go.IntKind.i64 c]), .int .i64 n] W fun e' w' => e' = .returned (.tuple #[(Go.Value.agg #[Go.Value.int Go.IntKind.i64 p, Go.Value.int Go.IntKind.i64 q, Go.Value.int Go.IntKind.i64 r]), (Go.Value.agg #[Go.Value.int Go.IntKind.i64 p, Go.Value.int Go.IntKind.i64 q, Go.Value.int Go.IntKind.i64 r]), .int .i64 e]) ∧ Below W.heap.size W w') := fun W => Now_any _ _ _ _ _ _ _ _ W h
  have HM : Hid (∀ W, Calls Try.prog 10 #[(Go.Value.agg #[Go.Value.int Go.IntKind.i64 x, Go.Value.int Go.IntKind.i64 y, Go.Value.int Go.IntKind.i64 z]), .int .i64 m] W fun e' w' => e' = .returned (.tuple #[(Go.Value.agg #[Go.Value.int Go.IntKind.i64 p', Go.Value.int Go.IntKind.i64 q', Go.Value.int Go.IntKind.i64 r']), (Go.Value.agg #[Go.Value.int Go.IntKind.i64 p', Go.Value.int Go.IntKind.i64 q', Go.Value.int Go.IntKind.i64 r']), .int .i64 f]) ∧ Below W.heap.size W w') := fun W => Now_any _ _ _ _ _ _ _ _ W h2
  have HE : Hid (∀ W, (Op.equalIn 10000 23 (Go.Value.agg #[Go.Value.int Go.IntKind.i64 p, Go.Value.int Go.IntKind.i64 q, Go.Value.int Go.IntKind.i64 r]) (Go.Value.agg #[Go.Value.int Go.IntKind.i64 p', Go.Value.int Go.IntKind.i64 q', Go.Value.int Go.IntKind.i64 r'])).run Try.prog W = .ok (sameB p q r p' q' r') W) := fun W => eq_stamp _ _ _ _ _ _ W
  have hd : (c == z) = false := beq_eq_false_iff_ne.2 hne
  clear h h2 hne
  go_enter Try.func7, Try.ntmps7
  go_wp2_with fail
  refine (HN.out _).mono ?_
  rintro e w1 ⟨rfl, hb1⟩
  have H1 : Hid (KK w a b c x y z w1) := (KK.new w a b c x y z).next hb1
  clear hb1
  go_upto_region 4 with (fail)
  have H2 : Hid (KK w a b c x y z (((w1.alloc (.cells #[.int .i64 p, .int .i64 q, .int .i64 r] 25))).alloc (.cells #[.int .i64 p, .int .i64 q, .int .i64 r] 23)) ∧ Box (((w1.alloc (.cells #[.int .i64 p, .int .i64 q, .int .i64 r] 25))).alloc (.cells #[.int .i64 p, .int .i64 q, .int .i64 r] 23)) (w1.heap.size + 1) p q r) := by
    refine ⟨(H1.out.alloc _).alloc _, ?_⟩
    have := Box.new (w1.alloc (.cells #[.int .i64 p, .int .i64 q, .int .i64 r] 25)) p q r
    simpa using this
  clear H1
  generalize (((w1.alloc (.cells #[.int .i64 p, .int .i64 q, .int .i64 r] 25))).alloc (.cells #[.int .i64 p, .int .i64 q, .int .i64 r] 23)) = w2 at H2 ⊢
  generalize w1.heap.size = g9 at H2 ⊢
  go_wp2_with (first | (refine cbox_load (w.heap.size + 1) H2.out.1.2.2 rfl _ rfl rfl ?_))
  refine (HM.out _).mono ?_
  rintro e w3 ⟨rfl, hb3⟩
  have H3 : Hid (KK w a b c x y z w3 ∧ Box w3 (g9 + 1) p q r) := ⟨H2.out.1.next hb3, H2.out.2.over hb3⟩
  clear hb3 H2
  go_upto_region 5 with (fail)
  have H4 : Hid (Below w.heap.size w (((w3.alloc (.cells #[.int .i64 p', .int .i64 q', .int .i64 r'] 25))).alloc (.cells #[.int .i64 p', .int .i64 q', .int .i64 r'] 23)) ∧ Box (((w3.alloc (.cells #[.int .i64 p', .int .i64 q', .int .i64 r'] 25))).alloc (.cells #[.int .i64 p', .int .i64 q', .int .i64 r'] 23)) (g9 + 1) p q r ∧ Box (((w3.alloc (.cells #[.int .i64 p', .int .i64 q', .int .i64 r'] 25))).alloc (.cells #[.int .i64 p', .int .i64 q', .int .i64 r'] 23)) (w3.heap.size + 1) p' q' r') := by
    refine ⟨((H3.out.1.alloc _).alloc _).1, (H3.out.2.alloc _).alloc _, ?_⟩
    have := Box.new (w3.alloc (.cells #[.int .i64 p', .int .i64 q', .int .i64 r'] 25)) p' q' r'
    simpa using this
  clear H3
  generalize (((w3.alloc (.cells #[.int .i64 p', .int .i64 q', .int .i64 r'] 25))).alloc (.cells #[.int .i64 p', .int .i64 q', .int .i64 r'] 23)) = w4 at H4 ⊢
  generalize w3.heap.size = g12 at H4 ⊢
  rcases hc with rfl | rfl | ⟨rfl, rfl⟩ | ⟨rfl, rfl⟩ | ⟨rfl, rfl, he⟩
  · go_wp2_with fail
    refine (HAW.out _).mono ?_
    rintro e w9 ⟨rfl, hb9⟩
    go_wp2_with fail
    go_ret
    exact ⟨rfl, H4.out.1.trans (hb9.mono H4.out.1.size)⟩
  · go_wp2_with fail
    refine (HAW.out _).mono ?_
    rintro e w9 ⟨rfl, hb9⟩
    go_wp2_with fail
    go_ret
    exact ⟨rfl, H4.out.1.trans (hb9.mono H4.out.1.size)⟩
  · go_wp2_with fail
    refine (HAW.out _).mono ?_
    rintro e w9 ⟨rfl, hb9⟩
    go_wp2_with fail
    go_ret
    exact ⟨rfl, H4.out.1.trans (hb9.mono H4.out.1.size)⟩
  · go_wp2_with fail
    refine (HAW.out _).mono ?_
    rintro e w9 ⟨rfl, hb9⟩
    go_wp2_with fail
    go_ret
    exact ⟨rfl, H4.out.1.trans (hb9.mono H4.out.1.size)⟩
  · have hq : ∀ W, (Op.equalIn 10000 23 (Go.Value.agg #[Go.Value.int Go.IntKind.i64 p, Go.Value.int Go.IntKind.i64 q, Go.Value.int Go.IntKind.i64 r]) (Go.Value.agg #[Go.Value.int Go.IntKind.i64 p', Go.Value.int Go.IntKind.i64 q', Go.Value.int Go.IntKind.i64 r'])).run Try.prog W = .ok false W := fun W => by rw [← he]; exact HE.out W
    clear he
    obtain ⟨y0, y1, y2⟩ := H4.out.2.1.cell
    obtain ⟨z0, z1, z2⟩ := H4.out.2.2.cell
    go_wp2_with fail
    refine (HAW.out _).mono ?_
    rintro e w9 ⟨rfl, hb9⟩
    go_wp2_with fail
    go_ret
    exact ⟨rfl, H4.out.1.trans (hb9.mono H4.out.1.size)⟩

theorem clockApart_walk (w : World) (a b c x y z n : Int) (hn : -9223372036854775808 ≤ n ∧ n ≤ 9223372036854775807) (m : Int) (hm : -9223372036854775808 ≤ m ∧ m ≤ 9223372036854775807) : Calls Try.prog 7 #[(Go.Value.agg #[Go.Value.int Go.IntKind.i64 a, Go.Value.int Go.IntKind.i64 b, Go.Value.int Go.IntKind.i64 c]), (Go.Value.agg #[Go.Value.int Go.IntKind.i64 x, Go.Value.int Go.IntKind.i64 y, Go.Value.int Go.IntKind.i64 z]), .int .i64 n, .int .i64 m] w fun e w' => e = .returned (.bool true) ∧ Below w.heap.size w w' := by
  by_cases hc : c = z
  · subst hc; exact clockApart_same w a b c x y n m
  obtain ⟨p, q, r, e, h⟩ : ∃ p q r e, nowV a b c n = (p, q, r, e) := ⟨_, _, _, _, rfl⟩
  obtain ⟨p', q', r', f, h2⟩ : ∃ p q r e, nowV x y z m = (p, q, r, e) := ⟨_, _, _, _, rfl⟩
  refine clockApart_unlike w a b c x y z n m p q r e p' q' r' f hc h h2 ?_
  rcases now_cases h with ⟨he, _⟩ | ⟨rfl, _, _, rfl, _⟩
  · rcases he with rfl | rfl
    · exact .inl rfl
    · exact .inr (.inl rfl)
  rcases now_cases h2 with ⟨hf, _⟩ | ⟨rfl, _, _, rfl, _⟩
  · rcases hf with rfl | rfl
    · exact .inr (.inr (.inl ⟨rfl, rfl⟩))
    · exact .inr (.inr (.inr (.inl ⟨rfl, rfl⟩)))
  · refine .inr (.inr (.inr (.inr ⟨rfl, rfl, ?_⟩)))
    unfold sameB
    simp only [decide_eq_false_iff_not]
    omega

end Go.Proofs.Ytffmannejfmcgaa
