/-
  The walk of ClockHears.
-/
import Derived.Test.YtffmannejfmcgaaClAwake
import Derived.Test.YtffmannejfmcgaaClHear
import Derived.Test.YtffmannejfmcgaaClRef
import Derived.Test.YtffmannejfmcgaaSmEq
import Derived.Test.YtffmannejfmcgaaSmCalm
set_option linter.unusedVariables false
namespace Go.Proofs.Ytffmannejfmcgaa
open Go.RowKit

/-- A clock and a stamp in memory. -/
def KH (w : World) (a b c x y z : Int) (W : World) : Prop := Below w.heap.size w W ∧ CBox W w.heap.size a b c ∧ Box W (w.heap.size + 1) x y z
theorem KH.new (w : World) (a b c x y z : Int) : KH w a b c x y z ((((w.alloc (.cells #[.int .i64 a, .int .i64 b, .int .i64 c] 25))).alloc (.cells #[.int .i64 x, .int .i64 y, .int .i64 z] 23))) := by
  refine ⟨((Below.refl w.heap.size w).alloc (Nat.le_refl _) _).alloc (by simp) _, (CBox.new w a b c).alloc _, ?_⟩
  have := Box.new (w.alloc (.cells #[.int .i64 a, .int .i64 b, .int .i64 c] 25)) x y z
  simpa using this
theorem KH.next {w W W' : World} {a b c x y z : Int} (H : KH w a b c x y z W) (hb : Below W.heap.size W W') : KH w a b c x y z W' :=
  ⟨H.1.trans (hb.mono H.1.size), H.2.1.over hb, H.2.2.over hb⟩
theorem KH.alloc {w W : World} {a b c x y z : Int} (H : KH w a b c x y z W) (o : Obj) : KH w a b c x y z (W.alloc o) := H.next ((Below.refl _ _).alloc (Nat.le_refl _) o)
/-- And the clock that Raise gave. -/
def KG (w : World) (a b c x y z : Int) (g : Nat) (m n o : Int) (W : World) : Prop := KH w a b c x y z W ∧ CBox W g m n o
theorem KG.next {w W W' : World} {a b c x y z : Int} {g : Nat} {m n o : Int} (H : KG w a b c x y z g m n o W) (hb : Below W.heap.size W W') : KG w a b c x y z g m n o W' := ⟨H.1.next hb, H.2.over hb⟩
theorem KG.drew {w W : World} {a b c x y z : Int} {g : Nat} {m n o : Int} (H : KG w a b c x y z g m n o W) : KG w a b c x y z g m n o W.drew := ⟨⟨H.1.1.drew, H.1.2⟩, H.2⟩

set_option maxRecDepth 100000 in
set_option maxHeartbeats 400000 in
theorem clockHears_core (w : World) (a b c j x y z p q r e m n o f : Int) (d1 d2 : Bool) (h : hearV a b c j x y z = (p, q, r, e)) (hr : raiseF a b c x y z = (m, n, o, f)) (h1 : rightB a b c = d1) (h2 : rightB x y z = d2)
    (hc : (d1 = false ∧ m = 0 ∧ n = 0 ∧ o = 0 ∧ f = 1) ∨ (d1 = true ∧ d2 = false ∧ m = 0 ∧ n = 0 ∧ o = 0 ∧ f = 1) ∨ (d1 = true ∧ d2 = true ∧ f = 0 ∧ raiseV a b c x y = (m, n, o))) : Calls Try.prog 4 #[(Go.Value.agg #[Go.Value.int Go.IntKind.i64 a, Go.Value.int Go.IntKind.i64 b, Go.Value.int Go.IntKind.i64 c]), .int .i64 j, (Go.Value.agg #[Go.Value.int Go.IntKind.i64 x, Go.Value.int Go.IntKind.i64 y, Go.Value.int Go.IntKind.i64 z])] w fun e w' => e = .returned (.bool true) ∧ Below w.heap.size w w' := by
  have HAW : Hid (∀ W, Calls Try.prog 12 #[] W fun e w' => e = .returned (.bool true) ∧ Below W.heap.size W w') := fun W => awake_any W
  have HH : Hid (∀ W, Calls Try.prog 13 #[(Go.Value.agg #[Go.Value.int Go.IntKind.i64 a, Go.Value.int Go.IntKind.i64 b, Go.Value.int Go.IntKind.i64 c]), .int .i64 j, (Go.Value.agg #[Go.Value.int Go.IntKind.i64 x, Go.Value.int Go.IntKind.i64 y, Go.Value.int Go.IntKind.i64 z])] W fun e' w' => e' = .returned (.tuple #[(Go.Value.agg #[Go.Value.int Go.IntKind.i64 p, Go.Value.int Go.IntKind.i64 q, Go.Value.int Go.IntKind.i64 r]), .int .i64 e]) ∧ Below W.heap.size W w') := fun W => Hear_any _ _ _ _ _ _ _ _ _ _ _ W h
  have HF : Hid (∀ W, Calls Try.prog 14 #[(Go.Value.agg #[Go.Value.int Go.IntKind.i64 a, Go.Value.int Go.IntKind.i64 b, Go.Value.int Go.IntKind.i64 c]), .int .i64 j, (Go.Value.agg #[Go.Value.int Go.IntKind.i64 x, Go.Value.int Go.IntKind.i64 y, Go.Value.int Go.IntKind.i64 z])] W fun e' w' => e' = .returned (.tuple #[(Go.Value.agg #[Go.Value.int Go.IntKind.i64 p, Go.Value.int Go.IntKind.i64 q, Go.Value.int Go.IntKind.i64 r]), .int .i64 e]) ∧ Below W.heap.size W w') := fun W => refHear_any _ _ _ _ _ _ _ _ _ _ _ W h
  have HR : Hid (∀ W, Calls Try.prog 15 #[(Go.Value.agg #[Go.Value.int Go.IntKind.i64 a, Go.Value.int Go.IntKind.i64 b, Go.Value.int Go.IntKind.i64 c]), (Go.Value.agg #[Go.Value.int Go.IntKind.i64 x, Go.Value.int Go.IntKind.i64 y, Go.Value.int Go.IntKind.i64 z])] W fun e' w' => e' = .returned (.tuple #[(Go.Value.agg #[Go.Value.int Go.IntKind.i64 m, Go.Value.int Go.IntKind.i64 n, Go.Value.int Go.IntKind.i64 o]), .int .i64 f]) ∧ Below W.heap.size W w') := fun W => Raise_any _ _ _ _ _ _ _ _ _ _ W hr
  have G1 : Hid (∀ W, Calls Try.prog 16 #[(Go.Value.agg #[Go.Value.int Go.IntKind.i64 a, Go.Value.int Go.IntKind.i64 b, Go.Value.int Go.IntKind.i64 c])] W fun e w' => e = .returned (.bool d1) ∧ Below W.heap.size W w') := fun W => by rw [← h1]; exact refRight_any a b c W
  have G2 : Hid (∀ W, Calls Try.prog 16 #[(Go.Value.agg #[Go.Value.int Go.IntKind.i64 x, Go.Value.int Go.IntKind.i64 y, Go.Value.int Go.IntKind.i64 z])] W fun e w' => e = .returned (.bool d2) ∧ Below W.heap.size W w') := fun W => by rw [← h2]; exact refRight_any x y z W
  have HCS := Lib.hid hc
  clear h hr h1 h2 hc
  go_enter Try.func4, Try.ntmps4
  go_wp2_with fail
  refine (HH.out _).mono ?_
  rintro e w1 ⟨rfl, hb1⟩
  have H1 : Hid (KH w a b c x y z w1) := (KH.new w a b c x y z).next hb1
  clear hb1 HH
  go_upto_region 2 with (fail)
  have H2 : Hid (KH w a b c x y z (w1.alloc (.cells #[.int .i64 p, .int .i64 q, .int .i64 r] 25)) ∧ CBox (w1.alloc (.cells #[.int .i64 p, .int .i64 q, .int .i64 r] 25)) w1.heap.size p q r) := ⟨H1.out.alloc _, CBox.new _ _ _ _⟩
  generalize (w1.alloc (.cells #[.int .i64 p, .int .i64 q, .int .i64 r] 25)) = w2 at H2 ⊢
  generalize w1.heap.size = g7 at H2 ⊢
  clear H1
  go_wp2_with (first | (refine cbox_part w.heap.size H2.out.1.2.1 rfl _ rfl rfl ?_) | (refine box_load (w.heap.size + 1) H2.out.1.2.2 rfl _ rfl rfl ?_))
  refine (HF.out _).mono ?_
  rintro e w3 ⟨rfl, hb3⟩
  have H3 : Hid (KH w a b c x y z w3 ∧ CBox w3 g7 p q r) := ⟨H2.out.1.next hb3, H2.out.2.over hb3⟩
  clear hb3 HF H2
  go_upto_region 3 with (fail)
  have H4 : Hid (KH w a b c x y z (w3.alloc (.cells #[.int .i64 p, .int .i64 q, .int .i64 r] 23)) ∧ CBox (w3.alloc (.cells #[.int .i64 p, .int .i64 q, .int .i64 r] 23)) g7 p q r ∧ Box (w3.alloc (.cells #[.int .i64 p, .int .i64 q, .int .i64 r] 23)) w3.heap.size p q r) := ⟨H3.out.1.alloc _, H3.out.2.alloc _, Box.new _ _ _ _⟩
  generalize (w3.alloc (.cells #[.int .i64 p, .int .i64 q, .int .i64 r] 23)) = w4 at H4 ⊢
  generalize w3.heap.size = g9 at H4 ⊢
  clear H3
  obtain ⟨x0, x1, x2⟩ := H4.out.2.1.cell
  obtain ⟨y0, y1, y2⟩ := H4.out.2.2.cell
  go_upto_region 5 with (fail)
  clear x0 x1 x2 y0 y1 y2
  go_wp2_with (first | (refine cbox_load w.heap.size H4.out.1.2.1 rfl _ rfl rfl ?_) | (refine box_load (w.heap.size + 1) H4.out.1.2.2 rfl _ rfl rfl ?_))
  refine (HR.out _).mono ?_
  rintro e w5 ⟨rfl, hb5⟩
  have H5 : Hid (KH w a b c x y z w5) := H4.out.1.next hb5
  clear hb5 HR H4
  go_upto_region 6 with (fail)
  have H6 : Hid (KG w a b c x y z w5.heap.size m n o (w5.alloc (.cells #[.int .i64 m, .int .i64 n, .int .i64 o] 25))) := ⟨H5.out.alloc _, CBox.new _ _ _ _⟩
  generalize (w5.alloc (.cells #[.int .i64 m, .int .i64 n, .int .i64 o] 25)) = w6 at H6 ⊢
  generalize w5.heap.size = g11 at H6 ⊢
  clear H5
  go_wp2_with (first | (refine cbox_part w.heap.size H6.out.1.2.1 rfl _ rfl rfl ?_))
  refine (G1.out _).mono ?_
  rintro e w7 ⟨rfl, hb7⟩
  have H7 : Hid (KG w a b c x y z g11 m n o w7) := H6.out.next hb7
  clear hb7 G1 H6
  obtain ⟨y0, y1, y2⟩ := H7.out.1.2.2.cell
  rcases HCS.out with ⟨rfl, rfl, rfl, rfl, rfl⟩ | ⟨rfl, rfl, rfl, rfl, rfl, rfl⟩ | ⟨rfl, rfl, rfl, hv⟩
  · clear HCS G2
    obtain ⟨z0, z1, z2⟩ := H7.out.2.cell
    go_wp2_with fail
    refine (HAW.out _).mono ?_
    rintro e wb ⟨rfl, hb⟩
    go_wp2_with fail
    go_ret
    exact ⟨rfl, H7.out.1.1.trans (hb.mono H7.out.1.1.size)⟩
  · clear HCS
    go_wp2_with fail
    refine (G2.out _).mono ?_
    rintro e w8 ⟨rfl, hb8⟩
    have H8 : Hid (KG w a b c x y z g11 0 0 0 w8) := H7.out.next hb8
    clear hb8 G2 H7 y0 y1 y2
    obtain ⟨z0, z1, z2⟩ := H8.out.2.cell
    go_wp2_with fail
    refine (HAW.out _).mono ?_
    rintro e wb ⟨rfl, hb⟩
    go_wp2_with fail
    go_ret
    exact ⟨rfl, H8.out.1.1.trans (hb.mono H8.out.1.1.size)⟩
  · have HV : Hid (∀ W, Calls Try.prog 17 #[(Go.Value.agg #[Go.Value.int Go.IntKind.i64 a, Go.Value.int Go.IntKind.i64 b, Go.Value.int Go.IntKind.i64 c]), (Go.Value.agg #[Go.Value.int Go.IntKind.i64 x, Go.Value.int Go.IntKind.i64 y, Go.Value.int Go.IntKind.i64 z])] W fun e w' => e = .returned (Go.Value.agg #[Go.Value.int Go.IntKind.i64 m, Go.Value.int Go.IntKind.i64 n, Go.Value.int Go.IntKind.i64 o]) ∧ Below W.heap.size W w') := fun W => refRaise_any a b c x y z m n o W hv
    clear HCS hv
    go_wp2_with fail
    refine (G2.out _).mono ?_
    rintro e w8 ⟨rfl, hb8⟩
    have H8 : Hid (KG w a b c x y z g11 m n o w8) := H7.out.next hb8
    clear hb8 G2 H7 y0 y1 y2
    go_upto_region 8 with (fail)
    refine wp_region_calm (KG w a b c x y z g11 m n o) (by kernel_rfl) (by kernel_rfl) H8.out.drew ?_
    repeat (refine wpQuiet_step (fun K hK => ?_); go_simp; first | (refine hK _ ?_; clear hK K) | (apply Exists.intro; refine ⟨fun wc hwc => ?_, hK _ ?_⟩; (focus (first | (first | (go_at_call 17; refine (HV.out _).mono ?_; rintro e w1 ⟨rfl, hb1⟩; exact ⟨rfl, hwc.next hb1⟩) | (go_at_call 12; refine (HAW.out _).mono ?_; rintro e w1 ⟨rfl, hb1⟩; exact ⟨rfl, hwc.next hb1⟩)) | (((obtain ⟨⟨_, hx, hy⟩, hz⟩ := hwc; obtain ⟨x1, x2, x3⟩ := hx.cell; obtain ⟨y1, y2, y3⟩ := hy.cell; obtain ⟨z1, z2, z3⟩ := hz.cell; clear hx hy hz)); go_simp; done) | (((obtain ⟨⟨_, hx, hy⟩, hz⟩ := hwc; obtain ⟨x1, x2, x3⟩ := hx.cell; obtain ⟨y1, y2, y3⟩ := hy.cell; obtain ⟨z1, z2, z3⟩ := hz.cell; clear hx hy hz)); go_simp; exact rfl))); clear hK K))
    refine wpQuiet_nil ?_
    intro wc hwc
    go_wp2_with fail
    go_ret
    exact ⟨rfl, hwc.1.1⟩

theorem clockHears_walk (w : World) (a b c j : Int) (hj : -9223372036854775808 ≤ j ∧ j ≤ 9223372036854775807) (x y z : Int) : Calls Try.prog 4 #[(Go.Value.agg #[Go.Value.int Go.IntKind.i64 a, Go.Value.int Go.IntKind.i64 b, Go.Value.int Go.IntKind.i64 c]), .int .i64 j, (Go.Value.agg #[Go.Value.int Go.IntKind.i64 x, Go.Value.int Go.IntKind.i64 y, Go.Value.int Go.IntKind.i64 z])] w fun e w' => e = .returned (.bool true) ∧ Below w.heap.size w w' := by
  obtain ⟨p, q, r, e, h⟩ : ∃ p q r e, hearV a b c j x y z = (p, q, r, e) := ⟨_, _, _, _, rfl⟩
  obtain ⟨m, n, o, f, hr⟩ : ∃ p q r e, raiseF a b c x y z = (p, q, r, e) := ⟨_, _, _, _, rfl⟩
  refine clockHears_core w a b c j x y z p q r e m n o f _ _ h hr rfl rfl ?_
  rcases raiseF_cases hr with ⟨rfl, rfl, rfl, rfl, h1⟩ | ⟨rfl, h1, h2, h3⟩
  · cases h2 : rightB a b c
    · exact .inl ⟨rfl, rfl, rfl, rfl, rfl⟩
    · rcases h1 with h1 | h1
      · rw [h2] at h1; cases h1
      · exact .inr (.inl ⟨rfl, h1, rfl, rfl, rfl, rfl⟩)
  · exact .inr (.inr ⟨h1, h2, rfl, h3⟩)

end Go.Proofs.Ytffmannejfmcgaa
