/-
  The contracts of clock.Raise and clock.Hear.
-/
import Derived.Test.YtffmannejfmcgaaClRight
import Derived.Test.YtffmannejfmcgaaClPlain
import Derived.Test.YtffmannejfmcgaaSmLater
set_option linter.unusedVariables false
namespace Go.Proofs.Ytffmannejfmcgaa
open Go.RowKit

/-- The three blocks of a function on a clock and a stamp that gives a clock. -/
def CS (w : World) (a b c x y z : Int) (W : World) : Prop := Below w.heap.size w W ∧ CBox W w.heap.size a b c ∧ Box W (w.heap.size + 1) x y z ∧ CBox W (w.heap.size + 1 + 1) 0 0 0
theorem CS.new (w : World) (a b c x y z : Int) : CS w a b c x y z (((w.alloc (.cells #[.int .i64 a, .int .i64 b, .int .i64 c] 25)).alloc (.cells #[.int .i64 x, .int .i64 y, .int .i64 z] 23)).alloc (.cells #[.int .i64 0, .int .i64 0, .int .i64 0] 25)) := by
  refine ⟨(((Below.refl w.heap.size w).alloc (Nat.le_refl _) _).alloc (by simp) _).alloc (by simp; omega) _, ((CBox.new w a b c).alloc _).alloc _, ?_, ?_⟩
  · have := (Box.new (w.alloc (.cells #[.int .i64 a, .int .i64 b, .int .i64 c] 25)) x y z).alloc (.cells #[.int .i64 0, .int .i64 0, .int .i64 0] 25)
    simpa using this
  · have := CBox.new ((w.alloc (.cells #[.int .i64 a, .int .i64 b, .int .i64 c] 25)).alloc (.cells #[.int .i64 x, .int .i64 y, .int .i64 z] 23)) 0 0 0
    simpa using this
theorem CS.next {w W W' : World} {a b c x y z : Int} (H : CS w a b c x y z W) (hb : Below W.heap.size W W') : CS w a b c x y z W' :=
  ⟨H.1.trans (hb.mono H.1.size), H.2.1.over hb, H.2.2.1.over hb, H.2.2.2.over hb⟩
theorem CS.node {w W : World} {a b c x y z : Int} (H : CS w a b c x y z W) (n : Int) : CS w a b c x y n (W.setCell ⟨w.heap.size + 1, 2, none⟩ (.int .i64 n)) :=
  ⟨H.1.setCell (by simp) _, H.2.1.off _ _ (by simp), H.2.2.1.set2 n, H.2.2.2.off _ _ (by simp)⟩

set_option maxRecDepth 100000 in
set_option maxHeartbeats 400000 in
theorem Raise_ok (a b c x y z p q r : Int) (w : World) (h1 : rightB a b c = true) (h2 : rightB x y z = true) (h3 : raiseV a b c x y = (p, q, r)) : Calls Try.prog 15 #[(Go.Value.agg #[Go.Value.int Go.IntKind.i64 a, Go.Value.int Go.IntKind.i64 b, Go.Value.int Go.IntKind.i64 c]), (Go.Value.agg #[Go.Value.int Go.IntKind.i64 x, Go.Value.int Go.IntKind.i64 y, Go.Value.int Go.IntKind.i64 z])] w fun e w' => e = .returned (.tuple #[(Go.Value.agg #[Go.Value.int Go.IntKind.i64 p, Go.Value.int Go.IntKind.i64 q, Go.Value.int Go.IntKind.i64 r]), .int .i64 0]) ∧ Below w.heap.size w w' := by
  have HR : Hid (∀ W, Calls Try.prog 22 #[(Go.Value.agg #[Go.Value.int Go.IntKind.i64 a, Go.Value.int Go.IntKind.i64 b, Go.Value.int Go.IntKind.i64 c])] W fun e w' => e = .returned (.bool true) ∧ Below W.heap.size W w') := fun W => by rw [← h1]; exact cright_any a b c W
  have HS : Hid (∀ W, Calls Try.prog 21 #[(Go.Value.agg #[Go.Value.int Go.IntKind.i64 x, Go.Value.int Go.IntKind.i64 y, Go.Value.int Go.IntKind.i64 z])] W fun e w' => e = .returned (.bool true) ∧ Below W.heap.size W w') := fun W => by rw [← h2]; exact Right_any x y z W
  have HL : Hid (∀ W, Calls Try.prog 19 #[(Go.Value.agg #[Go.Value.int Go.IntKind.i64 a, Go.Value.int Go.IntKind.i64 b, Go.Value.int Go.IntKind.i64 c]), (Go.Value.agg #[Go.Value.int Go.IntKind.i64 x, Go.Value.int Go.IntKind.i64 y, Go.Value.int Go.IntKind.i64 c])] W fun e w' => e = .returned (Go.Value.agg #[Go.Value.int Go.IntKind.i64 p, Go.Value.int Go.IntKind.i64 q, Go.Value.int Go.IntKind.i64 r]) ∧ Below W.heap.size W w') := fun W => by
    rcases cmp_node a b c x y with ⟨k1, k2⟩ | ⟨k1, k2⟩
    · rw [k2] at h3; cases h3; exact Later_fst _ _ _ _ _ _ W k1
    · rw [k2] at h3; cases h3; exact Later_snd _ _ _ _ _ _ W k1
  clear h1 h2 h3
  go_enter Try.func15, Try.ntmps15
  go_wp2_with fail
  refine (HR.out _).mono ?_
  rintro e w1 ⟨rfl, hb1⟩
  have H1 : Hid (CS w a b c x y z w1) := (CS.new w a b c x y z).next hb1
  clear hb1
  obtain ⟨y0, y1, y2⟩ := H1.out.2.2.1.cell
  go_wp2_with fail
  refine (HS.out _).mono ?_
  rintro e w2 ⟨rfl, hb2⟩
  clear y0 y1 y2
  have H2 : Hid (CS w a b c x y z w2) := H1.out.next hb2
  clear hb2 H1
  obtain ⟨x0, x1, x2⟩ := H2.out.2.1.cell
  obtain ⟨y0, y1, y2⟩ := H2.out.2.2.1.cell
  have y3 := H2.out.2.2.1.frozen 2
  have HN : Hid (CS w a b c x y c (w2.setCell ⟨w.heap.size + 1, 2, none⟩ (.int .i64 c))) := H2.out.node c
  go_wp2_with (first | (refine cbox_part w.heap.size HN.out.2.1 rfl _ rfl rfl ?_) | (refine box_load (w.heap.size + 1) HN.out.2.2.1 rfl _ rfl rfl ?_))
  refine (HL.out _).mono ?_
  rintro e w3 ⟨rfl, hb3⟩
  clear x0 x1 x2 y0 y1 y2 y3
  have H3 : Hid (CS w a b c x y c w3) := HN.out.next hb3
  clear hb3 HN H2
  go_wp2_with (first | (refine cbox_put w.heap.size H3.out.2.1 rfl _ _ rfl rfl rfl ?_) | (refine cbox_load w.heap.size (H3.out.2.1.set p q r) rfl _ rfl rfl ?_) | (refine cbox_store (w.heap.size + 1 + 1) (H3.out.2.2.2.other _ (by omega)) rfl _ _ rfl rfl rfl ?_))
  exact bodyPost_ret (cbox_result2 rfl _ _ (w.heap.size + 1 + 1) rfl ((H3.out.2.2.2.other _ (by omega)).set p q r)) rfl ⟨rfl, below_setRow (below_setRow H3.out.1 (by omega) _) (by omega) _⟩

set_option maxRecDepth 100000 in
set_option maxHeartbeats 400000 in
theorem Raise_no (a b c x y z : Int) (w : World) (h : rightB a b c = false ∨ rightB x y z = false) : Calls Try.prog 15 #[(Go.Value.agg #[Go.Value.int Go.IntKind.i64 a, Go.Value.int Go.IntKind.i64 b, Go.Value.int Go.IntKind.i64 c]), (Go.Value.agg #[Go.Value.int Go.IntKind.i64 x, Go.Value.int Go.IntKind.i64 y, Go.Value.int Go.IntKind.i64 z])] w fun e w' => e = .returned (.tuple #[(Go.Value.agg #[Go.Value.int Go.IntKind.i64 0, Go.Value.int Go.IntKind.i64 0, Go.Value.int Go.IntKind.i64 0]), .int .i64 1]) ∧ Below w.heap.size w w' := by
  obtain ⟨d, hd⟩ : ∃ d, d = rightB a b c := ⟨_, rfl⟩
  obtain ⟨f, hf⟩ : ∃ d, d = rightB x y z := ⟨_, rfl⟩
  rw [← hd, ← hf] at h
  have HR : Hid (∀ W, Calls Try.prog 22 #[(Go.Value.agg #[Go.Value.int Go.IntKind.i64 a, Go.Value.int Go.IntKind.i64 b, Go.Value.int Go.IntKind.i64 c])] W fun e w' => e = .returned (.bool d) ∧ Below W.heap.size W w') := fun W => by rw [hd]; exact cright_any a b c W
  have HS : Hid (∀ W, Calls Try.prog 21 #[(Go.Value.agg #[Go.Value.int Go.IntKind.i64 x, Go.Value.int Go.IntKind.i64 y, Go.Value.int Go.IntKind.i64 z])] W fun e w' => e = .returned (.bool f) ∧ Below W.heap.size W w') := fun W => by rw [hf]; exact Right_any x y z W
  clear hd hf
  cases d
  · clear h
    go_enter Try.func15, Try.ntmps15
    go_wp2_with fail
    refine (HR.out _).mono ?_
    rintro e w1 ⟨rfl, hb1⟩
    have H1 : Hid (CS w a b c x y z w1) := (CS.new w a b c x y z).next hb1
    clear hb1
    go_wp2_with (first | (refine cbox_store (w.heap.size + 1 + 1) H1.out.2.2.2 rfl _ _ rfl rfl rfl ?_))
    exact bodyPost_ret (cbox_result2 rfl _ _ (w.heap.size + 1 + 1) rfl (H1.out.2.2.2.set 0 0 0)) rfl ⟨rfl, below_setRow H1.out.1 (by omega) _⟩
  · obtain rfl : f = false := by simpa using h
    clear h
    go_enter Try.func15, Try.ntmps15
    go_wp2_with fail
    refine (HR.out _).mono ?_
    rintro e w1 ⟨rfl, hb1⟩
    have H1 : Hid (CS w a b c x y z w1) := (CS.new w a b c x y z).next hb1
    clear hb1
    obtain ⟨y0, y1, y2⟩ := H1.out.2.2.1.cell
    go_wp2_with fail
    refine (HS.out _).mono ?_
    rintro e w2 ⟨rfl, hb2⟩
    clear y0 y1 y2
    have H2 : Hid (CS w a b c x y z w2) := H1.out.next hb2
    clear hb2 H1
    go_wp2_with (first | (refine cbox_store (w.heap.size + 1 + 1) H2.out.2.2.2 rfl _ _ rfl rfl rfl ?_))
    exact bodyPost_ret (cbox_result2 rfl _ _ (w.heap.size + 1 + 1) rfl (H2.out.2.2.2.set 0 0 0)) rfl ⟨rfl, below_setRow H2.out.1 (by omega) _⟩

theorem Raise_any (a b c x y z p q r e : Int) (w : World) (h : raiseF a b c x y z = (p, q, r, e)) : Calls Try.prog 15 #[(Go.Value.agg #[Go.Value.int Go.IntKind.i64 a, Go.Value.int Go.IntKind.i64 b, Go.Value.int Go.IntKind.i64 c]), (Go.Value.agg #[Go.Value.int Go.IntKind.i64 x, Go.Value.int Go.IntKind.i64 y, Go.Value.int Go.IntKind.i64 z])] w fun e' w' => e' = .returned (.tuple #[(Go.Value.agg #[Go.Value.int Go.IntKind.i64 p, Go.Value.int Go.IntKind.i64 q, Go.Value.int Go.IntKind.i64 r]), .int .i64 e]) ∧ Below w.heap.size w w' := by
  rcases raiseF_cases h with ⟨rfl, rfl, rfl, rfl, h1⟩ | ⟨rfl, h1, h2, h3⟩
  · exact Raise_no a b c x y z w h1
  · exact Raise_ok a b c x y z p q r w h1 h2 h3

end Go.Proofs.Ytffmannejfmcgaa
