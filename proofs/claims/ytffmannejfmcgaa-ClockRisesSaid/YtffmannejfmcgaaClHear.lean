/-
  The contract of clock.Hear.
-/
import Derived.Test.YtffmannejfmcgaaClRaise
set_option linter.unusedVariables false
namespace Go.Proofs.Ytffmannejfmcgaa
open Go.RowKit

set_option maxRecDepth 100000 in
set_option maxHeartbeats 400000 in
theorem Hear_ok (a b c n x y z p q r : Int) (w : World) (h1 : rightB a b c = true) (h2 : inB n 1099511627776 = true) (h3 : rightB x y z = true) (h4 : ¬ x > n + 1000) (h5 : raiseV a b c x y = (p, q, r)) : Calls Try.prog 13 #[(Go.Value.agg #[Go.Value.int Go.IntKind.i64 a, Go.Value.int Go.IntKind.i64 b, Go.Value.int Go.IntKind.i64 c]), .int .i64 n, (Go.Value.agg #[Go.Value.int Go.IntKind.i64 x, Go.Value.int Go.IntKind.i64 y, Go.Value.int Go.IntKind.i64 z])] w fun e w' => e = .returned (.tuple #[(Go.Value.agg #[Go.Value.int Go.IntKind.i64 p, Go.Value.int Go.IntKind.i64 q, Go.Value.int Go.IntKind.i64 r]), .int .i64 0]) ∧ Below w.heap.size w w' := by
  have HR : Hid (∀ W, Calls Try.prog 22 #[(Go.Value.agg #[Go.Value.int Go.IntKind.i64 a, Go.Value.int Go.IntKind.i64 b, Go.Value.int Go.IntKind.i64 c])] W fun e w' => e = .returned (.bool true) ∧ Below W.heap.size W w') := fun W => by rw [← h1]; exact cright_any a b c W
  have HW : Hid (∀ W, Calls Try.prog 23 #[.int .i64 n] W fun e w' => e = .returned (.bool true) ∧ w' = W) := fun W => by rw [← h2]; exact rightWall_any n W
  have HS : Hid (∀ W, Calls Try.prog 21 #[(Go.Value.agg #[Go.Value.int Go.IntKind.i64 x, Go.Value.int Go.IntKind.i64 y, Go.Value.int Go.IntKind.i64 z])] W fun e w' => e = .returned (.bool true) ∧ Below W.heap.size W w') := fun W => by rw [← h3]; exact Right_any x y z W
  have HA : Hid (∀ W, Calls Try.prog 15 #[(Go.Value.agg #[Go.Value.int Go.IntKind.i64 a, Go.Value.int Go.IntKind.i64 b, Go.Value.int Go.IntKind.i64 c]), (Go.Value.agg #[Go.Value.int Go.IntKind.i64 x, Go.Value.int Go.IntKind.i64 y, Go.Value.int Go.IntKind.i64 z])] W fun e w' => e = .returned (.tuple #[(Go.Value.agg #[Go.Value.int Go.IntKind.i64 p, Go.Value.int Go.IntKind.i64 q, Go.Value.int Go.IntKind.i64 r]), .int .i64 0]) ∧ Below W.heap.size W w') := fun W => Raise_ok a b c x y z p q r W h1 h3 h5
  have g1 := inB_true h2
  have g2 := (rightB_true h3).1
  have hq := IntWalk.i64_in (x - n) (by omega)
  have hd : decide (1000 < x - n) = false := by simp only [decide_eq_false_iff_not]; omega
  have HQ := Lib.hid hq
  clear h1 h2 h3 h4 h5 g1 g2 hq
  go_enter Try.func13, Try.ntmps13
  go_wp2_with fail
  refine (HR.out _).mono ?_
  rintro e w1 ⟨rfl, hb1⟩
  have H1 : Hid (CS w a b c x y z w1) := (CS.new w a b c x y z).next hb1
  clear hb1
  obtain ⟨y0, y1, y2⟩ := H1.out.2.2.1.cell
  go_wp2_with fail
  refine (HW.out _).mono ?_
  rintro e w2 ⟨rfl, rfl⟩
  go_wp2_with fail
  refine (HS.out _).mono ?_
  rintro e w3 ⟨rfl, hb3⟩
  clear y0 y1 y2
  have H3 : Hid (CS w a b c x y z w3) := H1.out.next hb3
  clear hb3 H1
  obtain ⟨y0, y1, y2⟩ := H3.out.2.2.1.cell
  have hq := HQ.out
  go_wp2_with (first | (refine cbox_load w.heap.size H3.out.2.1 rfl _ rfl rfl ?_) | (refine box_load (w.heap.size + 1) H3.out.2.2.1 rfl _ rfl rfl ?_))
  refine (HA.out _).mono ?_
  rintro e w4 ⟨rfl, hb4⟩
  clear y0 y1 y2
  have H4 : Hid (CS w a b c x y z w4) := H3.out.next hb4
  clear hb4 H3
  go_wp2_with (first | (refine cbox_store (w.heap.size + 1 + 1) H4.out.2.2.2 rfl _ _ rfl rfl rfl ?_))
  exact bodyPost_ret (cbox_result2 rfl _ _ (w.heap.size + 1 + 1) rfl (H4.out.2.2.2.set p q r)) rfl ⟨rfl, below_setRow H4.out.1 (by omega) _⟩

set_option maxRecDepth 100000 in
set_option maxHeartbeats 400000 in
theorem Hear_far (a b c n x y z : Int) (w : World) (h1 : rightB a b c = true) (h2 : inB n 1099511627776 = true) (h3 : rightB x y z = true) (h4 : x > n + 1000) : Calls Try.prog 13 #[(Go.Value.agg #[Go.Value.int Go.IntKind.i64 a, Go.Value.int Go.IntKind.i64 b, Go.Value.int Go.IntKind.i64 c]), .int .i64 n, (Go.Value.agg #[Go.Value.int Go.IntKind.i64 x, Go.Value.int Go.IntKind.i64 y, Go.Value.int Go.IntKind.i64 z])] w fun e w' => e = .returned (.tuple #[(Go.Value.agg #[Go.Value.int Go.IntKind.i64 0, Go.Value.int Go.IntKind.i64 0, Go.Value.int Go.IntKind.i64 0]), .int .i64 12]) ∧ Below w.heap.size w w' := by
  have HR : Hid (∀ W, Calls Try.prog 22 #[(Go.Value.agg #[Go.Value.int Go.IntKind.i64 a, Go.Value.int Go.IntKind.i64 b, Go.Value.int Go.IntKind.i64 c])] W fun e w' => e = .returned (.bool true) ∧ Below W.heap.size W w') := fun W => by rw [← h1]; exact cright_any a b c W
  have HW : Hid (∀ W, Calls Try.prog 23 #[.int .i64 n] W fun e w' => e = .returned (.bool true) ∧ w' = W) := fun W => by rw [← h2]; exact rightWall_any n W
  have HS : Hid (∀ W, Calls Try.prog 21 #[(Go.Value.agg #[Go.Value.int Go.IntKind.i64 x, Go.Value.int Go.IntKind.i64 y, Go.Value.int Go.IntKind.i64 z])] W fun e w' => e = .returned (.bool true) ∧ Below W.heap.size W w') := fun W => by rw [← h3]; exact Right_any x y z W
  have g1 := inB_true h2
  have g2 := (rightB_true h3).1
  have hq := IntWalk.i64_in (x - n) (by omega)
  have hd : decide (1000 < x - n) = true := by simp only [decide_eq_true_eq]; omega
  have HQ := Lib.hid hq
  clear h1 h2 h3 h4 g1 g2 hq
  go_enter Try.func13, Try.ntmps13
  go_wp2_with fail
  refine (HR.out _).mono ?_
  rintro e w1 ⟨rfl, hb1⟩
  have H1 : Hid (CS w a b c x y z w1) := (CS.new w a b c x y z).next hb1
  clear hb1
  obtain ⟨y0, y1, y2⟩ := H1.out.2.2.1.cell
  go_wp2_with fail
  refine (HW.out _).mono ?_
  rintro e w2 ⟨rfl, rfl⟩
  go_wp2_with fail
  refine (HS.out _).mono ?_
  rintro e w3 ⟨rfl, hb3⟩
  clear y0 y1 y2
  have H3 : Hid (CS w a b c x y z w3) := H1.out.next hb3
  clear hb3 H1
  obtain ⟨y0, y1, y2⟩ := H3.out.2.2.1.cell
  have hq := HQ.out
  go_wp2_with (first | (refine cbox_store (w.heap.size + 1 + 1) H3.out.2.2.2 rfl _ _ rfl rfl rfl ?_))
  exact bodyPost_ret (cbox_result2 rfl _ _ (w.heap.size + 1 + 1) rfl (H3.out.2.2.2.set 0 0 0)) rfl ⟨rfl, below_setRow H3.out.1 (by omega) _⟩

set_option maxRecDepth 100000 in
set_option maxHeartbeats 400000 in
theorem Hear_bad (a b c n x y z : Int) (w : World) (d1 d2 d3 : Bool) (h1 : rightB a b c = d1) (h2 : inB n 1099511627776 = d2) (h3 : rightB x y z = d3) (h : d1 = false ∨ (d1 = true ∧ d2 = false) ∨ (d1 = true ∧ d2 = true ∧ d3 = false)) : Calls Try.prog 13 #[(Go.Value.agg #[Go.Value.int Go.IntKind.i64 a, Go.Value.int Go.IntKind.i64 b, Go.Value.int Go.IntKind.i64 c]), .int .i64 n, (Go.Value.agg #[Go.Value.int Go.IntKind.i64 x, Go.Value.int Go.IntKind.i64 y, Go.Value.int Go.IntKind.i64 z])] w fun e w' => e = .returned (.tuple #[(Go.Value.agg #[Go.Value.int Go.IntKind.i64 0, Go.Value.int Go.IntKind.i64 0, Go.Value.int Go.IntKind.i64 0]), .int .i64 1]) ∧ Below w.heap.size w w' := by
  have HR : Hid (∀ W, Calls Try.prog 22 #[(Go.Value.agg #[Go.Value.int Go.IntKind.i64 a, Go.Value.int Go.IntKind.i64 b, Go.Value.int Go.IntKind.i64 c])] W fun e w' => e = .returned (.bool d1) ∧ Below W.heap.size W w') := fun W => by rw [← h1]; exact cright_any a b c W
  have HW : Hid (∀ W, Calls Try.prog 23 #[.int .i64 n] W fun e w' => e = .returned (.bool d2) ∧ w' = W) := fun W => by rw [← h2]; exact rightWall_any n W
  have HS : Hid (∀ W, Calls Try.prog 21 #[(Go.Value.agg #[Go.Value.int Go.IntKind.i64 x, Go.Value.int Go.IntKind.i64 y, Go.Value.int Go.IntKind.i64 z])] W fun e w' => e = .returned (.bool d3) ∧ Below W.heap.size W w') := fun W => by rw [← h3]; exact Right_any x y z W
  clear h1 h2 h3
  rcases h with rfl | ⟨rfl, rfl⟩ | ⟨rfl, rfl, rfl⟩
  · go_enter Try.func13, Try.ntmps13
    go_wp2_with fail
    refine (HR.out _).mono ?_
    rintro e w1 ⟨rfl, hb1⟩
    have H1 : Hid (CS w a b c x y z w1) := (CS.new w a b c x y z).next hb1
    clear hb1
    go_wp2_with (first | (refine cbox_store (w.heap.size + 1 + 1) H1.out.2.2.2 rfl _ _ rfl rfl rfl ?_))
    exact bodyPost_ret (cbox_result2 rfl _ _ (w.heap.size + 1 + 1) rfl (H1.out.2.2.2.set 0 0 0)) rfl ⟨rfl, below_setRow H1.out.1 (by omega) _⟩
  · go_enter Try.func13, Try.ntmps13
    go_wp2_with fail
    refine (HR.out _).mono ?_
    rintro e w1 ⟨rfl, hb1⟩
    have H1 : Hid (CS w a b c x y z w1) := (CS.new w a b c x y z).next hb1
    clear hb1
    go_wp2_with fail
    refine (HW.out _).mono ?_
    rintro e w2 ⟨rfl, rfl⟩
    go_wp2_with (first | (refine cbox_store (w.heap.size + 1 + 1) H1.out.2.2.2 rfl _ _ rfl rfl rfl ?_))
    exact bodyPost_ret (cbox_result2 rfl _ _ (w.heap.size + 1 + 1) rfl (H1.out.2.2.2.set 0 0 0)) rfl ⟨rfl, below_setRow H1.out.1 (by omega) _⟩
  · go_enter Try.func13, Try.ntmps13
    go_wp2_with fail
    refine (HR.out _).mono ?_
    rintro e w1 ⟨rfl, hb1⟩
    have H1 : Hid (CS w a b c x y z w1) := (CS.new w a b c x y z).next hb1
    clear hb1
    obtain ⟨y0, y1, y2⟩ := H1.out.2.2.1.cell
    go_wp2_with fail
    refine (HW.out _).mono ?_
    rintro e w2 ⟨rfl, rfl⟩
    go_wp2_with fail
    refine (HS.out _).mono ?_
    rintro e w3 ⟨rfl, hb3⟩
    clear y0 y1 y2
    have H3 : Hid (CS w a b c x y z w3) := H1.out.next hb3
    clear hb3 H1
    go_wp2_with (first | (refine cbox_store (w.heap.size + 1 + 1) H3.out.2.2.2 rfl _ _ rfl rfl rfl ?_))
    exact bodyPost_ret (cbox_result2 rfl _ _ (w.heap.size + 1 + 1) rfl (H3.out.2.2.2.set 0 0 0)) rfl ⟨rfl, below_setRow H3.out.1 (by omega) _⟩

theorem Hear_any (a b c n x y z p q r e : Int) (w : World) (h : hearV a b c n x y z = (p, q, r, e)) : Calls Try.prog 13 #[(Go.Value.agg #[Go.Value.int Go.IntKind.i64 a, Go.Value.int Go.IntKind.i64 b, Go.Value.int Go.IntKind.i64 c]), .int .i64 n, (Go.Value.agg #[Go.Value.int Go.IntKind.i64 x, Go.Value.int Go.IntKind.i64 y, Go.Value.int Go.IntKind.i64 z])] w fun e' w' => e' = .returned (.tuple #[(Go.Value.agg #[Go.Value.int Go.IntKind.i64 p, Go.Value.int Go.IntKind.i64 q, Go.Value.int Go.IntKind.i64 r]), .int .i64 e]) ∧ Below w.heap.size w w' := by
  cases h1 : rightB a b c
  · rw [hear_r _ _ _ _ h1] at h; cases h; exact Hear_bad a b c n x y z w _ _ _ h1 rfl rfl (.inl rfl)
  cases h2 : inB n 1099511627776
  · rw [hear_w _ _ _ _ _ _ h2] at h; cases h; exact Hear_bad a b c n x y z w _ _ _ h1 h2 rfl (.inr (.inl ⟨rfl, rfl⟩))
  cases h3 : rightB x y z
  · rw [hear_s _ _ _ _ h3] at h; cases h; exact Hear_bad a b c n x y z w _ _ _ h1 h2 h3 (.inr (.inr ⟨rfl, rfl, rfl⟩))
  by_cases h4 : x > n + 1000
  · rw [hear_far h1 h2 h3 h4] at h; cases h; exact Hear_far a b c n x y z w h1 h2 h3 h4
  · obtain ⟨p', q', r', h5⟩ : ∃ p q r, raiseV a b c x y = (p, q, r) := ⟨_, _, _, rfl⟩
    rw [hear_ok h1 h2 h3 h4 h5] at h; cases h; exact Hear_ok a b c n x y z _ _ _ w h1 h2 h3 h4 h5

end Go.Proofs.Ytffmannejfmcgaa
