/-
  The document's Now, Raise and Hear: contracts.
-/
import Derived.Test.YtffmannejfmcgaaClRight
import Derived.Test.YtffmannejfmcgaaClPlain
import Derived.Test.YtffmannejfmcgaaSmRefRight
import Derived.Test.YtffmannejfmcgaaSmTwo
import Derived.Deep.DeepCutAuto
set_option linter.unusedVariables false
namespace Go.Proofs.Ytffmannejfmcgaa
open Go.RowKit

/-- The three blocks of a function on two stamps. -/
def SS (w : World) (a b c x y z : Int) (W : World) : Prop := Below w.heap.size w W ∧ Box W w.heap.size a b c ∧ Box W (w.heap.size + 1) x y z ∧ Box W (w.heap.size + 1 + 1) 0 0 0
theorem SS.new (w : World) (a b c x y z : Int) : SS w a b c x y z (((w.alloc (.cells #[.int .i64 a, .int .i64 b, .int .i64 c] 23)).alloc (.cells #[.int .i64 x, .int .i64 y, .int .i64 z] 23)).alloc (.cells #[.int .i64 0, .int .i64 0, .int .i64 0] 23)) :=
  ⟨W3_below w a b c x y z, W3_boxes w a b c x y z⟩
theorem SS.next {w W W' : World} {a b c x y z : Int} (H : SS w a b c x y z W) (hb : Below W.heap.size W W') : SS w a b c x y z W' :=
  ⟨H.1.trans (hb.mono H.1.size), H.2.1.over hb, H.2.2.1.over hb, H.2.2.2.over hb⟩
/-- The two blocks of a function on one stamp. -/
def S1 (w : World) (a b c : Int) (W : World) : Prop := Below w.heap.size w W ∧ Box W w.heap.size a b c ∧ Box W (w.heap.size + 1) 0 0 0
theorem S1.new (w : World) (a b c : Int) : S1 w a b c ((w.alloc (.cells #[.int .i64 a, .int .i64 b, .int .i64 c] 23)).alloc (.cells #[.int .i64 0, .int .i64 0, .int .i64 0] 23)) := by
  refine ⟨((Below.refl w.heap.size w).alloc (Nat.le_refl _) _).alloc (by simp) _, (Box.new w a b c).alloc _, ?_⟩
  have := Box.new (w.alloc (.cells #[.int .i64 a, .int .i64 b, .int .i64 c] 23)) 0 0 0
  simpa using this
theorem S1.next {w W W' : World} {a b c : Int} (H : S1 w a b c W) (hb : Below W.heap.size W W') : S1 w a b c W' :=
  ⟨H.1.trans (hb.mono H.1.size), H.2.1.over hb, H.2.2.over hb⟩

set_option maxRecDepth 100000 in
set_option maxHeartbeats 400000 in
theorem refRaise_any (a b c x y z p q r : Int) (w : World) (h : raiseV a b c x y = (p, q, r)) : Calls Try.prog 17 #[(Go.Value.agg #[Go.Value.int Go.IntKind.i64 a, Go.Value.int Go.IntKind.i64 b, Go.Value.int Go.IntKind.i64 c]), (Go.Value.agg #[Go.Value.int Go.IntKind.i64 x, Go.Value.int Go.IntKind.i64 y, Go.Value.int Go.IntKind.i64 z])] w fun e w' => e = .returned (Go.Value.agg #[Go.Value.int Go.IntKind.i64 p, Go.Value.int Go.IntKind.i64 q, Go.Value.int Go.IntKind.i64 r]) ∧ Below w.heap.size w w' := by
  obtain ⟨w1, H1, HW1⟩ : ∃ w1, Hid (SS w a b c x y z w1) ∧ Hid ((((w.alloc (.cells #[.int .i64 a, .int .i64 b, .int .i64 c] 23)).alloc (.cells #[.int .i64 x, .int .i64 y, .int .i64 z] 23)).alloc (.cells #[.int .i64 0, .int .i64 0, .int .i64 0] 23)) = w1) := ⟨_, SS.new w a b c x y z, rfl⟩
  by_cases h1 : a < x
  · rw [raise_yes c (.inl h1)] at h
    cases h
    have hd : decide (a < x) = true := by simpa using h1
    clear h1
    go_enter Try.func17, Try.ntmps17
    go_upto_region 1 with (fail)
    rw [HW1.out]
    clear HW1
    obtain ⟨x0, x1, x2⟩ := H1.out.2.1.cell
    obtain ⟨y0, y1, y2⟩ := H1.out.2.2.1.cell
    go_upto_region 2 with (fail)
    go_wp2_with (first | (refine box_store (w.heap.size + 1 + 1) H1.out.2.2.2 rfl _ _ rfl rfl rfl ?_))
    exact bodyPost_ret (box_result rfl _ _ (w.heap.size + 1 + 1) rfl (H1.out.2.2.2.set x y c)) rfl ⟨rfl, below_setRow H1.out.1 (by omega) _⟩
  · have hd : decide (a < x) = false := by simpa using h1
    by_cases h2 : x = a
    · subst h2
      by_cases h3 : b < y
      · rw [raise_yes c (.inr ⟨rfl, h3⟩)] at h
        cases h
        have hd2 : decide (b < y) = true := by simpa using h3
        clear h1 h3
        go_enter Try.func17, Try.ntmps17
        go_upto_region 1 with (fail)
        rw [HW1.out]
        clear HW1
        obtain ⟨x0, x1, x2⟩ := H1.out.2.1.cell
        obtain ⟨y0, y1, y2⟩ := H1.out.2.2.1.cell
        go_upto_region 2 with (fail)
        go_wp2_with (first | (refine box_store (w.heap.size + 1 + 1) H1.out.2.2.2 rfl _ _ rfl rfl rfl ?_))
        exact bodyPost_ret (box_result rfl _ _ (w.heap.size + 1 + 1) rfl (H1.out.2.2.2.set x y c)) rfl ⟨rfl, below_setRow H1.out.1 (by omega) _⟩
      · rw [raise_no c (by omega)] at h
        cases h
        have hd2 : decide (b < y) = false := by simpa using h3
        clear h1 h3
        go_enter Try.func17, Try.ntmps17
        go_upto_region 1 with (fail)
        rw [HW1.out]
        clear HW1
        obtain ⟨x0, x1, x2⟩ := H1.out.2.1.cell
        obtain ⟨y0, y1, y2⟩ := H1.out.2.2.1.cell
        go_upto_region 3 with (fail)
        go_wp2_with (first | (refine box_load w.heap.size H1.out.2.1 rfl _ rfl rfl ?_) | (refine box_store (w.heap.size + 1 + 1) H1.out.2.2.2 rfl _ _ rfl rfl rfl ?_))
        exact bodyPost_ret (box_result rfl _ _ (w.heap.size + 1 + 1) rfl (H1.out.2.2.2.set x b c)) rfl ⟨rfl, below_setRow H1.out.1 (by omega) _⟩
    · rw [raise_no c (by omega)] at h
      cases h
      have hd2 : (x == a) = false := beq_eq_false_iff_ne.2 h2
      clear h1 h2
      go_enter Try.func17, Try.ntmps17
      go_upto_region 1 with (fail)
      rw [HW1.out]
      clear HW1
      obtain ⟨x0, x1, x2⟩ := H1.out.2.1.cell
      obtain ⟨y0, y1, y2⟩ := H1.out.2.2.1.cell
      go_upto_region 3 with (fail)
      go_wp2_with (first | (refine box_load w.heap.size H1.out.2.1 rfl _ rfl rfl ?_) | (refine box_store (w.heap.size + 1 + 1) H1.out.2.2.2 rfl _ _ rfl rfl rfl ?_))
      exact bodyPost_ret (box_result rfl _ _ (w.heap.size + 1 + 1) rfl (H1.out.2.2.2.set a b c)) rfl ⟨rfl, below_setRow H1.out.1 (by omega) _⟩

set_option maxRecDepth 100000 in
set_option maxHeartbeats 400000 in
theorem refNow_any (a b c n x y z e : Int) (w : World) (h : nowV a b c n = (x, y, z, e)) : Calls Try.prog 11 #[(Go.Value.agg #[Go.Value.int Go.IntKind.i64 a, Go.Value.int Go.IntKind.i64 b, Go.Value.int Go.IntKind.i64 c]), .int .i64 n] w fun e' w' => e' = .returned (.tuple #[(Go.Value.agg #[Go.Value.int Go.IntKind.i64 x, Go.Value.int Go.IntKind.i64 y, Go.Value.int Go.IntKind.i64 z]), .int .i64 e]) ∧ Below w.heap.size w w' := by
  cases h1 : rightB a b c
  · have HR : Hid (∀ W, Calls Try.prog 16 #[(Go.Value.agg #[Go.Value.int Go.IntKind.i64 a, Go.Value.int Go.IntKind.i64 b, Go.Value.int Go.IntKind.i64 c])] W fun e w' => e = .returned (.bool false) ∧ Below W.heap.size W w') := fun W => by rw [← h1]; exact refRight_any a b c W
    rw [now_r _ h1] at h
    cases h
    clear h1
    go_enter Try.func11, Try.ntmps11
    go_wp2_with fail
    refine (HR.out _).mono ?_
    rintro e w1 ⟨rfl, hb1⟩
    have H1 : Hid (S1 w a b c w1) := (S1.new w a b c).next hb1
    clear hb1
    go_wp2_with (first | (refine box_store (w.heap.size + 1) H1.out.2.2 rfl _ _ rfl rfl rfl ?_))
    exact bodyPost_ret (box_result2 rfl _ _ (w.heap.size + 1) rfl (H1.out.2.2.set 0 0 0)) rfl ⟨rfl, below_setRow H1.out.1 (by omega) _⟩
  · have HR : Hid (∀ W, Calls Try.prog 16 #[(Go.Value.agg #[Go.Value.int Go.IntKind.i64 a, Go.Value.int Go.IntKind.i64 b, Go.Value.int Go.IntKind.i64 c])] W fun e w' => e = .returned (.bool true) ∧ Below W.heap.size W w') := fun W => by rw [← h1]; exact refRight_any a b c W
    cases h2 : inB n 1099511627776
    · have HW : Hid (∀ W, Calls Try.prog 24 #[.int .i64 n] W fun e w' => e = .returned (.bool false) ∧ w' = W) := fun W => by rw [← h2]; exact refWall_any n W
      rw [now_w _ _ _ h2] at h
      cases h
      clear h1 h2
      go_enter Try.func11, Try.ntmps11
      go_wp2_with fail
      refine (HR.out _).mono ?_
      rintro e w1 ⟨rfl, hb1⟩
      have H1 : Hid (S1 w a b c w1) := (S1.new w a b c).next hb1
      clear hb1
      go_wp2_with fail
      refine (HW.out _).mono ?_
      rintro e w2 ⟨rfl, rfl⟩
      go_wp2_with (first | (refine box_store (w.heap.size + 1) H1.out.2.2 rfl _ _ rfl rfl rfl ?_))
      exact bodyPost_ret (box_result2 rfl _ _ (w.heap.size + 1) rfl (H1.out.2.2.set 0 0 0)) rfl ⟨rfl, below_setRow H1.out.1 (by omega) _⟩
    · have HW : Hid (∀ W, Calls Try.prog 24 #[.int .i64 n] W fun e w' => e = .returned (.bool true) ∧ w' = W) := fun W => by rw [← h2]; exact refWall_any n W
      obtain ⟨⟨g1, g2⟩, ⟨g3, g4⟩, g5, g6⟩ := rightB_true h1
      have hcase : (decide (a < n) = true ∧ x = n ∧ y = 0 ∧ z = c ∧ e = 0) ∨ (decide (a < n) = false ∧ decide (1048576 ≤ b) = true ∧ x = 0 ∧ y = 0 ∧ z = 0 ∧ e = 6) ∨ (decide (a < n) = false ∧ decide (1048576 ≤ b) = false ∧ x = a ∧ y = b + 1 ∧ z = c ∧ e = 0) := by
        by_cases h3 : a < n
        · rw [now_up h1 h2 h3] at h; cases h; exact .inl ⟨by simpa using h3, rfl, rfl, rfl, rfl⟩
        by_cases h4 : b = 1048576
        · rw [now_full h1 h2 h3 h4] at h; cases h; exact .inr (.inl ⟨by simpa using h3, by simp only [decide_eq_true_eq]; omega, rfl, rfl, rfl, rfl⟩)
        · rw [now_tick h1 h2 h3 h4] at h; cases h; exact .inr (.inr ⟨by simpa using h3, by simp only [decide_eq_false_iff_not]; omega, rfl, rfl, rfl, rfl⟩)
      have HQ := Lib.hid (IntWalk.i64_in (b + 1) (by omega))
      clear h h1 h2 g1 g2 g3 g4 g5 g6
      rcases hcase with ⟨hd, rfl, rfl, rfl, rfl⟩ | ⟨hd, hd2, rfl, rfl, rfl, rfl⟩ | ⟨hd, hd2, rfl, rfl, rfl, rfl⟩
      · go_enter Try.func11, Try.ntmps11
        go_wp2_with fail
        refine (HR.out _).mono ?_
        rintro e w1 ⟨rfl, hb1⟩
        have H1 : Hid (S1 w a b z w1) := (S1.new w a b z).next hb1
        clear hb1
        go_wp2_with fail
        refine (HW.out _).mono ?_
        rintro e w2 ⟨rfl, rfl⟩
        obtain ⟨x0, x1, x2⟩ := H1.out.2.1.cell
        have hq := HQ.out
        go_wp2_with (first | (refine box_store (w.heap.size + 1) H1.out.2.2 rfl _ _ rfl rfl rfl ?_))
        exact bodyPost_ret (box_result2 rfl _ _ (w.heap.size + 1) rfl (H1.out.2.2.set x 0 z)) rfl ⟨rfl, below_setRow H1.out.1 (by omega) _⟩
      · go_enter Try.func11, Try.ntmps11
        go_wp2_with fail
        refine (HR.out _).mono ?_
        rintro e w1 ⟨rfl, hb1⟩
        have H1 : Hid (S1 w a b c w1) := (S1.new w a b c).next hb1
        clear hb1
        go_wp2_with fail
        refine (HW.out _).mono ?_
        rintro e w2 ⟨rfl, rfl⟩
        obtain ⟨x0, x1, x2⟩ := H1.out.2.1.cell
        have hq := HQ.out
        go_wp2_with (first | (refine box_store (w.heap.size + 1) H1.out.2.2 rfl _ _ rfl rfl rfl ?_))
        exact bodyPost_ret (box_result2 rfl _ _ (w.heap.size + 1) rfl (H1.out.2.2.set 0 0 0)) rfl ⟨rfl, below_setRow H1.out.1 (by omega) _⟩
      · go_enter Try.func11, Try.ntmps11
        go_wp2_with fail
        refine (HR.out _).mono ?_
        rintro e w1 ⟨rfl, hb1⟩
        have H1 : Hid (S1 w x b z w1) := (S1.new w x b z).next hb1
        clear hb1
        go_wp2_with fail
        refine (HW.out _).mono ?_
        rintro e w2 ⟨rfl, rfl⟩
        obtain ⟨x0, x1, x2⟩ := H1.out.2.1.cell
        have hq := HQ.out
        go_wp2_with (first | (refine box_store (w.heap.size + 1) H1.out.2.2 rfl _ _ rfl rfl rfl ?_))
        exact bodyPost_ret (box_result2 rfl _ _ (w.heap.size + 1) rfl (H1.out.2.2.set x (b + 1) z)) rfl ⟨rfl, below_setRow H1.out.1 (by omega) _⟩

set_option maxRecDepth 100000 in
set_option maxHeartbeats 400000 in
theorem refHear_ok (a b c n x y z p q r : Int) (w : World) (h1 : rightB a b c = true) (h2 : inB n 1099511627776 = true) (h3 : rightB x y z = true) (h4 : ¬ x > n + 1000) (h5 : raiseV a b c x y = (p, q, r)) : Calls Try.prog 14 #[(Go.Value.agg #[Go.Value.int Go.IntKind.i64 a, Go.Value.int Go.IntKind.i64 b, Go.Value.int Go.IntKind.i64 c]), .int .i64 n, (Go.Value.agg #[Go.Value.int Go.IntKind.i64 x, Go.Value.int Go.IntKind.i64 y, Go.Value.int Go.IntKind.i64 z])] w fun e w' => e = .returned (.tuple #[(Go.Value.agg #[Go.Value.int Go.IntKind.i64 p, Go.Value.int Go.IntKind.i64 q, Go.Value.int Go.IntKind.i64 r]), .int .i64 0]) ∧ Below w.heap.size w w' := by
  have HR : Hid (∀ W, Calls Try.prog 16 #[(Go.Value.agg #[Go.Value.int Go.IntKind.i64 a, Go.Value.int Go.IntKind.i64 b, Go.Value.int Go.IntKind.i64 c])] W fun e w' => e = .returned (.bool true) ∧ Below W.heap.size W w') := fun W => by rw [← h1]; exact refRight_any a b c W
  have HW : Hid (∀ W, Calls Try.prog 24 #[.int .i64 n] W fun e w' => e = .returned (.bool true) ∧ w' = W) := fun W => by rw [← h2]; exact refWall_any n W
  have HS : Hid (∀ W, Calls Try.prog 16 #[(Go.Value.agg #[Go.Value.int Go.IntKind.i64 x, Go.Value.int Go.IntKind.i64 y, Go.Value.int Go.IntKind.i64 z])] W fun e w' => e = .returned (.bool true) ∧ Below W.heap.size W w') := fun W => by rw [← h3]; exact refRight_any x y z W
  have HA : Hid (∀ W, Calls Try.prog 17 #[(Go.Value.agg #[Go.Value.int Go.IntKind.i64 a, Go.Value.int Go.IntKind.i64 b, Go.Value.int Go.IntKind.i64 c]), (Go.Value.agg #[Go.Value.int Go.IntKind.i64 x, Go.Value.int Go.IntKind.i64 y, Go.Value.int Go.IntKind.i64 z])] W fun e w' => e = .returned (Go.Value.agg #[Go.Value.int Go.IntKind.i64 p, Go.Value.int Go.IntKind.i64 q, Go.Value.int Go.IntKind.i64 r]) ∧ Below W.heap.size W w') := fun W => refRaise_any a b c x y z p q r W h5
  have g1 := inB_true h2
  have g2 := (rightB_true h3).1
  have hq := IntWalk.i64_in (n + 1000) (by omega)
  have hd : decide (n + 1000 < x) = false := by simp only [decide_eq_false_iff_not]; omega
  have HQ := Lib.hid hq
  clear h1 h2 h3 h4 h5 g1 g2 hq
  go_enter Try.func14, Try.ntmps14
  go_wp2_with fail
  refine (HR.out _).mono ?_
  rintro e w1 ⟨rfl, hb1⟩
  have H1 : Hid (SS w a b c x y z w1) := (SS.new w a b c x y z).next hb1
  clear hb1
  obtain ⟨y0, y1, y2⟩ := H1.out.2.2.1.cell
  go_wp2_with fail
  refine (HW.out _).mono ?_
  rintro e w2 ⟨rfl, rfl⟩
  go_wp2_with fail
  refine (HS.out _).mono ?_
  rintro e w3 ⟨rfl, hb3⟩
  clear y0 y1 y2
  have H3 : Hid (SS w a b c x y z w3) := H1.out.next hb3
  clear hb3 H1
  obtain ⟨y0, y1, y2⟩ := H3.out.2.2.1.cell
  have hq := HQ.out
  go_wp2_with (first | (refine box_load w.heap.size H3.out.2.1 rfl _ rfl rfl ?_) | (refine box_load (w.heap.size + 1) H3.out.2.2.1 rfl _ rfl rfl ?_))
  refine (HA.out _).mono ?_
  rintro e w4 ⟨rfl, hb4⟩
  clear y0 y1 y2
  have H4 : Hid (SS w a b c x y z w4) := H3.out.next hb4
  clear hb4 H3
  go_wp2_with (first | (refine box_store (w.heap.size + 1 + 1) H4.out.2.2.2 rfl _ _ rfl rfl rfl ?_))
  exact bodyPost_ret (box_result2 rfl _ _ (w.heap.size + 1 + 1) rfl (H4.out.2.2.2.set p q r)) rfl ⟨rfl, below_setRow H4.out.1 (by omega) _⟩

set_option maxRecDepth 100000 in
set_option maxHeartbeats 400000 in
theorem refHear_far (a b c n x y z : Int) (w : World) (h1 : rightB a b c = true) (h2 : inB n 1099511627776 = true) (h3 : rightB x y z = true) (h4 : x > n + 1000) : Calls Try.prog 14 #[(Go.Value.agg #[Go.Value.int Go.IntKind.i64 a, Go.Value.int Go.IntKind.i64 b, Go.Value.int Go.IntKind.i64 c]), .int .i64 n, (Go.Value.agg #[Go.Value.int Go.IntKind.i64 x, Go.Value.int Go.IntKind.i64 y, Go.Value.int Go.IntKind.i64 z])] w fun e w' => e = .returned (.tuple #[(Go.Value.agg #[Go.Value.int Go.IntKind.i64 0, Go.Value.int Go.IntKind.i64 0, Go.Value.int Go.IntKind.i64 0]), .int .i64 12]) ∧ Below w.heap.size w w' := by
  have HR : Hid (∀ W, Calls Try.prog 16 #[(Go.Value.agg #[Go.Value.int Go.IntKind.i64 a, Go.Value.int Go.IntKind.i64 b, Go.Value.int Go.IntKind.i64 c])] W fun e w' => e = .returned (.bool true) ∧ Below W.heap.size W w') := fun W => by rw [← h1]; exact refRight_any a b c W
  have HW : Hid (∀ W, Calls Try.prog 24 #[.int .i64 n] W fun e w' => e = .returned (.bool true) ∧ w' = W) := fun W => by rw [← h2]; exact refWall_any n W
  have HS : Hid (∀ W, Calls Try.prog 16 #[(Go.Value.agg #[Go.Value.int Go.IntKind.i64 x, Go.Value.int Go.IntKind.i64 y, Go.Value.int Go.IntKind.i64 z])] W fun e w' => e = .returned (.bool true) ∧ Below W.heap.size W w') := fun W => by rw [← h3]; exact refRight_any x y z W
  have g1 := inB_true h2
  have g2 := (rightB_true h3).1
  have hq := IntWalk.i64_in (n + 1000) (by omega)
  have hd : decide (n + 1000 < x) = true := by simp only [decide_eq_true_eq]; omega
  have HQ := Lib.hid hq
  clear h1 h2 h3 h4 g1 g2 hq
  go_enter Try.func14, Try.ntmps14
  go_wp2_with fail
  refine (HR.out _).mono ?_
  rintro e w1 ⟨rfl, hb1⟩
  have H1 : Hid (SS w a b c x y z w1) := (SS.new w a b c x y z).next hb1
  clear hb1
  obtain ⟨y0, y1, y2⟩ := H1.out.2.2.1.cell
  go_wp2_with fail
  refine (HW.out _).mono ?_
  rintro e w2 ⟨rfl, rfl⟩
  go_wp2_with fail
  refine (HS.out _).mono ?_
  rintro e w3 ⟨rfl, hb3⟩
  clear y0 y1 y2
  have H3 : Hid (SS w a b c x y z w3) := H1.out.next hb3
  clear hb3 H1
  obtain ⟨y0, y1, y2⟩ := H3.out.2.2.1.cell
  have hq := HQ.out
  go_wp2_with (first | (refine box_store (w.heap.size + 1 + 1) H3.out.2.2.2 rfl _ _ rfl rfl rfl ?_))
  exact bodyPost_ret (box_result2 rfl _ _ (w.heap.size + 1 + 1) rfl (H3.out.2.2.2.set 0 0 0)) rfl ⟨rfl, below_setRow H3.out.1 (by omega) _⟩

set_option maxRecDepth 100000 in
set_option maxHeartbeats 400000 in
theorem refHear_bad (a b c n x y z : Int) (w : World) (d1 d2 d3 : Bool) (h1 : rightB a b c = d1) (h2 : inB n 1099511627776 = d2) (h3 : rightB x y z = d3) (h : d1 = false ∨ (d1 = true ∧ d2 = false) ∨ (d1 = true ∧ d2 = true ∧ d3 = false)) : Calls Try.prog 14 #[(Go.Value.agg #[Go.Value.int Go.IntKind.i64 a, Go.Value.int Go.IntKind.i64 b, Go.Value.int Go.IntKind.i64 c]), .int .i64 n, (Go.Value.agg #[Go.Value.int Go.IntKind.i64 x, Go.Value.int Go.IntKind.i64 y, Go.Value.int Go.IntKind.i64 z])] w fun e w' => e = .returned (.tuple #[(Go.Value.agg #[Go.Value.int Go.IntKind.i64 0, Go.Value.int Go.IntKind.i64 0, Go.Value.int Go.IntKind.i64 0]), .int .i64 1]) ∧ Below w.heap.size w w' := by
  have HR : Hid (∀ W, Calls Try.prog 16 #[(Go.Value.agg #[Go.Value.int Go.IntKind.i64 a, Go.Value.int Go.IntKind.i64 b, Go.Value.int Go.IntKind.i64 c])] W fun e w' => e = .returned (.bool d1) ∧ Below W.heap.size W w') := fun W => by rw [← h1]; exact refRight_any a b c W
  have HW : Hid (∀ W, Calls Try.prog 24 #[.int .i64 n] W fun e w' => e = .returned (.bool d2) ∧ w' = W) := fun W => by rw [← h2]; exact refWall_any n W
  have HS : Hid (∀ W, Calls Try.prog 16 #[(Go.Value.agg #[Go.Value.int Go.IntKind.i64 x, Go.Value.int Go.IntKind.i64 y, Go.Value.int Go.IntKind.i64 z])] W fun e w' => e = .returned (.bool d3) ∧ Below W.heap.size W w') := fun W => by rw [← h3]; exact refRight_any x y z W
  clear h1 h2 h3
  rcases h with rfl | ⟨rfl, rfl⟩ | ⟨rfl, rfl, rfl⟩
  · go_enter Try.func14, Try.ntmps14
    go_wp2_with fail
    refine (HR.out _).mono ?_
    rintro e w1 ⟨rfl, hb1⟩
    have H1 : Hid (SS w a b c x y z w1) := (SS.new w a b c x y z).next hb1
    clear hb1
    go_wp2_with (first | (refine box_store (w.heap.size + 1 + 1) H1.out.2.2.2 rfl _ _ rfl rfl rfl ?_))
    exact bodyPost_ret (box_result2 rfl _ _ (w.heap.size + 1 + 1) rfl (H1.out.2.2.2.set 0 0 0)) rfl ⟨rfl, below_setRow H1.out.1 (by omega) _⟩
  · go_enter Try.func14, Try.ntmps14
    go_wp2_with fail
    refine (HR.out _).mono ?_
    rintro e w1 ⟨rfl, hb1⟩
    have H1 : Hid (SS w a b c x y z w1) := (SS.new w a b c x y z).next hb1
    clear hb1
    go_wp2_with fail
    refine (HW.out _).mono ?_
    rintro e w2 ⟨rfl, rfl⟩
    go_wp2_with (first | (refine box_store (w.heap.size + 1 + 1) H1.out.2.2.2 rfl _ _ rfl rfl rfl ?_))
    exact bodyPost_ret (box_result2 rfl _ _ (w.heap.size + 1 + 1) rfl (H1.out.2.2.2.set 0 0 0)) rfl ⟨rfl, below_setRow H1.out.1 (by omega) _⟩
  · go_enter Try.func14, Try.ntmps14
    go_wp2_with fail
    refine (HR.out _).mono ?_
    rintro e w1 ⟨rfl, hb1⟩
    have H1 : Hid (SS w a b c x y z w1) := (SS.new w a b c x y z).next hb1
    clear hb1
    obtain ⟨y0, y1, y2⟩ := H1.out.2.2.1.cell
    go_wp2_with fail
    refine (HW.out _).mono ?_
    rintro e w2 ⟨rfl, rfl⟩
    go_wp2_with fail
    refine (HS.out _).mono ?_
    rintro e w3 ⟨rfl, hb3⟩
    clear y0 y1 y2
    have H3 : Hid (SS w a b c x y z w3) := H1.out.next hb3
    clear hb3 H1
    go_wp2_with (first | (refine box_store (w.heap.size + 1 + 1) H3.out.2.2.2 rfl _ _ rfl rfl rfl ?_))
    exact bodyPost_ret (box_result2 rfl _ _ (w.heap.size + 1 + 1) rfl (H3.out.2.2.2.set 0 0 0)) rfl ⟨rfl, below_setRow H3.out.1 (by omega) _⟩

theorem refHear_any (a b c n x y z p q r e : Int) (w : World) (h : hearV a b c n x y z = (p, q, r, e)) : Calls Try.prog 14 #[(Go.Value.agg #[Go.Value.int Go.IntKind.i64 a, Go.Value.int Go.IntKind.i64 b, Go.Value.int Go.IntKind.i64 c]), .int .i64 n, (Go.Value.agg #[Go.Value.int Go.IntKind.i64 x, Go.Value.int Go.IntKind.i64 y, Go.Value.int Go.IntKind.i64 z])] w fun e' w' => e' = .returned (.tuple #[(Go.Value.agg #[Go.Value.int Go.IntKind.i64 p, Go.Value.int Go.IntKind.i64 q, Go.Value.int Go.IntKind.i64 r]), .int .i64 e]) ∧ Below w.heap.size w w' := by
  cases h1 : rightB a b c
  · rw [hear_r _ _ _ _ h1] at h; cases h; exact refHear_bad a b c n x y z w _ _ _ h1 rfl rfl (.inl rfl)
  cases h2 : inB n 1099511627776
  · rw [hear_w _ _ _ _ _ _ h2] at h; cases h; exact refHear_bad a b c n x y z w _ _ _ h1 h2 rfl (.inr (.inl ⟨rfl, rfl⟩))
  cases h3 : rightB x y z
  · rw [hear_s _ _ _ _ h3] at h; cases h; exact refHear_bad a b c n x y z w _ _ _ h1 h2 h3 (.inr (.inr ⟨rfl, rfl, rfl⟩))
  by_cases h4 : x > n + 1000
  · rw [hear_far h1 h2 h3 h4] at h; cases h; exact refHear_far a b c n x y z w h1 h2 h3 h4
  · obtain ⟨p', q', r', h5⟩ : ∃ p q r, raiseV a b c x y = (p, q, r) := ⟨_, _, _, rfl⟩
    rw [hear_ok h1 h2 h3 h4 h5] at h; cases h; exact refHear_ok a b c n x y z _ _ _ w h1 h2 h3 h4 h5

end Go.Proofs.Ytffmannejfmcgaa
