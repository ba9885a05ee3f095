/-
  The contract of clock.Now: refusals.
-/
import Derived.Test.YtffmannejfmcgaaClRight
import Derived.Test.YtffmannejfmcgaaClPlain
import Derived.StillTailTactics
import Derived.Deep.DeepCutAuto
set_option linter.unusedVariables false
namespace Go.Proofs.Ytffmannejfmcgaa
open Go.RowKit

/-- The three blocks of Now: the clock, and its results. -/
def CN (w : World) (a b c : Int) (W : World) : Prop := Below w.heap.size w W ∧ CBox W w.heap.size a b c ∧ CBox W (w.heap.size + 1) 0 0 0 ∧ Box W (w.heap.size + 1 + 1) 0 0 0
theorem CN.new (w : World) (a b c : Int) : CN w a b c (((w.alloc (.cells #[.int .i64 a, .int .i64 b, .int .i64 c] 25)).alloc (.cells #[.int .i64 0, .int .i64 0, .int .i64 0] 25)).alloc (.cells #[.int .i64 0, .int .i64 0, .int .i64 0] 23)) := by
  refine ⟨(((Below.refl w.heap.size w).alloc (Nat.le_refl _) _).alloc (by simp) _).alloc (by simp; omega) _, ((CBox.new w a b c).alloc _).alloc _, ?_, ?_⟩
  · have := (CBox.new (w.alloc (.cells #[.int .i64 a, .int .i64 b, .int .i64 c] 25)) 0 0 0).alloc (.cells #[.int .i64 0, .int .i64 0, .int .i64 0] 23)
    simpa using this
  · have := Box.new ((w.alloc (.cells #[.int .i64 a, .int .i64 b, .int .i64 c] 25)).alloc (.cells #[.int .i64 0, .int .i64 0, .int .i64 0] 25)) 0 0 0
    simpa using this
theorem CN.next {w W W' : World} {a b c : Int} (H : CN w a b c W) (hb : Below W.heap.size W W') : CN w a b c W' :=
  ⟨H.1.trans (hb.mono H.1.size), H.2.1.over hb, H.2.2.1.over hb, H.2.2.2.over hb⟩
theorem CN.set0 {w W : World} {a b c : Int} (H : CN w a b c W) (n : Int) : CN w n b c (W.setCell ⟨w.heap.size, 0, none⟩ (.int .i64 n)) :=
  ⟨H.1.setCell (by simp) _, H.2.1.set0 n, H.2.2.1.off _ _ (by simp), H.2.2.2.off _ _ (by simp; omega)⟩
theorem CN.set1 {w W : World} {a b c : Int} (H : CN w a b c W) (n : Int) : CN w a n c (W.setCell ⟨w.heap.size, 1, none⟩ (.int .i64 n)) :=
  ⟨H.1.setCell (by simp) _, H.2.1.set1 n, H.2.2.1.off _ _ (by simp), H.2.2.2.off _ _ (by simp; omega)⟩
theorem CN.drew {w W : World} {a b c : Int} (H : CN w a b c W) : CN w a b c W.drew := ⟨H.1.drew, H.2⟩

/-- Both results written. -/
theorem CN.put {w W : World} {a b c : Int} (H : CN w a b c W) (x y z : Int) :
    Below w.heap.size w ((((((W.setCell ⟨w.heap.size + 1, 0, none⟩ (.int .i64 x)).setCell ⟨w.heap.size + 1, 1, none⟩ (.int .i64 y)).setCell ⟨w.heap.size + 1, 2, none⟩ (.int .i64 z)).setCell ⟨w.heap.size + 1 + 1, 0, none⟩ (.int .i64 x)).setCell ⟨w.heap.size + 1 + 1, 1, none⟩ (.int .i64 y)).setCell ⟨w.heap.size + 1 + 1, 2, none⟩ (.int .i64 z)).drew ∧ CBox ((((((W.setCell ⟨w.heap.size + 1, 0, none⟩ (.int .i64 x)).setCell ⟨w.heap.size + 1, 1, none⟩ (.int .i64 y)).setCell ⟨w.heap.size + 1, 2, none⟩ (.int .i64 z)).setCell ⟨w.heap.size + 1 + 1, 0, none⟩ (.int .i64 x)).setCell ⟨w.heap.size + 1 + 1, 1, none⟩ (.int .i64 y)).setCell ⟨w.heap.size + 1 + 1, 2, none⟩ (.int .i64 z)).drew (w.heap.size + 1) x y z ∧ Box ((((((W.setCell ⟨w.heap.size + 1, 0, none⟩ (.int .i64 x)).setCell ⟨w.heap.size + 1, 1, none⟩ (.int .i64 y)).setCell ⟨w.heap.size + 1, 2, none⟩ (.int .i64 z)).setCell ⟨w.heap.size + 1 + 1, 0, none⟩ (.int .i64 x)).setCell ⟨w.heap.size + 1 + 1, 1, none⟩ (.int .i64 y)).setCell ⟨w.heap.size + 1 + 1, 2, none⟩ (.int .i64 z)).drew (w.heap.size + 1 + 1) x y z := by
  obtain ⟨h1, h2, h3, h4⟩ := H
  refine ⟨?_, ?_, ?_⟩
  · exact ((((((h1.setCell (by simp) _).setCell (by simp) _).setCell (by simp) _).setCell (by simp; omega) _).setCell (by simp; omega) _).setCell (by simp; omega) _).drew
  · exact ((((((h3.set0 x).set1 y).set2 z).off _ _ (by simp)).off _ _ (by simp)).off _ _ (by simp)).drew
  · exact ((((((h4.off _ _ (by simp)).off _ _ (by simp)).off _ _ (by simp)).set0 x).set1 y).set2 z).drew
/-- The cells of the block h. -/
def C3 (h : Nat) (a b c : Int) (W : World) : Prop := W.cell? ⟨h, 0, none⟩ = some (.int .i64 a) ∧ W.cell? ⟨h, 1, none⟩ = some (.int .i64 b) ∧ W.cell? ⟨h, 2, none⟩ = some (.int .i64 c)
theorem C3.drew {h : Nat} {a b c : Int} {W : World} (H : C3 h a b c W) : C3 h a b c W.drew := H
theorem C3.set {h : Nat} {a b c : Int} {W : World} (H : C3 h a b c W) (p : Addr) (v : Value) (hne : h ≠ p.block) : C3 h a b c (W.setCell p v) := by
  obtain ⟨h1, h2, h3⟩ := H
  refine ⟨?_, ?_, ?_⟩
  all_goals
    rw [World.cell?_setCell_other _ _ _ _ (by intro e; subst e; exact hne rfl)]
    assumption

set_option maxRecDepth 100000 in
set_option maxHeartbeats 400000 in
theorem Now_bad (a b c n : Int) (w : World) (d1 d2 : Bool) (h1 : rightB a b c = d1) (h2 : inB n 1099511627776 = d2) (h : d1 = false ∨ (d1 = true ∧ d2 = false)) : Calls Try.prog 10 #[(Go.Value.agg #[Go.Value.int Go.IntKind.i64 a, Go.Value.int Go.IntKind.i64 b, Go.Value.int Go.IntKind.i64 c]), .int .i64 n] w fun e w' => e = .returned (.tuple #[(Go.Value.agg #[Go.Value.int Go.IntKind.i64 0, Go.Value.int Go.IntKind.i64 0, Go.Value.int Go.IntKind.i64 0]), (Go.Value.agg #[Go.Value.int Go.IntKind.i64 0, Go.Value.int Go.IntKind.i64 0, Go.Value.int Go.IntKind.i64 0]), .int .i64 1]) ∧ Below w.heap.size w w' := by
  have HR : Hid (∀ W, Calls Try.prog 22 #[(Go.Value.agg #[Go.Value.int Go.IntKind.i64 a, Go.Value.int Go.IntKind.i64 b, Go.Value.int Go.IntKind.i64 c])] W fun e w' => e = .returned (.bool d1) ∧ Below W.heap.size W w') := fun W => by rw [← h1]; exact cright_any a b c W
  have HW : Hid (∀ W, Calls Try.prog 23 #[.int .i64 n] W fun e w' => e = .returned (.bool d2) ∧ w' = W) := fun W => by rw [← h2]; exact rightWall_any n W
  clear h1 h2
  rcases h with rfl | ⟨rfl, rfl⟩
  · go_enter Try.func10, Try.ntmps10
    go_wp2_with fail
    refine (HR.out _).mono ?_
    rintro e w1 ⟨rfl, hb1⟩
    have H1 : Hid (CN w a b c w1) := (CN.new w a b c).next hb1
    clear hb1
    go_wp2_with (first | (refine cbox_store (w.heap.size + 1) H1.out.2.2.1 rfl _ _ rfl rfl rfl ?_) | (refine box_store (w.heap.size + 1 + 1) (H1.out.2.2.2.other _ (by omega)) rfl _ _ rfl rfl rfl ?_))
    exact bodyPost_ret (cbox_result3 rfl _ _ (w.heap.size + 1) (w.heap.size + 1 + 1) rfl rfl ((H1.out.2.2.1.set 0 0 0).other _ (by omega)) ((H1.out.2.2.2.other _ (by omega)).set 0 0 0)) rfl ⟨rfl, below_setRow (below_setRow H1.out.1 (by omega) _) (by omega) _⟩
  · go_enter Try.func10, Try.ntmps10
    go_wp2_with fail
    refine (HR.out _).mono ?_
    rintro e w1 ⟨rfl, hb1⟩
    have H1 : Hid (CN w a b c w1) := (CN.new w a b c).next hb1
    clear hb1
    go_wp2_with fail
    refine (HW.out _).mono ?_
    rintro e w2 ⟨rfl, rfl⟩
    go_wp2_with (first | (refine cbox_store (w.heap.size + 1) H1.out.2.2.1 rfl _ _ rfl rfl rfl ?_) | (refine box_store (w.heap.size + 1 + 1) (H1.out.2.2.2.other _ (by omega)) rfl _ _ rfl rfl rfl ?_))
    exact bodyPost_ret (cbox_result3 rfl _ _ (w.heap.size + 1) (w.heap.size + 1 + 1) rfl rfl ((H1.out.2.2.1.set 0 0 0).other _ (by omega)) ((H1.out.2.2.2.other _ (by omega)).set 0 0 0)) rfl ⟨rfl, below_setRow (below_setRow H1.out.1 (by omega) _) (by omega) _⟩

set_option maxRecDepth 100000 in
set_option maxHeartbeats 400000 in
theorem Now_full (a c n : Int) (w : World) (h1 : rightB a 1048576 c = true) (h2 : inB n 1099511627776 = true) (h3 : ¬ a < n) : Calls Try.prog 10 #[(Go.Value.agg #[Go.Value.int Go.IntKind.i64 a, Go.Value.int Go.IntKind.i64 1048576, Go.Value.int Go.IntKind.i64 c]), .int .i64 n] w fun e w' => e = .returned (.tuple #[(Go.Value.agg #[Go.Value.int Go.IntKind.i64 0, Go.Value.int Go.IntKind.i64 0, Go.Value.int Go.IntKind.i64 0]), (Go.Value.agg #[Go.Value.int Go.IntKind.i64 0, Go.Value.int Go.IntKind.i64 0, Go.Value.int Go.IntKind.i64 0]), .int .i64 6]) ∧ Below w.heap.size w w' := by
  have HR : Hid (∀ W, Calls Try.prog 22 #[(Go.Value.agg #[Go.Value.int Go.IntKind.i64 a, Go.Value.int Go.IntKind.i64 1048576, Go.Value.int Go.IntKind.i64 c])] W fun e w' => e = .returned (.bool true) ∧ Below W.heap.size W w') := fun W => by rw [← h1]; exact cright_any a _ c W
  have HW : Hid (∀ W, Calls Try.prog 23 #[.int .i64 n] W fun e w' => e = .returned (.bool true) ∧ w' = W) := fun W => by rw [← h2]; exact rightWall_any n W
  have hd : decide (a < n) = false := by simpa using h3
  clear h1 h2 h3
  go_enter Try.func10, Try.ntmps10
  go_wp2_with fail
  refine (HR.out _).mono ?_
  rintro e w1 ⟨rfl, hb1⟩
  have H1 : Hid (CN w a 1048576 c w1) := (CN.new w a 1048576 c).next hb1
  clear hb1
  go_wp2_with fail
  refine (HW.out _).mono ?_
  rintro e w2 ⟨rfl, rfl⟩
  obtain ⟨x0, x1, x2⟩ := H1.out.2.1.cell
  go_wp2_with (first | (refine cbox_store (w.heap.size + 1) H1.out.2.2.1 rfl _ _ rfl rfl rfl ?_) | (refine box_store (w.heap.size + 1 + 1) (H1.out.2.2.2.other _ (by omega)) rfl _ _ rfl rfl rfl ?_))
  exact bodyPost_ret (cbox_result3 rfl _ _ (w.heap.size + 1) (w.heap.size + 1 + 1) rfl rfl ((H1.out.2.2.1.set 0 0 0).other _ (by omega)) ((H1.out.2.2.2.other _ (by omega)).set 0 0 0)) rfl ⟨rfl, below_setRow (below_setRow H1.out.1 (by omega) _) (by omega) _⟩

end Go.Proofs.Ytffmannejfmcgaa
