/-
  The contract of clock.New.
-/
import Derived.Test.YtffmannejfmcgaaClRight
set_option linter.unusedVariables false
namespace Go.Proofs.Ytffmannejfmcgaa
open Go.RowKit

/-- The blocks that New lays: the result's, and the clock's. -/
def WNew (w : World) (n : Int) : World := (w.alloc (.cells #[.int .i64 0, .int .i64 0, .int .i64 0] 25)).alloc (.cells #[.int .i64 0, .int .i64 0, .int .i64 n] 25)
theorem WNew_next {w w1 : World} {n : Int} (hb : Below (WNew w n).heap.size (WNew w n) w1) : CBox w1 w.heap.size 0 0 0 ∧ CBox w1 (w.heap.size + 1) 0 0 n ∧ Below w.heap.size w w1 := by
  have h1 : CBox (WNew w n) (w.heap.size + 1) 0 0 n := by
    have := CBox.new (w.alloc (.cells #[.int .i64 0, .int .i64 0, .int .i64 0] 25)) 0 0 n
    simpa [WNew] using this
  exact ⟨((CBox.new w 0 0 0).alloc _).over hb, h1.over hb, (((Below.refl w.heap.size w).alloc (Nat.le_refl _) _).alloc (by simp) _).trans (hb.mono (by simp [WNew]; omega))⟩

set_option maxRecDepth 100000 in
set_option maxHeartbeats 400000 in
theorem New_ok (n : Int) (w : World) (h : inB n 255 = true) : Calls Try.prog 18 #[.int .i64 n] w fun e w' => e = .returned (.tuple #[(Go.Value.agg #[Go.Value.int Go.IntKind.i64 0, Go.Value.int Go.IntKind.i64 0, Go.Value.int Go.IntKind.i64 n]), .int .i64 0]) ∧ Below w.heap.size w w' := by
  have HR : Hid (∀ W, Calls Try.prog 22 #[(Go.Value.agg #[Go.Value.int Go.IntKind.i64 0, Go.Value.int Go.IntKind.i64 0, Go.Value.int Go.IntKind.i64 n])] W fun e w' => e = .returned (.bool true) ∧ Below W.heap.size W w') := fun W => by
    have h1 := cright_any 0 0 n W
    rw [rightB_yes (by omega) (by omega) (inB_true h)] at h1
    exact h1
  clear h
  go_enter Try.func18, Try.ntmps18
  go_wp2_with fail
  refine (HR.out _).mono ?_
  rintro e w1 ⟨rfl, hb1⟩
  obtain ⟨hx0, hx1, hb⟩ := WNew_next hb1
  clear hb1
  have HX0 := Lib.hid hx0
  have HX1 := Lib.hid hx1
  clear hx0 hx1
  go_wp2_with (first | (refine cbox_load (w.heap.size + 1) HX1.out rfl _ rfl rfl ?_) | (refine cbox_store w.heap.size HX0.out rfl _ _ rfl rfl rfl ?_))
  exact bodyPost_ret (cbox_result2 rfl _ _ w.heap.size rfl (HX0.out.set 0 0 n)) rfl ⟨rfl, below_setRow hb (by omega) _⟩

set_option maxRecDepth 100000 in
set_option maxHeartbeats 400000 in
theorem New_no (n : Int) (w : World) (h : inB n 255 = false) : Calls Try.prog 18 #[.int .i64 n] w fun e w' => e = .returned (.tuple #[(Go.Value.agg #[Go.Value.int Go.IntKind.i64 0, Go.Value.int Go.IntKind.i64 0, Go.Value.int Go.IntKind.i64 0]), .int .i64 1]) ∧ Below w.heap.size w w' := by
  have HR : Hid (∀ W, Calls Try.prog 22 #[(Go.Value.agg #[Go.Value.int Go.IntKind.i64 0, Go.Value.int Go.IntKind.i64 0, Go.Value.int Go.IntKind.i64 n])] W fun e w' => e = .returned (.bool false) ∧ Below W.heap.size W w') := fun W => by
    have h1 := cright_any 0 0 n W
    have h2 : rightB 0 0 n = false := by unfold rightB; rw [h]; simp
    rw [h2] at h1
    exact h1
  clear h
  go_enter Try.func18, Try.ntmps18
  go_wp2_with fail
  refine (HR.out _).mono ?_
  rintro e w1 ⟨rfl, hb1⟩
  obtain ⟨hx0, hx1, hb⟩ := WNew_next hb1
  clear hb1
  have HX0 := Lib.hid hx0
  clear hx0 hx1
  go_wp2_with (first | (refine cbox_store w.heap.size HX0.out rfl _ _ rfl rfl rfl ?_))
  exact bodyPost_ret (cbox_result2 rfl _ _ w.heap.size rfl (HX0.out.set 0 0 0)) rfl ⟨rfl, below_setRow hb (by omega) _⟩

end Go.Proofs.Ytffmannejfmcgaa
