/-
  The contract of clock.Now.
-/
import Derived.Test.YtffmannejfmcgaaClNowA
set_option linter.unusedVariables false
namespace Go.Proofs.Ytffmannejfmcgaa
open Go.RowKit

set_option maxRecDepth 100000 in
set_option maxHeartbeats 400000 in
theorem Now_up (a b c n : Int) (w : World) (h1 : rightB a b c = true) (h2 : inB n 1099511627776 = true) (h3 : a < n) : Calls Try.prog 10 #[(Go.Value.agg #[Go.Value.int Go.IntKind.i64 a, Go.Value.int Go.IntKind.i64 b, Go.Value.int Go.IntKind.i64 c]), .int .i64 n] w fun e w' => e = .returned (.tuple #[(Go.Value.agg #[Go.Value.int Go.IntKind.i64 n, Go.Value.int Go.IntKind.i64 0, Go.Value.int Go.IntKind.i64 c]), (Go.Value.agg #[Go.Value.int Go.IntKind.i64 n, Go.Value.int Go.IntKind.i64 0, Go.Value.int Go.IntKind.i64 c]), .int .i64 0]) ∧ Below w.heap.size w w' := by
  have HR : Hid (∀ W, Calls Try.prog 22 #[(Go.Value.agg #[Go.Value.int Go.IntKind.i64 a, Go.Value.int Go.IntKind.i64 b, Go.Value.int Go.IntKind.i64 c])] W fun e w' => e = .returned (.bool true) ∧ Below W.heap.size W w') := fun W => by rw [← h1]; exact cright_any a _ c W
  have HW : Hid (∀ W, Calls Try.prog 23 #[.int .i64 n] W fun e w' => e = .returned (.bool true) ∧ w' = W) := fun W => by rw [← h2]; exact rightWall_any n W
  have hd : decide (a < n) = true := by simpa using h3
  clear h1 h2 h3
  go_enter Try.func10, Try.ntmps10
  go_wp2_with fail
  refine (HR.out _).mono ?_
  rintro e w1 ⟨rfl, hb1⟩
  have H1 : Hid (CN w a b c w1) := (CN.new w a b c).next hb1
  clear hb1
  go_wp2_with fail
  refine (HW.out _).mono ?_
  rintro e w2 ⟨rfl, rfl⟩
  obtain ⟨x0, x1, x2⟩ := H1.out.2.1.cell
  have x3 := H1.out.2.1.frozen 0
  have x4 := H1.out.2.1.frozen 1
  go_upto_region 8 with (fail)
  clear x0 x1 x2 x3 x4
  have H8 : Hid (CN w n 0 c ((w2.setCell ⟨w.heap.size, 0, none⟩ (.int .i64 n)).setCell ⟨w.heap.size, 1, none⟩ (.int .i64 0))) := (H1.out.set0 n).set1 0
  generalize (w2.setCell ⟨w.heap.size, 0, none⟩ (.int .i64 n)).setCell ⟨w.heap.size, 1, none⟩ (.int .i64 0) = w8 at H8 ⊢
  obtain ⟨x0, x1, x2⟩ := H8.out.2.1.cell
  obtain ⟨y0, y1, y2⟩ := H8.out.2.2.1.cell
  obtain ⟨z0, z1, z2⟩ := H8.out.2.2.2.cell
  have y3 : ∀ i, w8.frozen? ⟨w.heap.size + 1, i, none⟩ = false := H8.out.2.2.1.frozen
  have z3 : ∀ i, w8.frozen? ⟨w.heap.size + 1 + 1, i, none⟩ = false := H8.out.2.2.2.frozen
  have HS0 : C3 w.heap.size n 0 c w8 := ⟨x0, x1, x2⟩
  go_region_held3 (fun W => W.cell? ⟨w.heap.size, 0, none⟩ = some (.int .i64 n) ∧ W.cell? ⟨w.heap.size, 1, none⟩ = some (.int .i64 0) ∧ W.cell? ⟨w.heap.size, 2, none⟩ = some (.int .i64 c)) ((show C3 w.heap.size n 0 c _; refine C3.drew ?_; first | (with_reducible exact HS0) | (refine C3.set (C3.set (C3.set ?_ _ _ (by simp <;> omega)) _ _ (by simp <;> omega)) _ _ (by simp <;> omega); first | (with_reducible exact HS0) | (refine C3.set (C3.set (C3.set ?_ _ _ (by simp <;> omega)) _ _ (by simp <;> omega)) _ _ (by simp <;> omega); with_reducible exact HS0)))) (fail)
  have HF := Lib.hid (H8.out.put n 0 c)
  go_wp2_with fail
  obtain ⟨f1, f2, f3⟩ := HF.out
  refine bodyPost_ret (cbox_result3 rfl _ _ (w.heap.size + 1) (w.heap.size + 1 + 1) rfl rfl f2 f3) rfl ⟨rfl, f1⟩

set_option maxRecDepth 100000 in
set_option maxHeartbeats 400000 in
theorem Now_tick (a b c n : Int) (w : World) (h1 : rightB a b c = true) (h2 : inB n 1099511627776 = true) (h3 : ¬ a < n) (h4 : ¬ b = 1048576) : Calls Try.prog 10 #[(Go.Value.agg #[Go.Value.int Go.IntKind.i64 a, Go.Value.int Go.IntKind.i64 b, Go.Value.int Go.IntKind.i64 c]), .int .i64 n] w fun e w' => e = .returned (.tuple #[(Go.Value.agg #[Go.Value.int Go.IntKind.i64 a, Go.Value.int Go.IntKind.i64 (b + 1), Go.Value.int Go.IntKind.i64 c]), (Go.Value.agg #[Go.Value.int Go.IntKind.i64 a, Go.Value.int Go.IntKind.i64 (b + 1), Go.Value.int Go.IntKind.i64 c]), .int .i64 0]) ∧ Below w.heap.size w w' := by
  have HR : Hid (∀ W, Calls Try.prog 22 #[(Go.Value.agg #[Go.Value.int Go.IntKind.i64 a, Go.Value.int Go.IntKind.i64 b, Go.Value.int Go.IntKind.i64 c])] W fun e w' => e = .returned (.bool true) ∧ Below W.heap.size W w') := fun W => by rw [← h1]; exact cright_any a _ c W
  have HW : Hid (∀ W, Calls Try.prog 23 #[.int .i64 n] W fun e w' => e = .returned (.bool true) ∧ w' = W) := fun W => by rw [← h2]; exact rightWall_any n W
  have hd : decide (a < n) = false := by simpa using h3
  have hd2 : (b == 1048576) = false := beq_eq_false_iff_ne.2 h4
  have hq := IntWalk.i64_in (b + 1) (by have := (rightB_true h1).2.1; omega)
  clear h1 h2 h3 h4
  go_enter Try.func10, Try.ntmps10
  go_wp2_with fail
  refine (HR.out _).mono ?_
  rintro e w1 ⟨rfl, hb1⟩
  have H1 : Hid (CN w a b c w1) := (CN.new w a b c).next hb1
  clear hb1
  go_wp2_with fail
  refine (HW.out _).mono ?_
  rintro e w2 ⟨rfl, rfl⟩
  obtain ⟨x0, x1, x2⟩ := H1.out.2.1.cell
  have x3 := H1.out.2.1.frozen 1
  go_upto_region 8 with (fail)
  clear x0 x1 x2 x3 hq
  have H8 : Hid (CN w a (b + 1) c (w2.setCell ⟨w.heap.size, 1, none⟩ (.int .i64 (b + 1)))) := H1.out.set1 (b + 1)
  generalize w2.setCell ⟨w.heap.size, 1, none⟩ (.int .i64 (b + 1)) = w8 at H8 ⊢
  obtain ⟨x0, x1, x2⟩ := H8.out.2.1.cell
  obtain ⟨y0, y1, y2⟩ := H8.out.2.2.1.cell
  obtain ⟨z0, z1, z2⟩ := H8.out.2.2.2.cell
  have y3 : ∀ i, w8.frozen? ⟨w.heap.size + 1, i, none⟩ = false := H8.out.2.2.1.frozen
  have z3 : ∀ i, w8.frozen? ⟨w.heap.size + 1 + 1, i, none⟩ = false := H8.out.2.2.2.frozen
  have HS0 : C3 w.heap.size a (b + 1) c w8 := ⟨x0, x1, x2⟩
  go_region_held3 (fun W => W.cell? ⟨w.heap.size, 0, none⟩ = some (.int .i64 a) ∧ W.cell? ⟨w.heap.size, 1, none⟩ = some (.int .i64 (b + 1)) ∧ W.cell? ⟨w.heap.size, 2, none⟩ = some (.int .i64 c)) ((show C3 w.heap.size a (b + 1) c _; refine C3.drew ?_; first | (with_reducible exact HS0) | (refine C3.set (C3.set (C3.set ?_ _ _ (by simp <;> omega)) _ _ (by simp <;> omega)) _ _ (by simp <;> omega); first | (with_reducible exact HS0) | (refine C3.set (C3.set (C3.set ?_ _ _ (by simp <;> omega)) _ _ (by simp <;> omega)) _ _ (by simp <;> omega); with_reducible exact HS0)))) (fail)
  have HF := Lib.hid (H8.out.put a (b + 1) c)
  go_wp2_with fail
  obtain ⟨f1, f2, f3⟩ := HF.out
  refine bodyPost_ret (cbox_result3 rfl _ _ (w.heap.size + 1) (w.heap.size + 1 + 1) rfl rfl f2 f3) rfl ⟨rfl, f1⟩

theorem Now_any (a b c n x y z e : Int) (w : World) (h : nowV a b c n = (x, y, z, e)) : Calls Try.prog 10 #[(Go.Value.agg #[Go.Value.int Go.IntKind.i64 a, Go.Value.int Go.IntKind.i64 b, Go.Value.int Go.IntKind.i64 c]), .int .i64 n] w fun e' w' => e' = .returned (.tuple #[(Go.Value.agg #[Go.Value.int Go.IntKind.i64 x, Go.Value.int Go.IntKind.i64 y, Go.Value.int Go.IntKind.i64 z]), (Go.Value.agg #[Go.Value.int Go.IntKind.i64 x, Go.Value.int Go.IntKind.i64 y, Go.Value.int Go.IntKind.i64 z]), .int .i64 e]) ∧ Below w.heap.size w w' := by
  cases h1 : rightB a b c
  · rw [now_r _ h1] at h; cases h; exact Now_bad a b c n w _ _ h1 rfl (.inl rfl)
  cases h2 : inB n 1099511627776
  · rw [now_w _ _ _ h2] at h; cases h; exact Now_bad a b c n w _ _ h1 h2 (.inr ⟨rfl, rfl⟩)
  by_cases h3 : a < n
  · rw [now_up h1 h2 h3] at h; cases h; exact Now_up a b c n w h1 h2 h3
  by_cases h4 : b = 1048576
  · subst h4
    rw [now_full h1 h2 h3 rfl] at h; cases h; exact Now_full a c n w h1 h2 h3
  · rw [now_tick h1 h2 h3 h4] at h; cases h; exact Now_tick a b c n w h1 h2 h3 h4

end Go.Proofs.Ytffmannejfmcgaa
