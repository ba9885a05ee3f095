/-
  The walk of StampOrders.
-/
import Derived.Test.YtccieoofjopbkaaDoorStAwake
namespace Go.Proofs.YtccieoofjopbkaaDoor
open Go.RowKit

set_option maxRecDepth 100000 in
set_option maxHeartbeats 400000 in
theorem stampOrders_core (w : World) (a1 a2 a3 b1 b2 b3 l1 l2 l3 s1 s2 s3 n : Int) (d1 d2 rb : Bool) (hd : (d1 = true ∧ d2 = false ∧ n = -1) ∨ (d1 = false ∧ d2 = true ∧ n = 1) ∨ (d1 = false ∧ d2 = false ∧ n = 0))
    (HB1 : Hid (∀ W, Calls Tryd.prog 9 #[(Go.Value.agg #[Go.Value.int Go.IntKind.i64 a1, Go.Value.int Go.IntKind.i64 a2, Go.Value.int Go.IntKind.i64 a3]), (Go.Value.agg #[Go.Value.int Go.IntKind.i64 b1, Go.Value.int Go.IntKind.i64 b2, Go.Value.int Go.IntKind.i64 b3])] W fun e w' => e = .returned (.bool d1) ∧ Below W.heap.size W w'))
    (HB2 : Hid (∀ W, Calls Tryd.prog 9 #[(Go.Value.agg #[Go.Value.int Go.IntKind.i64 b1, Go.Value.int Go.IntKind.i64 b2, Go.Value.int Go.IntKind.i64 b3]), (Go.Value.agg #[Go.Value.int Go.IntKind.i64 a1, Go.Value.int Go.IntKind.i64 a2, Go.Value.int Go.IntKind.i64 a3])] W fun e w' => e = .returned (.bool d2) ∧ Below W.heap.size W w'))
    (HCC : Hid (∀ W, Calls Tryd.prog 10 #[(Go.Value.agg #[Go.Value.int Go.IntKind.i64 a1, Go.Value.int Go.IntKind.i64 a2, Go.Value.int Go.IntKind.i64 a3]), (Go.Value.agg #[Go.Value.int Go.IntKind.i64 b1, Go.Value.int Go.IntKind.i64 b2, Go.Value.int Go.IntKind.i64 b3])] W fun e w' => e = .returned (.int .i64 n) ∧ Below W.heap.size W w'))
    (HL : Hid (∀ W, Calls Tryd.prog 11 #[(Go.Value.agg #[Go.Value.int Go.IntKind.i64 a1, Go.Value.int Go.IntKind.i64 a2, Go.Value.int Go.IntKind.i64 a3]), (Go.Value.agg #[Go.Value.int Go.IntKind.i64 b1, Go.Value.int Go.IntKind.i64 b2, Go.Value.int Go.IntKind.i64 b3])] W fun e w' => e = .returned (Go.Value.agg #[Go.Value.int Go.IntKind.i64 l1, Go.Value.int Go.IntKind.i64 l2, Go.Value.int Go.IntKind.i64 l3]) ∧ Below W.heap.size W w'))
    (HRL : Hid (∀ W, Calls Tryd.prog 12 #[(Go.Value.agg #[Go.Value.int Go.IntKind.i64 a1, Go.Value.int Go.IntKind.i64 a2, Go.Value.int Go.IntKind.i64 a3]), (Go.Value.agg #[Go.Value.int Go.IntKind.i64 b1, Go.Value.int Go.IntKind.i64 b2, Go.Value.int Go.IntKind.i64 b3])] W fun e w' => e = .returned (Go.Value.agg #[Go.Value.int Go.IntKind.i64 l1, Go.Value.int Go.IntKind.i64 l2, Go.Value.int Go.IntKind.i64 l3]) ∧ Below W.heap.size W w'))
    (HS : Hid (∀ W, Calls Tryd.prog 13 #[(Go.Value.agg #[Go.Value.int Go.IntKind.i64 a1, Go.Value.int Go.IntKind.i64 a2, Go.Value.int Go.IntKind.i64 a3]), (Go.Value.agg #[Go.Value.int Go.IntKind.i64 b1, Go.Value.int Go.IntKind.i64 b2, Go.Value.int Go.IntKind.i64 b3])] W fun e w' => e = .returned (Go.Value.agg #[Go.Value.int Go.IntKind.i64 s1, Go.Value.int Go.IntKind.i64 s2, Go.Value.int Go.IntKind.i64 s3]) ∧ Below W.heap.size W w'))
    (HRS : Hid (∀ W, Calls Tryd.prog 14 #[(Go.Value.agg #[Go.Value.int Go.IntKind.i64 a1, Go.Value.int Go.IntKind.i64 a2, Go.Value.int Go.IntKind.i64 a3]), (Go.Value.agg #[Go.Value.int Go.IntKind.i64 b1, Go.Value.int Go.IntKind.i64 b2, Go.Value.int Go.IntKind.i64 b3])] W fun e w' => e = .returned (Go.Value.agg #[Go.Value.int Go.IntKind.i64 s1, Go.Value.int Go.IntKind.i64 s2, Go.Value.int Go.IntKind.i64 s3]) ∧ Below W.heap.size W w'))
    (HR : Hid (∀ W, Calls Tryd.prog 15 #[(Go.Value.agg #[Go.Value.int Go.IntKind.i64 a1, Go.Value.int Go.IntKind.i64 a2, Go.Value.int Go.IntKind.i64 a3])] W fun e w' => e = .returned (.bool rb) ∧ Below W.heap.size W w'))
    (HRR : Hid (∀ W, Calls Tryd.prog 16 #[(Go.Value.agg #[Go.Value.int Go.IntKind.i64 a1, Go.Value.int Go.IntKind.i64 a2, Go.Value.int Go.IntKind.i64 a3])] W fun e w' => e = .returned (.bool rb) ∧ Below W.heap.size W w')) :
    Calls Tryd.prog 3 #[(Go.Value.agg #[Go.Value.int Go.IntKind.i64 a1, Go.Value.int Go.IntKind.i64 a2, Go.Value.int Go.IntKind.i64 a3]), (Go.Value.agg #[Go.Value.int Go.IntKind.i64 b1, Go.Value.int Go.IntKind.i64 b2, Go.Value.int Go.IntKind.i64 b3])] w fun e w' => e = .returned (.bool true) ∧ Below w.heap.size w w' := by
  have HAW : Hid (∀ W, Calls Tryd.prog 17 #[] W fun e w' => e = .returned (.bool true) ∧ Below W.heap.size W w') := fun W => awake_any W
  rcases hd with ⟨rfl, rfl, rfl⟩ | ⟨rfl, rfl, rfl⟩ | ⟨rfl, rfl, rfl⟩
  all_goals
    go_enter Tryd.func3, Tryd.ntmps3
    go_wp2_with fail
    refine (HB1.out _).mono ?_
    rintro e w1 ⟨rfl, hb1⟩
    have H2 : Hid (Two w w.heap.size (w.heap.size + 1) a1 a2 a3 b1 b2 b3 w1) := by
      refine Two.next (W := (w.alloc (.cells #[.int .i64 a1, .int .i64 a2, .int .i64 a3] 23)).alloc (.cells #[.int .i64 b1, .int .i64 b2, .int .i64 b3] 23)) ⟨((Below.refl _ _).alloc (Nat.le_refl _) _).alloc (by simp) _, (Box.new w a1 a2 a3).alloc _, ?_⟩ hb1
      have := Box.new (w.alloc (.cells #[.int .i64 a1, .int .i64 a2, .int .i64 a3] 23)) b1 b2 b3
      simpa using this
    clear hb1
    go_wp2_with (first | (refine box_load w.heap.size H2.out.2.1 rfl _ rfl rfl ?_) | (refine box_load (w.heap.size + 1) H2.out.2.2 rfl _ rfl rfl ?_))
    refine (HB2.out _).mono ?_
    rintro e w2 ⟨rfl, hb2⟩
    have H3 : Hid (Two w w.heap.size (w.heap.size + 1) a1 a2 a3 b1 b2 b3 w2) := H2.out.next hb2
    clear hb2 H2
    go_wp2_with (first | (refine box_load w.heap.size H3.out.2.1 rfl _ rfl rfl ?_) | (refine box_load (w.heap.size + 1) H3.out.2.2 rfl _ rfl rfl ?_))
    refine wp_region_calm (Two w w.heap.size (w.heap.size + 1) a1 a2 a3 b1 b2 b3) (by kernel_rfl) (by kernel_rfl) ⟨H3.out.1.drew, H3.out.2⟩ ?_
    repeat (refine wpQuiet_step (fun K hK => ?_); go_simp; first | (refine hK _ ?_; clear hK K) | (apply Exists.intro; refine ⟨fun wc hwc => ?_, hK _ ?_⟩; (focus (first | (first | (go_at_call 10; refine (HCC.out _).mono ?_; rintro e w1 ⟨rfl, hb1⟩; exact ⟨rfl, hwc.next hb1⟩) | (go_at_call 11; refine (HL.out _).mono ?_; rintro e w1 ⟨rfl, hb1⟩; exact ⟨rfl, hwc.next hb1⟩) | (go_at_call 12; refine (HRL.out _).mono ?_; rintro e w1 ⟨rfl, hb1⟩; exact ⟨rfl, hwc.next hb1⟩) | (go_at_call 13; refine (HS.out _).mono ?_; rintro e w1 ⟨rfl, hb1⟩; exact ⟨rfl, hwc.next hb1⟩) | (go_at_call 14; refine (HRS.out _).mono ?_; rintro e w1 ⟨rfl, hb1⟩; exact ⟨rfl, hwc.next hb1⟩) | (go_at_call 15; refine (HR.out _).mono ?_; rintro e w1 ⟨rfl, hb1⟩; exact ⟨rfl, hwc.next hb1⟩) | (go_at_call 16; refine (HRR.out _).mono ?_; rintro e w1 ⟨rfl, hb1⟩; exact ⟨rfl, hwc.next hb1⟩) | (go_at_call 17; refine (HAW.out _).mono ?_; rintro e w1 ⟨rfl, hb1⟩; exact ⟨rfl, hwc.next hb1⟩)) | (((obtain ⟨_, hx, hy⟩ := hwc; obtain ⟨x1, x2, x3⟩ := hx.cell; obtain ⟨y1, y2, y3⟩ := hy.cell; clear hx hy)); go_simp; done) | (((obtain ⟨_, hx, hy⟩ := hwc; obtain ⟨x1, x2, x3⟩ := hx.cell; obtain ⟨y1, y2, y3⟩ := hy.cell; clear hx hy)); go_simp; exact rfl))); clear hK K))
    refine wpQuiet_nil ?_
    intro wc hwc
    go_wp2_with fail
    go_ret
    exact ⟨rfl, hwc.1⟩

theorem stampOrders_walk (w : World) (a1 a2 a3 b1 b2 b3 : Int) :
    Calls Tryd.prog 3 #[(Go.Value.agg #[Go.Value.int Go.IntKind.i64 a1, Go.Value.int Go.IntKind.i64 a2, Go.Value.int Go.IntKind.i64 a3]), (Go.Value.agg #[Go.Value.int Go.IntKind.i64 b1, Go.Value.int Go.IntKind.i64 b2, Go.Value.int Go.IntKind.i64 b3])] w fun e w' => e = .returned (.bool true) ∧ Below w.heap.size w w' := by
  have HR := fun W => Right_any a1 a2 a3 W
  have HRR := fun W => refRight_any a1 a2 a3 W
  have HB1 := fun W => Before_any a1 a2 a3 b1 b2 b3 W
  have HB2 := fun W => Before_any b1 b2 b3 a1 a2 a3 W
  have HC := fun W => Compare_any a1 a2 a3 b1 b2 b3 W
  rcases cmp_cases a1 a2 a3 b1 b2 b3 with ⟨h1, h2, h3⟩ | ⟨h1, h2, h3⟩ | ⟨h1, h2, h3, e1, e2, e3⟩
  · exact stampOrders_core w a1 a2 a3 b1 b2 b3 b1 b2 b3 a1 a2 a3 _ _ _ _ (.inl ⟨h1, h2, h3⟩) HB1 HB2 HC (fun W => Later_snd _ _ _ _ _ _ W (by omega)) (fun W => refLater_snd _ _ _ _ _ _ W h1) (fun W => Sooner_fst _ _ _ _ _ _ W (by omega)) (fun W => refSooner_fst _ _ _ _ _ _ W h2) HR HRR
  · exact stampOrders_core w a1 a2 a3 b1 b2 b3 a1 a2 a3 b1 b2 b3 _ _ _ _ (.inr (.inl ⟨h1, h2, h3⟩)) HB1 HB2 HC (fun W => Later_fst _ _ _ _ _ _ W (by omega)) (fun W => refLater_fst _ _ _ _ _ _ W h1) (fun W => Sooner_snd _ _ _ _ _ _ W (by omega)) (fun W => refSooner_snd _ _ _ _ _ _ W h2) HR HRR
  · refine stampOrders_core w a1 a2 a3 b1 b2 b3 b1 b2 b3 b1 b2 b3 _ _ _ _ (.inr (.inr ⟨h1, h2, h3⟩)) HB1 HB2 HC (fun W => Later_snd _ _ _ _ _ _ W (by omega)) (fun W => ?_) (fun W => Sooner_snd _ _ _ _ _ _ W (by omega)) (fun W => ?_) HR HRR
    · have := refLater_fst a1 a2 a3 b1 b2 b3 W h1
      rw [← e1, ← e2, ← e3] at *
      exact this
    · have := refSooner_fst a1 a2 a3 b1 b2 b3 W h2
      rw [← e1, ← e2, ← e3] at *
      exact this

end Go.Proofs.YtccieoofjopbkaaDoor
