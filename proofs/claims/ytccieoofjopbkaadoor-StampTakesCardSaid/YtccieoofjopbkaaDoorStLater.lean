/-
  Contracts of Later, Sooner, and of the document's answers.
-/
import Derived.Test.YtccieoofjopbkaaDoorStCompare
import Derived.Test.YtccieoofjopbkaaDoorStBox
namespace Go.Proofs.YtccieoofjopbkaaDoor
open Go.RowKit

/-- The three blocks that a function on two stamps lays first: both, and the result's. -/
def W3 (w : World) (a1 a2 a3 b1 b2 b3 : Int) : World := ((w.alloc (.cells #[.int .i64 a1, .int .i64 a2, .int .i64 a3] 23)).alloc (.cells #[.int .i64 b1, .int .i64 b2, .int .i64 b3] 23)).alloc (.cells #[.int .i64 0, .int .i64 0, .int .i64 0] 23)
theorem W3_size (w : World) (a1 a2 a3 b1 b2 b3 : Int) : (W3 w a1 a2 a3 b1 b2 b3).heap.size = w.heap.size + 3 := by simp [W3]
theorem W3_boxes (w : World) (a1 a2 a3 b1 b2 b3 : Int) : Box (W3 w a1 a2 a3 b1 b2 b3) w.heap.size a1 a2 a3 ∧ Box (W3 w a1 a2 a3 b1 b2 b3) (w.heap.size + 1) b1 b2 b3 ∧ Box (W3 w a1 a2 a3 b1 b2 b3) (w.heap.size + 1 + 1) 0 0 0 := by
  refine ⟨((Box.new w a1 a2 a3).alloc _).alloc _, ?_, ?_⟩
  · have := (Box.new (w.alloc (.cells #[.int .i64 a1, .int .i64 a2, .int .i64 a3] 23)) b1 b2 b3).alloc (.cells #[.int .i64 0, .int .i64 0, .int .i64 0] 23)
    simpa [W3] using this
  · have := Box.new ((w.alloc (.cells #[.int .i64 a1, .int .i64 a2, .int .i64 a3] 23)).alloc (.cells #[.int .i64 b1, .int .i64 b2, .int .i64 b3] 23)) 0 0 0
    simpa [W3] using this
theorem W3_below (w : World) (a1 a2 a3 b1 b2 b3 : Int) : Below w.heap.size w (W3 w a1 a2 a3 b1 b2 b3) := (((Below.refl w.heap.size w).alloc (Nat.le_refl _) _).alloc (by simp) _).alloc (by simp; omega) _

/-- What holds behind a call in a function on two stamps. -/
theorem W3_next {w w1 : World} {a1 a2 a3 b1 b2 b3 : Int} (hb : Below (W3 w a1 a2 a3 b1 b2 b3).heap.size (W3 w a1 a2 a3 b1 b2 b3) w1) :
    Box w1 w.heap.size a1 a2 a3 ∧ Box w1 (w.heap.size + 1) b1 b2 b3 ∧ Box w1 (w.heap.size + 1 + 1) 0 0 0 ∧ Below w.heap.size w w1 := by
  obtain ⟨h0, h1, h2⟩ := W3_boxes w a1 a2 a3 b1 b2 b3
  exact ⟨h0.over hb, h1.over hb, h2.over hb, (W3_below w a1 a2 a3 b1 b2 b3).trans (hb.mono (by rw [W3_size]; omega))⟩

set_option maxRecDepth 100000 in
set_option maxHeartbeats 400000 in
theorem Later_fst (a1 a2 a3 b1 b2 b3 : Int) (w : World) (hp : 0 < cmpI a1 a2 a3 b1 b2 b3) : Calls Tryd.prog 11 #[(Go.Value.agg #[Go.Value.int Go.IntKind.i64 a1, Go.Value.int Go.IntKind.i64 a2, Go.Value.int Go.IntKind.i64 a3]), (Go.Value.agg #[Go.Value.int Go.IntKind.i64 b1, Go.Value.int Go.IntKind.i64 b2, Go.Value.int Go.IntKind.i64 b3])] w fun e w' => e = .returned (Go.Value.agg #[Go.Value.int Go.IntKind.i64 a1, Go.Value.int Go.IntKind.i64 a2, Go.Value.int Go.IntKind.i64 a3]) ∧ Below w.heap.size w w' := by
  obtain ⟨c, hc⟩ : ∃ c, c = cmpI a1 a2 a3 b1 b2 b3 := ⟨_, rfl⟩
  have HCC : Hid (∀ W, Calls Tryd.prog 10 #[(Go.Value.agg #[Go.Value.int Go.IntKind.i64 a1, Go.Value.int Go.IntKind.i64 a2, Go.Value.int Go.IntKind.i64 a3]), (Go.Value.agg #[Go.Value.int Go.IntKind.i64 b1, Go.Value.int Go.IntKind.i64 b2, Go.Value.int Go.IntKind.i64 b3])] W fun e w' => e = .returned (.int .i64 c) ∧ Below W.heap.size W w') := fun W => by rw [hc]; exact Compare_any _ _ _ _ _ _ W
  rw [← hc] at hp
  clear hc
  have hpd : decide (0 < c) = true := by simpa using hp
  go_enter Tryd.func11, Tryd.ntmps11
  go_wp2_with fail
  refine (HCC.out _).mono ?_
  rintro e w1 ⟨rfl, hb1⟩
  obtain ⟨hx0, hx1, hx2, hb⟩ := W3_next hb1
  clear hb1
  have HX0 := Lib.hid hx0
  have HX1 := Lib.hid hx1
  have HX2 := Lib.hid hx2
  clear hx0 hx1 hx2
  go_wp2_with (first | (refine box_load w.heap.size HX0.out rfl _ rfl rfl ?_) | (refine box_store (w.heap.size + 1 + 1) HX2.out rfl _ _ rfl rfl rfl ?_))
  exact bodyPost_ret (box_result rfl _ _ (w.heap.size + 1 + 1) rfl (HX2.out.set a1 a2 a3)) rfl ⟨rfl, below_setRow hb (by omega) _⟩

set_option maxRecDepth 100000 in
set_option maxHeartbeats 400000 in
theorem Later_snd (a1 a2 a3 b1 b2 b3 : Int) (w : World) (hp : ¬ 0 < cmpI a1 a2 a3 b1 b2 b3) : Calls Tryd.prog 11 #[(Go.Value.agg #[Go.Value.int Go.IntKind.i64 a1, Go.Value.int Go.IntKind.i64 a2, Go.Value.int Go.IntKind.i64 a3]), (Go.Value.agg #[Go.Value.int Go.IntKind.i64 b1, Go.Value.int Go.IntKind.i64 b2, Go.Value.int Go.IntKind.i64 b3])] w fun e w' => e = .returned (Go.Value.agg #[Go.Value.int Go.IntKind.i64 b1, Go.Value.int Go.IntKind.i64 b2, Go.Value.int Go.IntKind.i64 b3]) ∧ Below w.heap.size w w' := by
  obtain ⟨c, hc⟩ : ∃ c, c = cmpI a1 a2 a3 b1 b2 b3 := ⟨_, rfl⟩
  have HCC : Hid (∀ W, Calls Tryd.prog 10 #[(Go.Value.agg #[Go.Value.int Go.IntKind.i64 a1, Go.Value.int Go.IntKind.i64 a2, Go.Value.int Go.IntKind.i64 a3]), (Go.Value.agg #[Go.Value.int Go.IntKind.i64 b1, Go.Value.int Go.IntKind.i64 b2, Go.Value.int Go.IntKind.i64 b3])] W fun e w' => e = .returned (.int .i64 c) ∧ Below W.heap.size W w') := fun W => by rw [hc]; exact Compare_any _ _ _ _ _ _ W
  rw [← hc] at hp
  clear hc
  have hpd : decide (0 < c) = false := by simpa using hp
  go_enter Tryd.func11, Tryd.ntmps11
  go_wp2_with fail
  refine (HCC.out _).mono ?_
  rintro e w1 ⟨rfl, hb1⟩
  obtain ⟨hx0, hx1, hx2, hb⟩ := W3_next hb1
  clear hb1
  have HX0 := Lib.hid hx0
  have HX1 := Lib.hid hx1
  have HX2 := Lib.hid hx2
  clear hx0 hx1 hx2
  go_wp2_with (first | (refine box_load (w.heap.size + 1) HX1.out rfl _ rfl rfl ?_) | (refine box_store (w.heap.size + 1 + 1) HX2.out rfl _ _ rfl rfl rfl ?_))
  exact bodyPost_ret (box_result rfl _ _ (w.heap.size + 1 + 1) rfl (HX2.out.set b1 b2 b3)) rfl ⟨rfl, below_setRow hb (by omega) _⟩

set_option maxRecDepth 100000 in
set_option maxHeartbeats 400000 in
theorem Sooner_fst (a1 a2 a3 b1 b2 b3 : Int) (w : World) (hp : cmpI a1 a2 a3 b1 b2 b3 < 0) : Calls Tryd.prog 13 #[(Go.Value.agg #[Go.Value.int Go.IntKind.i64 a1, Go.Value.int Go.IntKind.i64 a2, Go.Value.int Go.IntKind.i64 a3]), (Go.Value.agg #[Go.Value.int Go.IntKind.i64 b1, Go.Value.int Go.IntKind.i64 b2, Go.Value.int Go.IntKind.i64 b3])] w fun e w' => e = .returned (Go.Value.agg #[Go.Value.int Go.IntKind.i64 a1, Go.Value.int Go.IntKind.i64 a2, Go.Value.int Go.IntKind.i64 a3]) ∧ Below w.heap.size w w' := by
  obtain ⟨c, hc⟩ : ∃ c, c = cmpI a1 a2 a3 b1 b2 b3 := ⟨_, rfl⟩
  have HCC : Hid (∀ W, Calls Tryd.prog 10 #[(Go.Value.agg #[Go.Value.int Go.IntKind.i64 a1, Go.Value.int Go.IntKind.i64 a2, Go.Value.int Go.IntKind.i64 a3]), (Go.Value.agg #[Go.Value.int Go.IntKind.i64 b1, Go.Value.int Go.IntKind.i64 b2, Go.Value.int Go.IntKind.i64 b3])] W fun e w' => e = .returned (.int .i64 c) ∧ Below W.heap.size W w') := fun W => by rw [hc]; exact Compare_any _ _ _ _ _ _ W
  rw [← hc] at hp
  clear hc
  have hpd : decide (c < 0) = true := by simpa using hp
  go_enter Tryd.func13, Tryd.ntmps13
  go_wp2_with fail
  refine (HCC.out _).mono ?_
  rintro e w1 ⟨rfl, hb1⟩
  obtain ⟨hx0, hx1, hx2, hb⟩ := W3_next hb1
  clear hb1
  have HX0 := Lib.hid hx0
  have HX1 := Lib.hid hx1
  have HX2 := Lib.hid hx2
  clear hx0 hx1 hx2
  go_wp2_with (first | (refine box_load w.heap.size HX0.out rfl _ rfl rfl ?_) | (refine box_store (w.heap.size + 1 + 1) HX2.out rfl _ _ rfl rfl rfl ?_))
  exact bodyPost_ret (box_result rfl _ _ (w.heap.size + 1 + 1) rfl (HX2.out.set a1 a2 a3)) rfl ⟨rfl, below_setRow hb (by omega) _⟩

set_option maxRecDepth 100000 in
set_option maxHeartbeats 400000 in
theorem Sooner_snd (a1 a2 a3 b1 b2 b3 : Int) (w : World) (hp : ¬ cmpI a1 a2 a3 b1 b2 b3 < 0) : Calls Tryd.prog 13 #[(Go.Value.agg #[Go.Value.int Go.IntKind.i64 a1, Go.Value.int Go.IntKind.i64 a2, Go.Value.int Go.IntKind.i64 a3]), (Go.Value.agg #[Go.Value.int Go.IntKind.i64 b1, Go.Value.int Go.IntKind.i64 b2, Go.Value.int Go.IntKind.i64 b3])] w fun e w' => e = .returned (Go.Value.agg #[Go.Value.int Go.IntKind.i64 b1, Go.Value.int Go.IntKind.i64 b2, Go.Value.int Go.IntKind.i64 b3]) ∧ Below w.heap.size w w' := by
  obtain ⟨c, hc⟩ : ∃ c, c = cmpI a1 a2 a3 b1 b2 b3 := ⟨_, rfl⟩
  have HCC : Hid (∀ W, Calls Tryd.prog 10 #[(Go.Value.agg #[Go.Value.int Go.IntKind.i64 a1, Go.Value.int Go.IntKind.i64 a2, Go.Value.int Go.IntKind.i64 a3]), (Go.Value.agg #[Go.Value.int Go.IntKind.i64 b1, Go.Value.int Go.IntKind.i64 b2, Go.Value.int Go.IntKind.i64 b3])] W fun e w' => e = .returned (.int .i64 c) ∧ Below W.heap.size W w') := fun W => by rw [hc]; exact Compare_any _ _ _ _ _ _ W
  rw [← hc] at hp
  clear hc
  have hpd : decide (c < 0) = false := by simpa using hp
  go_enter Tryd.func13, Tryd.ntmps13
  go_wp2_with fail
  refine (HCC.out _).mono ?_
  rintro e w1 ⟨rfl, hb1⟩
  obtain ⟨hx0, hx1, hx2, hb⟩ := W3_next hb1
  clear hb1
  have HX0 := Lib.hid hx0
  have HX1 := Lib.hid hx1
  have HX2 := Lib.hid hx2
  clear hx0 hx1 hx2
  go_wp2_with (first | (refine box_load (w.heap.size + 1) HX1.out rfl _ rfl rfl ?_) | (refine box_store (w.heap.size + 1 + 1) HX2.out rfl _ _ rfl rfl rfl ?_))
  exact bodyPost_ret (box_result rfl _ _ (w.heap.size + 1 + 1) rfl (HX2.out.set b1 b2 b3)) rfl ⟨rfl, below_setRow hb (by omega) _⟩

set_option maxRecDepth 100000 in
set_option maxHeartbeats 400000 in
theorem refLater_snd (a1 a2 a3 b1 b2 b3 : Int) (w : World) (hp : befB a1 a2 a3 b1 b2 b3 = true) : Calls Tryd.prog 12 #[(Go.Value.agg #[Go.Value.int Go.IntKind.i64 a1, Go.Value.int Go.IntKind.i64 a2, Go.Value.int Go.IntKind.i64 a3]), (Go.Value.agg #[Go.Value.int Go.IntKind.i64 b1, Go.Value.int Go.IntKind.i64 b2, Go.Value.int Go.IntKind.i64 b3])] w fun e w' => e = .returned (Go.Value.agg #[Go.Value.int Go.IntKind.i64 b1, Go.Value.int Go.IntKind.i64 b2, Go.Value.int Go.IntKind.i64 b3]) ∧ Below w.heap.size w w' := by
  have HCC : Hid (∀ W, Calls Tryd.prog 9 #[(Go.Value.agg #[Go.Value.int Go.IntKind.i64 a1, Go.Value.int Go.IntKind.i64 a2, Go.Value.int Go.IntKind.i64 a3]), (Go.Value.agg #[Go.Value.int Go.IntKind.i64 b1, Go.Value.int Go.IntKind.i64 b2, Go.Value.int Go.IntKind.i64 b3])] W fun e w' => e = .returned (.bool true) ∧ Below W.heap.size W w') := fun W => by rw [← hp]; exact Before_any _ _ _ _ _ _ W
  clear hp
  go_enter Tryd.func12, Tryd.ntmps12
  go_wp2_with fail
  refine (HCC.out _).mono ?_
  rintro e w1 ⟨rfl, hb1⟩
  obtain ⟨hx0, hx1, hx2, hb⟩ := W3_next hb1
  clear hb1
  have HX0 := Lib.hid hx0
  have HX1 := Lib.hid hx1
  have HX2 := Lib.hid hx2
  clear hx0 hx1 hx2
  go_wp2_with (first | (refine box_load (w.heap.size + 1) HX1.out rfl _ rfl rfl ?_) | (refine box_store (w.heap.size + 1 + 1) HX2.out rfl _ _ rfl rfl rfl ?_))
  exact bodyPost_ret (box_result rfl _ _ (w.heap.size + 1 + 1) rfl (HX2.out.set b1 b2 b3)) rfl ⟨rfl, below_setRow hb (by omega) _⟩

set_option maxRecDepth 100000 in
set_option maxHeartbeats 400000 in
theorem refLater_fst (a1 a2 a3 b1 b2 b3 : Int) (w : World) (hp : befB a1 a2 a3 b1 b2 b3 = false) : Calls Tryd.prog 12 #[(Go.Value.agg #[Go.Value.int Go.IntKind.i64 a1, Go.Value.int Go.IntKind.i64 a2, Go.Value.int Go.IntKind.i64 a3]), (Go.Value.agg #[Go.Value.int Go.IntKind.i64 b1, Go.Value.int Go.IntKind.i64 b2, Go.Value.int Go.IntKind.i64 b3])] w fun e w' => e = .returned (Go.Value.agg #[Go.Value.int Go.IntKind.i64 a1, Go.Value.int Go.IntKind.i64 a2, Go.Value.int Go.IntKind.i64 a3]) ∧ Below w.heap.size w w' := by
  have HCC : Hid (∀ W, Calls Tryd.prog 9 #[(Go.Value.agg #[Go.Value.int Go.IntKind.i64 a1, Go.Value.int Go.IntKind.i64 a2, Go.Value.int Go.IntKind.i64 a3]), (Go.Value.agg #[Go.Value.int Go.IntKind.i64 b1, Go.Value.int Go.IntKind.i64 b2, Go.Value.int Go.IntKind.i64 b3])] W fun e w' => e = .returned (.bool false) ∧ Below W.heap.size W w') := fun W => by rw [← hp]; exact Before_any _ _ _ _ _ _ W
  clear hp
  go_enter Tryd.func12, Tryd.ntmps12
  go_wp2_with fail
  refine (HCC.out _).mono ?_
  rintro e w1 ⟨rfl, hb1⟩
  obtain ⟨hx0, hx1, hx2, hb⟩ := W3_next hb1
  clear hb1
  have HX0 := Lib.hid hx0
  have HX1 := Lib.hid hx1
  have HX2 := Lib.hid hx2
  clear hx0 hx1 hx2
  go_wp2_with (first | (refine box_load w.heap.size HX0.out rfl _ rfl rfl ?_) | (refine box_store (w.heap.size + 1 + 1) HX2.out rfl _ _ rfl rfl rfl ?_))
  exact bodyPost_ret (box_result rfl _ _ (w.heap.size + 1 + 1) rfl (HX2.out.set a1 a2 a3)) rfl ⟨rfl, below_setRow hb (by omega) _⟩

set_option maxRecDepth 100000 in
set_option maxHeartbeats 400000 in
theorem refSooner_snd (a1 a2 a3 b1 b2 b3 : Int) (w : World) (hp : befB b1 b2 b3 a1 a2 a3 = true) : Calls Tryd.prog 14 #[(Go.Value.agg #[Go.Value.int Go.IntKind.i64 a1, Go.Value.int Go.IntKind.i64 a2, Go.Value.int Go.IntKind.i64 a3]), (Go.Value.agg #[Go.Value.int Go.IntKind.i64 b1, Go.Value.int Go.IntKind.i64 b2, Go.Value.int Go.IntKind.i64 b3])] w fun e w' => e = .returned (Go.Value.agg #[Go.Value.int Go.IntKind.i64 b1, Go.Value.int Go.IntKind.i64 b2, Go.Value.int Go.IntKind.i64 b3]) ∧ Below w.heap.size w w' := by
  have HCC : Hid (∀ W, Calls Tryd.prog 9 #[(Go.Value.agg #[Go.Value.int Go.IntKind.i64 b1, Go.Value.int Go.IntKind.i64 b2, Go.Value.int Go.IntKind.i64 b3]), (Go.Value.agg #[Go.Value.int Go.IntKind.i64 a1, Go.Value.int Go.IntKind.i64 a2, Go.Value.int Go.IntKind.i64 a3])] W fun e w' => e = .returned (.bool true) ∧ Below W.heap.size W w') := fun W => by rw [← hp]; exact Before_any _ _ _ _ _ _ W
  clear hp
  go_enter Tryd.func14, Tryd.ntmps14
  go_wp2_with fail
  refine (HCC.out _).mono ?_
  rintro e w1 ⟨rfl, hb1⟩
  obtain ⟨hx0, hx1, hx2, hb⟩ := W3_next hb1
  clear hb1
  have HX0 := Lib.hid hx0
  have HX1 := Lib.hid hx1
  have HX2 := Lib.hid hx2
  clear hx0 hx1 hx2
  go_wp2_with (first | (refine box_load (w.heap.size + 1) HX1.out rfl _ rfl rfl ?_) | (refine box_store (w.heap.size + 1 + 1) HX2.out rfl _ _ rfl rfl rfl ?_))
  exact bodyPost_ret (box_result rfl _ _ (w.heap.size + 1 + 1) rfl (HX2.out.set b1 b2 b3)) rfl ⟨rfl, below_setRow hb (by omega) _⟩

set_option maxRecDepth 100000 in
set_option maxHeartbeats 400000 in
theorem refSooner_fst (a1 a2 a3 b1 b2 b3 : Int) (w : World) (hp : befB b1 b2 b3 a1 a2 a3 = false) : Calls Tryd.prog 14 #[(Go.Value.agg #[Go.Value.int Go.IntKind.i64 a1, Go.Value.int Go.IntKind.i64 a2, Go.Value.int Go.IntKind.i64 a3]), (Go.Value.agg #[Go.Value.int Go.IntKind.i64 b1, Go.Value.int Go.IntKind.i64 b2, Go.Value.int Go.IntKind.i64 b3])] w fun e w' => e = .returned (Go.Value.agg #[Go.Value.int Go.IntKind.i64 a1, Go.Value.int Go.IntKind.i64 a2, Go.Value.int Go.IntKind.i64 a3]) ∧ Below w.heap.size w w' := by
  have HCC : Hid (∀ W, Calls Tryd.prog 9 #[(Go.Value.agg #[Go.Value.int Go.IntKind.i64 b1, Go.Value.int Go.IntKind.i64 b2, Go.Value.int Go.IntKind.i64 b3]), (Go.Value.agg #[Go.Value.int Go.IntKind.i64 a1, Go.Value.int Go.IntKind.i64 a2, Go.Value.int Go.IntKind.i64 a3])] W fun e w' => e = .returned (.bool false) ∧ Below W.heap.size W w') := fun W => by rw [← hp]; exact Before_any _ _ _ _ _ _ W
  clear hp
  go_enter Tryd.func14, Tryd.ntmps14
  go_wp2_with fail
  refine (HCC.out _).mono ?_
  rintro e w1 ⟨rfl, hb1⟩
  obtain ⟨hx0, hx1, hx2, hb⟩ := W3_next hb1
  clear hb1
  have HX0 := Lib.hid hx0
  have HX1 := Lib.hid hx1
  have HX2 := Lib.hid hx2
  clear hx0 hx1 hx2
  go_wp2_with (first | (refine box_load w.heap.size HX0.out rfl _ rfl rfl ?_) | (refine box_store (w.heap.size + 1 + 1) HX2.out rfl _ _ rfl rfl rfl ?_))
  exact bodyPost_ret (box_result rfl _ _ (w.heap.size + 1 + 1) rfl (HX2.out.set a1 a2 a3)) rfl ⟨rfl, below_setRow hb (by omega) _⟩

end Go.Proofs.YtccieoofjopbkaaDoor
