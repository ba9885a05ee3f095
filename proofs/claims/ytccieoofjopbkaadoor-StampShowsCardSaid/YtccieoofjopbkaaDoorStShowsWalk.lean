/-
  The walks of StampShows and StampReads.
-/
import Derived.Test.YtccieoofjopbkaaDoorStReadAll
import Derived.Test.YtccieoofjopbkaaDoorStAwake
namespace Go.Proofs.YtccieoofjopbkaaDoor
open Go.RowKit

set_option maxRecDepth 100000 in
set_option maxHeartbeats 400000 in
theorem stampShows_bad (w : World) (a b c : Int) (h : rightB a b c = false) :
    Calls Tryd.prog 6 #[(Go.Value.agg #[Go.Value.int Go.IntKind.i64 a, Go.Value.int Go.IntKind.i64 b, Go.Value.int Go.IntKind.i64 c])] w fun e w' => e = .returned (.bool true) ∧ Below w.heap.size w w' := by
  have HS : Hid (∀ W, Calls Tryd.prog 22 #[(Go.Value.agg #[Go.Value.int Go.IntKind.i64 a, Go.Value.int Go.IntKind.i64 b, Go.Value.int Go.IntKind.i64 c])] W fun e w' => e = .returned (.string { data := #[] }) ∧ Below W.heap.size W w') := fun W => Show_bad a b c W h
  have HR : Hid (∀ W, Calls Tryd.prog 16 #[(Go.Value.agg #[Go.Value.int Go.IntKind.i64 a, Go.Value.int Go.IntKind.i64 b, Go.Value.int Go.IntKind.i64 c])] W fun e w' => e = .returned (.bool false) ∧ Below W.heap.size W w') := fun W => by rw [← h]; exact refRight_any _ _ _ W
  clear h
  go_enter Tryd.func6, Tryd.ntmps6
  go_wp2_with fail
  refine (HS.out _).mono ?_
  rintro e w1 ⟨rfl, hb1⟩
  obtain ⟨hx, hb⟩ := W1_next hb1
  have HX := Lib.hid hx
  clear hb1 hx
  go_wp2_with (refine box_load w.heap.size HX.out rfl _ rfl rfl ?_)
  refine (HR.out _).mono ?_
  rintro e w2 ⟨rfl, hb2⟩
  have hbb := hb.trans (hb2.mono hb.size)
  clear hb hb2
  go_wp2_with fail
  refine (awake_any _).mono ?_
  rintro e w3 ⟨rfl, hb3⟩
  have hb := hbb.trans (hb3.mono hbb.size)
  clear hbb hb3
  go_wp2_with fail
  go_ret
  exact ⟨rfl, hb⟩

set_option maxRecDepth 100000 in
set_option maxHeartbeats 400000 in
theorem stampShows_core (w : World) (a b c : Int) (t : ByteArray) (hT : StTab w)
    (HS : Hid (∀ W, StTab W → Calls Tryd.prog 22 #[(Go.Value.agg #[Go.Value.int Go.IntKind.i64 a, Go.Value.int Go.IntKind.i64 b, Go.Value.int Go.IntKind.i64 c])] W fun e w' => e = .returned (.string t) ∧ Below W.heap.size W w'))
    (HR : Hid (∀ W, Calls Tryd.prog 16 #[(Go.Value.agg #[Go.Value.int Go.IntKind.i64 a, Go.Value.int Go.IntKind.i64 b, Go.Value.int Go.IntKind.i64 c])] W fun e w' => e = .returned (.bool true) ∧ Below W.heap.size W w'))
    (HRD : Hid (∀ W, StTab W → Calls Tryd.prog 23 #[.string t] W fun e w' => e = .returned (.tuple #[(Go.Value.agg #[Go.Value.int Go.IntKind.i64 a, Go.Value.int Go.IntKind.i64 b, Go.Value.int Go.IntKind.i64 c]), .int .i64 0]) ∧ Below W.heap.size W w'))
    (HRS : Hid (∀ W, Calls Tryd.prog 24 #[(Go.Value.agg #[Go.Value.int Go.IntKind.i64 a, Go.Value.int Go.IntKind.i64 b, Go.Value.int Go.IntKind.i64 c])] W fun e w' => e = .returned (.string t) ∧ Below W.heap.size W w')) :
    Calls Tryd.prog 6 #[(Go.Value.agg #[Go.Value.int Go.IntKind.i64 a, Go.Value.int Go.IntKind.i64 b, Go.Value.int Go.IntKind.i64 c])] w fun e w' => e = .returned (.bool true) ∧ Below w.heap.size w w' := by
  have HT := Lib.hid hT
  clear hT
  go_enter Tryd.func6, Tryd.ntmps6
  go_wp2_with fail
  refine (HS.out _ (HT.out.alloc _)).mono ?_
  rintro e w1 ⟨rfl, hb1⟩
  obtain ⟨hx, hb⟩ := W1_next hb1
  have HX := Lib.hid hx
  clear hb1 hx
  go_wp2_with (refine box_load w.heap.size HX.out rfl _ rfl rfl ?_)
  refine (HR.out _).mono ?_
  rintro e w2 ⟨rfl, hb2⟩
  have hbb := hb.trans (hb2.mono hb.size)
  have HX2 := Lib.hid (HX.out.over hb2)
  have HT2 := Lib.hid (HT.out.next hbb)
  clear hb hb2 HX
  go_wp2_with fail
  refine (HRD.out _ HT2.out).mono ?_
  rintro e w3 ⟨rfl, hb3⟩
  have hb := hbb.trans (hb3.mono hbb.size)
  have HX3 := Lib.hid ((HX2.out.over hb3).alloc (.cells #[.int .i64 a, .int .i64 b, .int .i64 c] 23))
  clear hbb hb3 HX2 HT2
  go_wp2_with (refine box_load w.heap.size HX3.out rfl _ rfl rfl ?_)
  refine (HRS.out _).mono ?_
  rintro e w4 ⟨rfl, hb4⟩
  obtain ⟨hy, hb5⟩ := W1_next hb4
  have hbb := hb.trans (hb5.mono hb.size)
  have HX4 := Lib.hid (HX3.out.over hb4)
  have HY := Lib.hid hy
  clear hb hb4 hb5 HX3 hy
  obtain ⟨x1, x2, x3⟩ := HX4.out.cell
  obtain ⟨y1, y2, y3⟩ := HY.out.cell
  go_wp2_with fail
  refine (awake_any _).mono ?_
  rintro e w5 ⟨rfl, hb5⟩
  have hb := hbb.trans (hb5.mono hbb.size)
  clear hbb hb5
  go_wp2_with fail
  go_ret
  exact ⟨rfl, hb⟩

theorem stampShows_walk (w : World) (hT : StTab w) (a b c : Int) :
    Calls Tryd.prog 6 #[(Go.Value.agg #[Go.Value.int Go.IntKind.i64 a, Go.Value.int Go.IntKind.i64 b, Go.Value.int Go.IntKind.i64 c])] w fun e w' => e = .returned (.bool true) ∧ Below w.heap.size w w' := by
  cases h : rightB a b c
  · exact stampShows_bad w a b c h
  · exact stampShows_core w a b c (showS a b c) hT (fun W hW => Show_any a b c W hW h) (fun W => by rw [← h]; exact refRight_any _ _ _ W) (fun W hW => Read_yes a b c W hW h) (fun W => refShow_any a b c W h)

set_option maxRecDepth 100000 in
set_option maxHeartbeats 400000 in
theorem stampReads_core (w : World) (s : ByteArray) (x y z er : Int) (ok : Bool) (hT : StTab w) (hok : (ok = true ∧ er = 0) ∨ (ok = false ∧ er = 3 ∧ x = 0 ∧ y = 0 ∧ z = 0))
    (HA : Hid (∀ W, StTab W → Calls Tryd.prog 23 #[.string s] W fun e w' => e = .returned (.tuple #[(Go.Value.agg #[Go.Value.int Go.IntKind.i64 x, Go.Value.int Go.IntKind.i64 y, Go.Value.int Go.IntKind.i64 z]), .int .i64 er]) ∧ Below W.heap.size W w'))
    (HB : Hid (∀ W, Calls Tryd.prog 25 #[.string s] W fun e w' => e = .returned (.tuple #[(Go.Value.agg #[Go.Value.int Go.IntKind.i64 x, Go.Value.int Go.IntKind.i64 y, Go.Value.int Go.IntKind.i64 z]), .bool ok]) ∧ Below W.heap.size W w')) :
    Calls Tryd.prog 7 #[.string s] w fun e w' => e = .returned (.bool true) ∧ Below w.heap.size w w' := by
  have HT := Lib.hid hT
  clear hT
  rcases hok with ⟨rfl, rfl⟩ | ⟨rfl, rfl, rfl, rfl, rfl⟩
  · go_enter Tryd.func7, Tryd.ntmps7
    go_wp2_with fail
    refine (HA.out _ HT.out).mono ?_
    rintro e w1 ⟨rfl, hb1⟩
    go_wp2_with fail
    refine (HB.out _).mono ?_
    rintro e w2 ⟨rfl, hb2⟩
    obtain ⟨hx, hb3⟩ := W1_next hb2
    have hb := hb1.trans (hb3.mono hb1.size)
    have HX := Lib.hid (hx.alloc (.cells #[.int .i64 x, .int .i64 y, .int .i64 z] 23))
    clear hb1 hb2 hb3 hx
    go_wp2_with (refine box_load w1.heap.size HX.out rfl _ rfl rfl ?_)
    refine (awake_any _).mono ?_
    rintro e w3 ⟨rfl, hb3⟩
    have hbb := hb.trans ((((Below.refl _ _).alloc (Nat.le_refl _) _).trans (hb3.mono (by simp))).mono hb.size)
    clear hb hb3
    go_wp2_with fail
    go_ret
    exact ⟨rfl, hbb⟩
  · go_enter Tryd.func7, Tryd.ntmps7
    go_wp2_with fail
    refine (HA.out _ HT.out).mono ?_
    rintro e w1 ⟨rfl, hb1⟩
    go_wp2_with fail
    refine (HB.out _).mono ?_
    rintro e w2 ⟨rfl, hb2⟩
    obtain ⟨hx, hb3⟩ := W1_next hb2
    have hb := hb1.trans (hb3.mono hb1.size)
    have HX := Lib.hid (hx.alloc (.cells #[.int .i64 0, .int .i64 0, .int .i64 0] 23))
    clear hb1 hb2 hb3 hx
    go_wp2_with (refine box_load w1.heap.size HX.out rfl _ rfl rfl ?_)
    refine (awake_any _).mono ?_
    rintro e w3 ⟨rfl, hb3⟩
    have hbb := hb.trans ((((Below.refl _ _).alloc (Nat.le_refl _) _).trans (hb3.mono (by simp))).mono hb.size)
    clear hb hb3
    go_wp2_with fail
    go_ret
    exact ⟨rfl, hbb⟩

theorem stampReads_walk (w : World) (hT : StTab w) (s : ByteArray) (hs : s.size ≤ 1048576) :
    Calls Tryd.prog 7 #[.string s] w fun e w' => e = .returned (.bool true) ∧ Below w.heap.size w w' := by
  by_cases h : ∃ a b c, rightB a b c = true ∧ s = showS a b c
  · obtain ⟨a, b, c, hr, rfl⟩ := h
    exact stampReads_core w _ a b c 0 true hT (.inl ⟨rfl, rfl⟩) (fun W hW => Read_yes a b c W hW hr) (fun W => refRead_yes a b c W hr)
  · have hn : ∀ a b c, rightB a b c = true → s ≠ showS a b c := fun a b c hr e => h ⟨a, b, c, hr, e⟩
    exact stampReads_core w s 0 0 0 3 false hT (.inr ⟨rfl, rfl, rfl, rfl, rfl⟩) (fun W hW => Read_no s W hW hs hn) (fun W => refRead_no s W hs hn)

end Go.Proofs.YtccieoofjopbkaaDoor
