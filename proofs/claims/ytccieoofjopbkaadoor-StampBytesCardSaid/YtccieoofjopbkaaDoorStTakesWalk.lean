/-
  The walks of StampTakes and StampBytes.
-/
import Derived.Test.YtccieoofjopbkaaDoorStBytes
import Derived.Test.YtccieoofjopbkaaDoorStAwake
namespace Go.Proofs.YtccieoofjopbkaaDoor
open Go.RowKit

set_option maxRecDepth 100000 in
set_option maxHeartbeats 400000 in
theorem stampTakes_core (w : World) (s r : ByteArray) (x y z er : Int)
    (HA : Hid (∀ W, Calls Tryd.prog 19 #[.string s] W fun e w' => e = .returned (.tuple #[(Go.Value.agg #[Go.Value.int Go.IntKind.i64 x, Go.Value.int Go.IntKind.i64 y, Go.Value.int Go.IntKind.i64 z]), .string r, .int .i64 er]) ∧ Below W.heap.size W w'))
    (HB : Hid (∀ W, Calls Tryd.prog 21 #[.string s] W fun e w' => e = .returned (.tuple #[(Go.Value.agg #[Go.Value.int Go.IntKind.i64 x, Go.Value.int Go.IntKind.i64 y, Go.Value.int Go.IntKind.i64 z]), .string r, .int .i64 er]) ∧ Below W.heap.size W w')) :
    Calls Tryd.prog 5 #[.string s] w fun e w' => e = .returned (.bool true) ∧ Below w.heap.size w w' := by
  go_enter Tryd.func5, Tryd.ntmps5
  go_wp2_with fail
  refine (HA.out _).mono ?_
  rintro e w1 ⟨rfl, hb1⟩
  go_wp2_with fail
  refine (HB.out _).mono ?_
  rintro e w2 ⟨rfl, hb2⟩
  obtain ⟨hx, hb3⟩ := W1_next hb2
  have hb := hb1.trans (hb3.mono hb1.size)
  have HX := Lib.hid (hx.alloc (.cells #[.int .i64 x, .int .i64 y, .int .i64 z] 23))
  clear hb1 hb2 hb3 hx
  go_wp2_with (refine box_load w1.heap.size HX.out rfl _ rfl rfl ?_)
  refine (awake_any _).mono ?_
  rintro e w3 ⟨rfl, hb3⟩
  have hbb := hb.trans ((((Below.refl _ _).alloc (Nat.le_refl _) _).trans (hb3.mono (by simp))).mono hb.size)
  clear hb hb3
  go_wp2_with fail
  go_ret
  exact ⟨rfl, hbb⟩

theorem stampTakes_walk (w : World) (s : ByteArray) (hs : s.size ≤ 140737488351232) : Calls Tryd.prog 5 #[.string s] w fun e w' => e = .returned (.bool true) ∧ Below w.heap.size w w' :=
  stampTakes_core w s _ _ _ _ _ (fun W => stTake_any s W (by omega)) (fun W => stRefTake_any s W (by omega))

set_option maxRecDepth 100000 in
set_option maxHeartbeats 400000 in
theorem stampBytes_bad (w : World) (a b c : Int) (more : ByteArray) (h : rightB a b c = false) :
    Calls Tryd.prog 4 #[(Go.Value.agg #[Go.Value.int Go.IntKind.i64 a, Go.Value.int Go.IntKind.i64 b, Go.Value.int Go.IntKind.i64 c]), .string more] w fun e w' => e = .returned (.bool true) ∧ Below w.heap.size w w' := by
  have HA : Hid (∀ W, Calls Tryd.prog 18 #[(Go.Value.agg #[Go.Value.int Go.IntKind.i64 a, Go.Value.int Go.IntKind.i64 b, Go.Value.int Go.IntKind.i64 c])] W fun e w' => e = .returned (.tuple #[.string { data := #[] }, .int .i64 1]) ∧ Below W.heap.size W w') := fun W => Bytes_bad a b c W h
  have HR : Hid (∀ W, Calls Tryd.prog 16 #[(Go.Value.agg #[Go.Value.int Go.IntKind.i64 a, Go.Value.int Go.IntKind.i64 b, Go.Value.int Go.IntKind.i64 c])] W fun e w' => e = .returned (.bool false) ∧ Below W.heap.size W w') := fun W => by rw [← h]; exact refRight_any _ _ _ W
  clear h
  go_enter Tryd.func4, Tryd.ntmps4
  go_wp2_with fail
  refine (HA.out _).mono ?_
  rintro e w1 ⟨rfl, hb1⟩
  obtain ⟨hx, hb⟩ := W1_next hb1
  have HX := Lib.hid hx
  clear hb1 hx
  go_wp2_with (refine box_load w.heap.size HX.out rfl _ rfl rfl ?_)
  refine (HR.out _).mono ?_
  rintro e w2 ⟨rfl, hb2⟩
  have hbb := hb.trans (hb2.mono hb.size)
  clear hb hb2
  go_wp2_with fail
  refine (awake_any _).mono ?_
  rintro e w3 ⟨rfl, hb3⟩
  have hb := hbb.trans (hb3.mono hbb.size)
  clear hbb hb3
  go_wp2_with fail
  go_ret
  exact ⟨rfl, hb⟩

set_option maxRecDepth 100000 in
set_option maxHeartbeats 400000 in
theorem stampBytes_core (w : World) (a b c : Int) (t more : ByteArray) (hsz : t.size + more.size ≤ 9223372036854775807)
    (HA : Hid (∀ W, Calls Tryd.prog 18 #[(Go.Value.agg #[Go.Value.int Go.IntKind.i64 a, Go.Value.int Go.IntKind.i64 b, Go.Value.int Go.IntKind.i64 c])] W fun e w' => e = .returned (.tuple #[.string t, .int .i64 0]) ∧ Below W.heap.size W w'))
    (HR : Hid (∀ W, Calls Tryd.prog 16 #[(Go.Value.agg #[Go.Value.int Go.IntKind.i64 a, Go.Value.int Go.IntKind.i64 b, Go.Value.int Go.IntKind.i64 c])] W fun e w' => e = .returned (.bool true) ∧ Below W.heap.size W w'))
    (HT : Hid (∀ W, Calls Tryd.prog 19 #[.string (t ++ more)] W fun e w' => e = .returned (.tuple #[(Go.Value.agg #[Go.Value.int Go.IntKind.i64 a, Go.Value.int Go.IntKind.i64 b, Go.Value.int Go.IntKind.i64 c]), .string more, .int .i64 0]) ∧ Below W.heap.size W w'))
    (HB : Hid (∀ W, Calls Tryd.prog 20 #[(Go.Value.agg #[Go.Value.int Go.IntKind.i64 a, Go.Value.int Go.IntKind.i64 b, Go.Value.int Go.IntKind.i64 c])] W fun e w' => e = .returned (.string t) ∧ Below W.heap.size W w')) :
    Calls Tryd.prog 4 #[(Go.Value.agg #[Go.Value.int Go.IntKind.i64 a, Go.Value.int Go.IntKind.i64 b, Go.Value.int Go.IntKind.i64 c]), .string more] w fun e w' => e = .returned (.bool true) ∧ Below w.heap.size w w' := by
  go_enter Tryd.func4, Tryd.ntmps4
  go_wp2_with fail
  refine (HA.out _).mono ?_
  rintro e w1 ⟨rfl, hb1⟩
  obtain ⟨hx, hb⟩ := W1_next hb1
  have HX := Lib.hid hx
  clear hb1 hx
  go_wp2_with (refine box_load w.heap.size HX.out rfl _ rfl rfl ?_)
  refine (HR.out _).mono ?_
  rintro e w2 ⟨rfl, hb2⟩
  have hbb := hb.trans (hb2.mono hb.size)
  have HX2 := Lib.hid (HX.out.over hb2)
  clear hb hb2 HX
  go_wp2_with fail
  refine (HT.out _).mono ?_
  rintro e w3 ⟨rfl, hb3⟩
  have hb := hbb.trans (hb3.mono hbb.size)
  have HX3 := Lib.hid ((HX2.out.over hb3).alloc (.cells #[.int .i64 a, .int .i64 b, .int .i64 c] 23))
  clear hbb hb3 HX2
  go_wp2_with (refine box_load w.heap.size HX3.out rfl _ rfl rfl ?_)
  refine (HB.out _).mono ?_
  rintro e w4 ⟨rfl, hb4⟩
  obtain ⟨hy, hb5⟩ := W1_next hb4
  have hbb := hb.trans (hb5.mono hb.size)
  have HX4 := Lib.hid (HX3.out.over hb4)
  have HY := Lib.hid hy
  clear hb hb4 hb5 HX3 hy
  obtain ⟨x1, x2, x3⟩ := HX4.out.cell
  obtain ⟨y1, y2, y3⟩ := HY.out.cell
  go_wp2_with fail
  refine (awake_any _).mono ?_
  rintro e w5 ⟨rfl, hb5⟩
  have hb := hbb.trans (hb5.mono hbb.size)
  clear hbb hb5
  go_wp2_with fail
  go_ret
  exact ⟨rfl, hb⟩

theorem stampBytes_walk (w : World) (a b c : Int) (more : ByteArray) (hm : more.size ≤ 140737488351232) :
    Calls Tryd.prog 4 #[(Go.Value.agg #[Go.Value.int Go.IntKind.i64 a, Go.Value.int Go.IntKind.i64 b, Go.Value.int Go.IntKind.i64 c]), .string more] w fun e w' => e = .returned (.bool true) ∧ Below w.heap.size w w' := by
  cases h : rightB a b c
  · exact stampBytes_bad w a b c more h
  · have hz := bytS_size h
    refine stampBytes_core w a b c (bytS a b c) more (by omega) (fun W => Bytes_any a b c W h) (fun W => by rw [← h]; exact refRight_any _ _ _ W) (fun W => ?_) (fun W => refBytes_any a b c W h)
    have hap : (bytS a b c ++ more).size = (bytS a b c).size + more.size := ByteArray.size_append
    have := stTake_any (bytS a b c ++ more) W (by omega)
    unfold stkV at this
    rw [stk_back h more] at this
    exact this

end Go.Proofs.YtccieoofjopbkaaDoor
