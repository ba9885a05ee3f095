/-
  The contract of Read.
-/
import Derived.Test.YtccieoofjopbkaaDoorStParsed
import Derived.Test.YtccieoofjopbkaaDoorStDigits
set_option linter.unusedVariables false
namespace Go.Proofs.YtccieoofjopbkaaDoor
open Go.RowKit

set_option maxRecDepth 100000 in
set_option maxHeartbeats 400000 in
theorem Read_false (s : ByteArray) (x y z : Int) (w : World)
    (HP : Hid (∀ W, StTab W → Calls Tryd.prog 35 #[.string s] W fun e w' => e = .returned (.tuple #[(Go.Value.agg #[Go.Value.int Go.IntKind.i64 x, Go.Value.int Go.IntKind.i64 y, Go.Value.int Go.IntKind.i64 z]), .bool false]) ∧ Below W.heap.size W w')) (hT : StTab w) :
    Calls Tryd.prog 23 #[.string s] w fun e w' => e = .returned (.tuple #[(Go.Value.agg #[Go.Value.int Go.IntKind.i64 0, Go.Value.int Go.IntKind.i64 0, Go.Value.int Go.IntKind.i64 0]), .int .i64 3]) ∧ Below w.heap.size w w' := by
  have HT := Lib.hid hT
  clear hT
  go_enter Tryd.func23, Tryd.ntmps23
  go_wp2_with fail
  refine (HP.out _ (HT.out.alloc _)).mono ?_
  rintro e w1 ⟨rfl, hb1⟩
  obtain ⟨hx, hb⟩ := W1_next hb1
  have HX := Lib.hid (hx.alloc (.cells #[.int .i64 x, .int .i64 y, .int .i64 z] 23))
  have hbb : Below w.heap.size w (w1.alloc (.cells #[.int .i64 x, .int .i64 y, .int .i64 z] 23)) := hb.alloc hb.size _
  clear hb1 hx hb
  go_wp2_with (refine box_store w.heap.size HX.out rfl _ _ rfl rfl rfl ?_)
  exact bodyPost_ret (box_result2 rfl _ _ w.heap.size rfl (HX.out.set 0 0 0)) rfl ⟨rfl, below_setRow hbb (Nat.le_refl _) _⟩

set_option maxRecDepth 100000 in
set_option maxHeartbeats 400000 in
theorem Read_true (s t : ByteArray) (x y z : Int) (w : World) (same : Bool) (hsame : (t.toList == s.toList) = same) (hne : same = false → ¬ t.toList = s.toList) (heq : same = true → t = s)
    (HP : Hid (∀ W, StTab W → Calls Tryd.prog 35 #[.string s] W fun e w' => e = .returned (.tuple #[(Go.Value.agg #[Go.Value.int Go.IntKind.i64 x, Go.Value.int Go.IntKind.i64 y, Go.Value.int Go.IntKind.i64 z]), .bool true]) ∧ Below W.heap.size W w'))
    (HS : Hid (∀ W, StTab W → Calls Tryd.prog 22 #[(Go.Value.agg #[Go.Value.int Go.IntKind.i64 x, Go.Value.int Go.IntKind.i64 y, Go.Value.int Go.IntKind.i64 z])] W fun e w' => e = .returned (.string t) ∧ Below W.heap.size W w')) (hT : StTab w)
    (R : Value) (hR : R = if same then .tuple #[(Go.Value.agg #[Go.Value.int Go.IntKind.i64 x, Go.Value.int Go.IntKind.i64 y, Go.Value.int Go.IntKind.i64 z]), .int .i64 0] else .tuple #[(Go.Value.agg #[Go.Value.int Go.IntKind.i64 0, Go.Value.int Go.IntKind.i64 0, Go.Value.int Go.IntKind.i64 0]), .int .i64 3]) :
    Calls Tryd.prog 23 #[.string s] w fun e w' => e = .returned R ∧ Below w.heap.size w w' := by
  have HT := Lib.hid hT
  clear hT
  cases same
  · have h1 := hne rfl
    have HR : Hid (R = .tuple #[(Go.Value.agg #[Go.Value.int Go.IntKind.i64 0, Go.Value.int Go.IntKind.i64 0, Go.Value.int Go.IntKind.i64 0]), .int .i64 3]) := hR
    clear hne heq hR
    go_enter Tryd.func23, Tryd.ntmps23
    go_wp2_with fail
    refine (HP.out _ (HT.out.alloc _)).mono ?_
    rintro e w1 ⟨rfl, hb1⟩
    obtain ⟨hx, hb⟩ := W1_next hb1
    have HT1 := Lib.hid (HT.out.next hb)
    have HX := Lib.hid hx
    clear hb1 hx
    go_wp2_with fail
    refine (HS.out _ (HT1.out.alloc _)).mono ?_
    rintro e w2 ⟨rfl, hb2⟩
    obtain ⟨hy, hb3⟩ := W1_next hb2
    have HX2 := Lib.hid (HX.out.over hb3)
    have hbb := hb.trans (hb3.mono hb.size)
    clear hb hb2 hb3 hy HX
    go_wp2_with (refine box_store w.heap.size HX2.out rfl _ _ rfl rfl rfl ?_)
    exact bodyPost_ret (box_result2 rfl _ _ w.heap.size rfl (HX2.out.set 0 0 0)) rfl ⟨by rw [HR.out]; rfl, below_setRow hbb (Nat.le_refl _) _⟩
  · obtain rfl := heq rfl
    have HR : Hid (R = .tuple #[(Go.Value.agg #[Go.Value.int Go.IntKind.i64 x, Go.Value.int Go.IntKind.i64 y, Go.Value.int Go.IntKind.i64 z]), .int .i64 0]) := hR
    clear hne heq hR hsame
    go_enter Tryd.func23, Tryd.ntmps23
    go_wp2_with fail
    refine (HP.out _ (HT.out.alloc _)).mono ?_
    rintro e w1 ⟨rfl, hb1⟩
    obtain ⟨hx, hb⟩ := W1_next hb1
    have HT1 := Lib.hid (HT.out.next hb)
    have HX := Lib.hid hx
    clear hb1 hx
    go_wp2_with fail
    refine (HS.out _ (HT1.out.alloc _)).mono ?_
    rintro e w2 ⟨rfl, hb2⟩
    obtain ⟨hy, hb3⟩ := W1_next hb2
    have HX2 := Lib.hid (HX.out.over hb3)
    have HY2 := Lib.hid hy
    have hbb := hb.trans (hb3.mono hb.size)
    clear hb hb2 hb3 hy HX
    go_wp2_with (first | (refine box_load w1.heap.size HY2.out rfl _ rfl rfl ?_) | (refine box_store w.heap.size HX2.out rfl _ _ rfl rfl rfl ?_))
    exact bodyPost_ret (box_result2 rfl _ _ w.heap.size rfl (HX2.out.set x y z)) rfl ⟨by rw [HR.out]; rfl, below_setRow hbb (Nat.le_refl _) _⟩

end Go.Proofs.YtccieoofjopbkaaDoor
