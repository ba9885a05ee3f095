/-
  The fixed answer; two stamps in memory.
-/
import Derived.Test.YtccieoofjopbkaaDoorStCalm
import Derived.Test.YtccieoofjopbkaaDoorStShowA
import Derived.Test.YtccieoofjopbkaaDoorStLater
namespace Go.Proofs.YtccieoofjopbkaaDoor
open Go.RowKit

def Two (w : World) (h g : Nat) (a1 a2 a3 b1 b2 b3 : Int) (W : World) : Prop := Below w.heap.size w W ∧ Box W h a1 a2 a3 ∧ Box W g b1 b2 b3
theorem Two.next {w W W' : World} {h g : Nat} {a1 a2 a3 b1 b2 b3 : Int} (H : Two w h g a1 a2 a3 b1 b2 b3 W) (hb : Below W.heap.size W W') : Two w h g a1 a2 a3 b1 b2 b3 W' :=
  ⟨H.1.trans (hb.mono H.1.size), H.2.1.over hb, H.2.2.over hb⟩

theorem show502 : decS 5 ++ { data := #[46] } ++ decS 0 ++ { data := #[46] } ++ decS 2 = { data := #[53, 46, 48, 46, 50] } := by
  simp only [decS, Lib.decDigits_one (show 5 < 10 by omega), Lib.decDigits_one (show 0 < 10 by omega), Lib.decDigits_one (show 2 < 10 by omega)]
  rfl
set_option maxRecDepth 100000 in
set_option maxHeartbeats 400000 in
theorem awake_any (w : World) : Calls Tryd.prog 17 #[] w fun e w' => e = .returned (.bool true) ∧ Below w.heap.size w w' := by
  have HR : Hid (∀ W, Calls Tryd.prog 15 #[(Go.Value.agg #[Go.Value.int Go.IntKind.i64 0, Go.Value.int Go.IntKind.i64 0, Go.Value.int Go.IntKind.i64 0])] W fun e w' => e = .returned (.bool true) ∧ Below W.heap.size W w') := fun W => Right_any 0 0 0 W
  have HS : Hid (∀ W, Calls Tryd.prog 22 #[(Go.Value.agg #[Go.Value.int Go.IntKind.i64 5, Go.Value.int Go.IntKind.i64 0, Go.Value.int Go.IntKind.i64 2])] W fun e w' => e = .returned (.string { data := #[53, 46, 48, 46, 50] }) ∧ Below W.heap.size W w') := fun W => by
    have := Show_small 5 0 2 (by omega) (by omega) (by omega) W
    rw [show502] at this
    exact this
  have HC : Hid (∀ W, Calls Tryd.prog 10 #[(Go.Value.agg #[Go.Value.int Go.IntKind.i64 5, Go.Value.int Go.IntKind.i64 1, Go.Value.int Go.IntKind.i64 0]), (Go.Value.agg #[Go.Value.int Go.IntKind.i64 5, Go.Value.int Go.IntKind.i64 0, Go.Value.int Go.IntKind.i64 9])] W fun e w' => e = .returned (.int .i64 1) ∧ Below W.heap.size W w') := fun W => Compare_any 5 1 0 5 0 9 W
  go_enter Tryd.func17, Tryd.ntmps17
  go_wp2_with fail
  refine (HR.out _).mono ?_
  rintro e w1 ⟨rfl, hb1⟩
  go_wp2_with fail
  refine (HS.out _).mono ?_
  rintro e w2 ⟨rfl, hb2⟩
  have hb := hb1.trans (hb2.mono hb1.size)
  clear hb1 hb2
  go_wp2_with fail
  refine (HC.out _).mono ?_
  rintro e w3 ⟨rfl, hb3⟩
  have hbb := hb.trans (hb3.mono hb.size)
  clear hb hb3
  go_wp2_with fail
  go_ret
  exact ⟨rfl, hbb⟩

end Go.Proofs.YtccieoofjopbkaaDoor
