/-
  The walk of SpanWholes, over what it asks of package span.
-/
import Derived.Test.YtpmellfgmlgknaaDoorSpForms
set_option linter.unusedVariables false
namespace Go.Proofs.YtpmellfgmlgknaaDoor
open Go.RowKit

set_option maxRecDepth 100000 in
set_option maxHeartbeats 1000000 in
theorem spanWholes_core (HF : FSAwake) (HW : FSWhole) (w : World) (hT : UtfAt w) (v : Value) (l : List Spn) (hv : Spans w v l) :
    Calls Tryd.prog 6 #[v] w fun e w' => e = .returned (.bool true) ∧ Below w.heap.size w w' := by
  have H1 : Hid (∀ W, Below w.heap.size w W → Calls Tryd.prog 14 #[] W fun e w' => e = .returned (.bool true) ∧ Below W.heap.size W w') := fun W hW => HF W (hT.next hW)
  obtain ⟨p, hp⟩ : ∃ p, p = wholeB l := ⟨_, rfl⟩
  have H2 : Hid (∀ W, Below w.heap.size w W → Calls Tryd.prog 21 #[v] W fun e w' => e = .returned (.bool p) ∧ Below W.heap.size W w') := fun W hW => by rw [hp]; exact HW W v l (hT.next hW) (hv.next hW)
  have H3 : Hid (∀ W, Below w.heap.size w W → Calls Tryd.prog 22 #[v] W fun e w' => e = .returned (.bool p) ∧ Below W.heap.size W w') := fun W hW => by rw [hp]; exact spRefWhole_any (hv.next hW)
  clear hp
  obtain ⟨ao, n, cap, rfl, hl, hle, hmx, hn, hrow⟩ := hv.opened
  clear HF HW hT hv hrow hl hle hmx
  by_cases h100 : 100 < n
  · have d1 : decide (100 < n) = true := decide_eq_true h100
    go_enter Tryd.func6, Tryd.ntmps6
    go_wp2_with fail
    refine (H1.out _ (Below.refl _ _)).mono ?_
    rintro e w1 ⟨rfl, hb1⟩
    go_wp2_with fail
    go_ret
    exact ⟨rfl, hb1⟩
  · have d1 : decide (100 < n) = false := decide_eq_false h100
    go_enter Tryd.func6, Tryd.ntmps6
    go_wp2_with fail
    refine (H2.out _ (Below.refl _ _)).mono ?_
    rintro e w1 ⟨rfl, hb1⟩
    have B1 := Lib.hid hb1
    clear hb1
    go_wp2_with fail
    refine (H3.out _ B1.out).mono ?_
    rintro e w2 ⟨rfl, hb2⟩
    have B2 := Lib.hid (B1.out.trans (hb2.mono B1.out.size))
    clear hb2 B1
    go_wp2_with fail
    refine (H1.out _ B2.out).mono ?_
    rintro e w3 ⟨rfl, hb3⟩
    go_wp2_with fail
    go_ret
    exact ⟨rfl, B2.out.trans (hb3.mono B2.out.size)⟩

end Go.Proofs.YtpmellfgmlgknaaDoor
