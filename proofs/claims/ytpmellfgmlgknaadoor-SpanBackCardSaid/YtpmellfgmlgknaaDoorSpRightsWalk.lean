/-
  The walk of SpanRights, over what it asks of package span.
-/
import Derived.Test.YtpmellfgmlgknaaDoorSpForms
set_option linter.unusedVariables false
namespace Go.Proofs.YtpmellfgmlgknaaDoor
open Go.RowKit

set_option maxRecDepth 100000 in
set_option maxHeartbeats 1000000 in
theorem spanRights_core (HF : FSAwake) (HR : FSRight) (HH : FSHas) (w : World) (hT : UtfAt w) (a b k : ByteArray) :
    Calls Tryd.prog 3 #[(Go.Value.agg #[Go.Value.string a, Go.Value.string b]), .string k] w fun e w' => e = .returned (.bool true) ∧ Below w.heap.size w w' := by
  obtain ⟨p, hp⟩ : ∃ p, p = spR (a, b) := ⟨_, rfl⟩
  obtain ⟨q, hq⟩ : ∃ q, q = spHas (a, b) k := ⟨_, rfl⟩
  have H1 : Hid (∀ W, Below w.heap.size w W → Calls Tryd.prog 14 #[] W fun e w' => e = .returned (.bool true) ∧ Below W.heap.size W w') := fun W hW => HF W (hT.next hW)
  have H2 : Hid (∀ W, Below w.heap.size w W → Calls Tryd.prog 10 #[(Go.Value.agg #[Go.Value.string a, Go.Value.string b])] W fun e w' => e = .returned (.bool p) ∧ Below W.heap.size W w') := fun W hW => by rw [hp]; exact HR W a b (hT.next hW)
  have H3 : Hid (∀ W, Below w.heap.size w W → Calls Tryd.prog 11 #[(Go.Value.agg #[Go.Value.string a, Go.Value.string b])] W fun e w' => e = .returned (.bool p) ∧ Below W.heap.size W w') := fun W hW => by rw [hp]; exact spRefRight_any a b W
  have H4 : Hid (∀ W, Below w.heap.size w W → Calls Tryd.prog 12 #[(Go.Value.agg #[Go.Value.string a, Go.Value.string b]), .string k] W fun e w' => e = .returned (.bool q) ∧ Below W.heap.size W w') := fun W hW => by rw [hq]; exact HH W a b k (hT.next hW)
  have H5 : Hid (∀ W, Below w.heap.size w W → Calls Tryd.prog 13 #[(Go.Value.agg #[Go.Value.string a, Go.Value.string b]), .string k] W fun e w' => e = .returned (.bool q) ∧ Below W.heap.size W w') := fun W hW => by rw [hq]; exact spRefHas_any a b k W
  clear HF HR HH hT hp hq
  go_enter Tryd.func3, Tryd.ntmps3
  go_upto_region 1 with (fail)
  have H0 := Lib.hid (PW.new w a b)
  generalize hw0 : w.alloc _ = w0 at H0 ⊢
  clear hw0
  refine wp_region_calm (PW w a b) (by kernel_rfl) (by kernel_rfl) H0.out.drew ?_
  repeat ((with_reducible refine wpQuiet_step (fun K hK => ?_)); go_simp; first | (refine hK _ ?_; clear hK K) | (apply Exists.intro; refine ⟨fun wc hwc => ?_, hK _ ?_⟩; (focus (first | (first | (go_at_call 10; refine (H2.out _ hwc.1).mono ?_; rintro e w1 ⟨rfl, hb1⟩; exact ⟨rfl, hwc.next hb1⟩) | (go_at_call 11; refine (H3.out _ hwc.1).mono ?_; rintro e w1 ⟨rfl, hb1⟩; exact ⟨rfl, hwc.next hb1⟩) | (go_at_call 12; refine (H4.out _ hwc.1).mono ?_; rintro e w1 ⟨rfl, hb1⟩; exact ⟨rfl, hwc.next hb1⟩) | (go_at_call 13; refine (H5.out _ hwc.1).mono ?_; rintro e w1 ⟨rfl, hb1⟩; exact ⟨rfl, hwc.next hb1⟩) | (go_at_call 14; refine (H1.out _ hwc.1).mono ?_; rintro e w1 ⟨rfl, hb1⟩; exact ⟨rfl, hwc.next hb1⟩)) | (((obtain ⟨_, hx⟩ := hwc; obtain ⟨x1, x2⟩ := hx.cell; clear hx)); go_simp; done) | (((obtain ⟨_, hx⟩ := hwc; obtain ⟨x1, x2⟩ := hx.cell; clear hx)); go_simp; exact rfl))); clear hK K))
  refine wpQuiet_nil ?_
  intro wc hwc
  go_wp2_with fail
  go_ret
  exact ⟨rfl, hwc.1⟩

end Go.Proofs.YtpmellfgmlgknaaDoor
