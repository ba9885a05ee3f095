/-
  The walk of SpanMeets, over what it asks of package span.
-/
import Derived.Test.YtpmellfgmlgknaaDoorSpForms
set_option linter.unusedVariables false
namespace Go.Proofs.YtpmellfgmlgknaaDoor
open Go.RowKit

set_option maxRecDepth 100000 in
set_option maxHeartbeats 1000000 in
theorem spanMeets_core (HF : FSAwake) (HR : FSRight) (HH : FSHas) (HM : FSMeet) (w : World) (hT : UtfAt w) (a b c d k : ByteArray) :
    Calls Tryd.prog 9 #[(Go.Value.agg #[Go.Value.string a, Go.Value.string b]), (Go.Value.agg #[Go.Value.string c, Go.Value.string d]), .string k] w fun e w' => e = .returned (.bool true) ∧ Below w.heap.size w w' := by
  obtain ⟨p, hp⟩ : ∃ p, p = spHas (a, b) k := ⟨_, rfl⟩
  obtain ⟨q, hq⟩ : ∃ q, q = spHas (c, d) k := ⟨_, rfl⟩
  obtain ⟨r, hr⟩ : ∃ r, r = spR (a, b) := ⟨_, rfl⟩
  have hm : p = true → q = true → meetB (a, b) (c, d) = true := fun h h2 => meet_has (hp ▸ h) (hq ▸ h2)
  have H1 : Hid (∀ W, Below w.heap.size w W → Calls Tryd.prog 14 #[] W fun e w' => e = .returned (.bool true) ∧ Below W.heap.size W w') := fun W hW => HF W (hT.next hW)
  have H2 : Hid (∀ W, Below w.heap.size w W → Calls Tryd.prog 12 #[(Go.Value.agg #[Go.Value.string a, Go.Value.string b]), .string k] W fun e w' => e = .returned (.bool p) ∧ Below W.heap.size W w') := fun W hW => by rw [hp]; exact HH W a b k (hT.next hW)
  have H3 : Hid (∀ W, Below w.heap.size w W → Calls Tryd.prog 12 #[(Go.Value.agg #[Go.Value.string c, Go.Value.string d]), .string k] W fun e w' => e = .returned (.bool q) ∧ Below W.heap.size W w') := fun W hW => by rw [hq]; exact HH W c d k (hT.next hW)
  have H4 : Hid (p = true → q = true → ∀ W, Below w.heap.size w W → Calls Tryd.prog 20 #[(Go.Value.agg #[Go.Value.string a, Go.Value.string b]), (Go.Value.agg #[Go.Value.string c, Go.Value.string d])] W fun e w' => e = .returned (.bool true) ∧ Below W.heap.size W w') := fun h h2 W hW => by rw [← hm h h2]; exact HM W a b c d (hT.next hW)
  have H5 : Hid (∀ W, Below w.heap.size w W → Calls Tryd.prog 20 #[(Go.Value.agg #[Go.Value.string a, Go.Value.string b]), (Go.Value.agg #[Go.Value.string a, Go.Value.string b])] W fun e w' => e = .returned (.bool r) ∧ Below W.heap.size W w') := fun W hW => by rw [hr, ← meet_self]; exact HM W a b a b (hT.next hW)
  have H6 : Hid (∀ W, Below w.heap.size w W → Calls Tryd.prog 10 #[(Go.Value.agg #[Go.Value.string a, Go.Value.string b])] W fun e w' => e = .returned (.bool r) ∧ Below W.heap.size W w') := fun W hW => by rw [hr]; exact HR W a b (hT.next hW)
  clear HF HR HH HM hT hp hq hr hm
  cases p
  · clear H3 H4
    go_enter Tryd.func9, Tryd.ntmps9
    go_wp2_with fail
    refine (H2.out _ (K2s.new w a b c d).1).mono ?_
    rintro e w1 ⟨rfl, hb1⟩
    have P1 := Lib.hid ((K2s.new w a b c d).next hb1)
    clear hb1
    go_upto_region 3 with (fail)
    refine wp_region_calm (K2s w a b c d) (by kernel_rfl) (by kernel_rfl) (P1.out.next ((Below.refl _ _).drew)) ?_
    repeat ((with_reducible refine wpQuiet_step (fun K hK => ?_)); go_simp; first | (refine hK _ ?_; clear hK K) | (apply Exists.intro; refine ⟨fun wc hwc => ?_, hK _ ?_⟩; (focus (first | (first | (go_at_call 20; refine (H5.out _ hwc.1).mono ?_; rintro e w1 ⟨rfl, hb1⟩; exact ⟨rfl, hwc.next hb1⟩) | (go_at_call 10; refine (H6.out _ hwc.1).mono ?_; rintro e w1 ⟨rfl, hb1⟩; exact ⟨rfl, hwc.next hb1⟩) | (go_at_call 14; refine (H1.out _ hwc.1).mono ?_; rintro e w1 ⟨rfl, hb1⟩; exact ⟨rfl, hwc.next hb1⟩)) | (((obtain ⟨_, hx, _⟩ := hwc; obtain ⟨x1, x2⟩ := hx.cell; clear hx)); go_simp; done) | (((obtain ⟨_, hx, _⟩ := hwc; obtain ⟨x1, x2⟩ := hx.cell; clear hx)); go_simp; exact rfl))); clear hK K))
    refine wpQuiet_nil ?_
    intro wc hwc
    go_wp2_with fail
    go_ret
    exact ⟨rfl, hwc.1⟩
  have H7 := Lib.hid (H4.out rfl)
  clear H4
  cases q
  · clear H7
    go_enter Tryd.func9, Tryd.ntmps9
    go_wp2_with fail
    refine (H2.out _ (K2s.new w a b c d).1).mono ?_
    rintro e w1 ⟨rfl, hb1⟩
    have P1 := Lib.hid ((K2s.new w a b c d).next hb1)
    clear hb1
    obtain ⟨x1, x2⟩ := P1.out.2.2.cell
    go_wp2_with fail
    refine (H3.out _ P1.out.1).mono ?_
    rintro e w2 ⟨rfl, hb2⟩
    have P2 := Lib.hid (P1.out.next hb2)
    clear hb2 P1 x1 x2
    go_upto_region 3 with (fail)
    refine wp_region_calm (K2s w a b c d) (by kernel_rfl) (by kernel_rfl) (P2.out.next ((Below.refl _ _).drew)) ?_
    repeat ((with_reducible refine wpQuiet_step (fun K hK => ?_)); go_simp; first | (refine hK _ ?_; clear hK K) | (apply Exists.intro; refine ⟨fun wc hwc => ?_, hK _ ?_⟩; (focus (first | (first | (go_at_call 20; refine (H5.out _ hwc.1).mono ?_; rintro e w1 ⟨rfl, hb1⟩; exact ⟨rfl, hwc.next hb1⟩) | (go_at_call 10; refine (H6.out _ hwc.1).mono ?_; rintro e w1 ⟨rfl, hb1⟩; exact ⟨rfl, hwc.next hb1⟩) | (go_at_call 14; refine (H1.out _ hwc.1).mono ?_; rintro e w1 ⟨rfl, hb1⟩; exact ⟨rfl, hwc.next hb1⟩)) | (((obtain ⟨_, hx, _⟩ := hwc; obtain ⟨x1, x2⟩ := hx.cell; clear hx)); go_simp; done) | (((obtain ⟨_, hx, _⟩ := hwc; obtain ⟨x1, x2⟩ := hx.cell; clear hx)); go_simp; exact rfl))); clear hK K))
    refine wpQuiet_nil ?_
    intro wc hwc
    go_wp2_with fail
    go_ret
    exact ⟨rfl, hwc.1⟩
  have H8 := Lib.hid (H7.out rfl)
  clear H7
  go_enter Tryd.func9, Tryd.ntmps9
  go_wp2_with fail
  refine (H2.out _ (K2s.new w a b c d).1).mono ?_
  rintro e w1 ⟨rfl, hb1⟩
  have P1 := Lib.hid ((K2s.new w a b c d).next hb1)
  clear hb1
  obtain ⟨x1, x2⟩ := P1.out.2.2.cell
  go_wp2_with fail
  refine (H3.out _ P1.out.1).mono ?_
  rintro e w2 ⟨rfl, hb2⟩
  have P2 := Lib.hid (P1.out.next hb2)
  clear hb2 P1 x1 x2
  obtain ⟨x1, x2⟩ := P2.out.2.1.cell
  obtain ⟨x3, x4⟩ := P2.out.2.2.cell
  go_wp2_with fail
  refine (H8.out _ P2.out.1).mono ?_
  rintro e w3 ⟨rfl, hb3⟩
  have P3 := Lib.hid (P2.out.next hb3)
  clear hb3 P2 x1 x2 x3 x4
  go_wp2_with fail
  refine (H1.out _ P3.out.1).mono ?_
  rintro e w4 ⟨rfl, hb4⟩
  go_wp2_with fail
  go_ret
  exact ⟨rfl, P3.out.1.trans (hb4.mono P3.out.1.size)⟩

end Go.Proofs.YtpmellfgmlgknaaDoor
