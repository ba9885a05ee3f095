/-
  The walk of SpanBack, over what it asks of package span.
-/
import Derived.Test.YtpmellfgmlgknaaDoorSpForms
set_option linter.unusedVariables false
namespace Go.Proofs.YtpmellfgmlgknaaDoor
open Go.RowKit

/-- What was cut, its parts, and their join. -/
def BB (w : World) (a b k : ByteArray) (g h t : Nat) (W : World) : Prop := PW w a b W ∧ PBox W g a k ∧ PBox W h k b ∧ PBox W t a b
theorem BB.next {w w1 w2 : World} {a b k : ByteArray} {g h t : Nat} (H : BB w a b k g h t w1) (hb : Below w1.heap.size w1 w2) : BB w a b k g h t w2 :=
  ⟨H.1.next hb, H.2.1.over hb, H.2.2.1.over hb, H.2.2.2.over hb⟩

set_option maxRecDepth 100000 in
set_option maxHeartbeats 1000000 in
theorem spanBack_core (HF : FSAwake) (HC : FSCut) (HJ : FSJoin) (HH : FSHas) (HM : FSMeet) (w : World) (hT : UtfAt w) (a b k c : ByteArray) :
    Calls Tryd.prog 8 #[(Go.Value.agg #[Go.Value.string a, Go.Value.string b]), .string k, .string c] w fun e w' => e = .returned (.bool true) ∧ Below w.heap.size w w' := by
  have H1 : Hid (∀ W, Below w.heap.size w W → Calls Tryd.prog 14 #[] W fun e w' => e = .returned (.bool true) ∧ Below W.heap.size W w') := fun W hW => HF W (hT.next hW)
  by_cases hE : cutE (a, b) k = 0
  · obtain ⟨c1, c2⟩ := cut_zero hE
    obtain ⟨b1, b2, b3, b4, b5, b6, b7⟩ := cut_back (k := c) hE
    dsimp only at b1 b2 b3 b4 b5 b6 b7
    obtain ⟨p, hp⟩ : ∃ p, p = spHas (a, k) c := ⟨_, rfl⟩
    obtain ⟨q, hq⟩ : ∃ q, q = spHas (k, b) c := ⟨_, rfl⟩
    rw [← hp, ← hq] at b3 b4
    have H2 : Hid (∀ W, Below w.heap.size w W → Calls Tryd.prog 15 #[(Go.Value.agg #[Go.Value.string a, Go.Value.string b]), .string k] W fun e w' => e = .returned (.tuple #[(Go.Value.agg #[Go.Value.string a, Go.Value.string k]), (Go.Value.agg #[Go.Value.string k, Go.Value.string b]), .int .i64 0]) ∧ Below W.heap.size W w') := fun W hW => by
      have h := HC W a b k (hT.next hW)
      rw [c1, c2, hE] at h
      exact h
    have H3 : Hid (∀ W, Below w.heap.size w W → Calls Tryd.prog 17 #[(Go.Value.agg #[Go.Value.string a, Go.Value.string k]), (Go.Value.agg #[Go.Value.string k, Go.Value.string b])] W fun e w' => e = .returned (.tuple #[(Go.Value.agg #[Go.Value.string a, Go.Value.string b]), .int .i64 0]) ∧ Below W.heap.size W w') := fun W hW => by
      have h := HJ W a k k b (hT.next hW)
      rw [b1, b2] at h
      exact h
    have H4 : Hid (∀ W x y, Below w.heap.size w W → Calls Tryd.prog 12 #[(Go.Value.agg #[Go.Value.string x, Go.Value.string y]), .string c] W fun e w' => e = .returned (.bool (spHas (x, y) c)) ∧ Below W.heap.size W w') := fun W x y hW => HH W x y c (hT.next hW)
    have HPP := Lib.hid hp
    have HQQ := Lib.hid hq
    have H6 : Hid (∀ W, Below w.heap.size w W → Calls Tryd.prog 12 #[(Go.Value.agg #[Go.Value.string a, Go.Value.string b]), .string c] W fun e w' => e = .returned (.bool (p || q)) ∧ Below W.heap.size W w') := fun W hW => by rw [← b3]; exact HH W a b c (hT.next hW)
    have H7 : Hid (∀ W, Below w.heap.size w W → Calls Tryd.prog 20 #[(Go.Value.agg #[Go.Value.string a, Go.Value.string k]), (Go.Value.agg #[Go.Value.string k, Go.Value.string b])] W fun e w' => e = .returned (.bool false) ∧ Below W.heap.size W w') := fun W hW => by rw [← b5]; exact HM W a k k b (hT.next hW)
    have H8 : Hid (∀ W, Below w.heap.size w W → Calls Tryd.prog 20 #[(Go.Value.agg #[Go.Value.string a, Go.Value.string k]), (Go.Value.agg #[Go.Value.string a, Go.Value.string b])] W fun e w' => e = .returned (.bool true) ∧ Below W.heap.size W w') := fun W hW => by rw [← b6]; exact HM W a k a b (hT.next hW)
    have H9 : Hid (∀ W, Below w.heap.size w W → Calls Tryd.prog 20 #[(Go.Value.agg #[Go.Value.string a, Go.Value.string b]), (Go.Value.agg #[Go.Value.string k, Go.Value.string b])] W fun e w' => e = .returned (.bool true) ∧ Below W.heap.size W w') := fun W hW => by rw [← b7]; exact HM W a b k b (hT.next hW)
    clear HF HC HJ HH HM hT hE c1 c2 b1 b2 b3 b5 b6 b7 hp hq
    go_enter Tryd.func8, Tryd.ntmps8
    go_wp2_with fail
    refine (H2.out _ (PW.new w a b).1).mono ?_
    rintro e w1 ⟨rfl, hb1⟩
    have P1 := Lib.hid ((PW.new w a b).next hb1)
    clear hb1
    go_upto_region 4 with (fail)
    have P2 := Lib.hid (P1.out.next (two_new w1 a k k b).2.2)
    have X2 := Lib.hid (two_new w1 a k k b).1
    have Y2 := Lib.hid (two_new w1 a k k b).2.1
    generalize hw2 : (w1.alloc _).alloc _ = w2 at P2 X2 Y2 ⊢
    generalize hg : w1.heap.size = g at X2 Y2 ⊢
    clear hw2 hg P1 w1
    obtain ⟨x1, x2⟩ := X2.out.cell
    obtain ⟨y1, y2⟩ := Y2.out.cell
    go_wp2_with fail
    refine (H3.out _ P2.out.1).mono ?_
    rintro e w3 ⟨rfl, hb3⟩
    have P3 := Lib.hid (P2.out.next hb3)
    have X3 := Lib.hid (X2.out.over hb3)
    have Y3 := Lib.hid (Y2.out.over hb3)
    clear hb3 x1 x2 y1 y2 P2 X2 Y2
    go_upto_region 5 with (fail)
    have H0 : Hid (BB w a b k g (g + 1) w3.heap.size (w3.alloc (.cells #[.string a, .string b] 23))) := ⟨P3.out.next (one_new w3 a b).2, X3.out.over (one_new w3 a b).2, Y3.out.over (one_new w3 a b).2, (one_new w3 a b).1⟩
    generalize hw4 : w3.alloc _ = w4 at H0 ⊢
    generalize hg3 : w3.heap.size = t at H0 ⊢
    clear hw4 hg3 P3 X3 Y3 w3
    refine wp_region_calm (BB w a b k g (g + 1) t) (by kernel_rfl) (by kernel_rfl) (H0.out.next ((Below.refl _ _).drew)) ?_
    repeat ((with_reducible refine wpQuiet_step (fun K hK => ?_)); go_simp; first | (refine hK _ ?_; clear hK K) | (apply Exists.intro; refine ⟨fun wc hwc => ?_, hK _ ?_⟩; (focus (first | ((go_at_call 12; refine (H4.out _ _ _ hwc.1.1).mono ?_; rintro e w1 ⟨rfl, hb1⟩; exact ⟨rfl, hwc.next hb1⟩)) | (((obtain ⟨_, hx, hy, _⟩ := hwc; obtain ⟨x1, x2⟩ := hx.cell; obtain ⟨y1, y2⟩ := hy.cell; clear hx hy)); go_simp; done) | (((obtain ⟨_, hx, hy, _⟩ := hwc; obtain ⟨x1, x2⟩ := hx.cell; obtain ⟨y1, y2⟩ := hy.cell; clear hx hy)); go_simp; exact rfl))); clear hK K))
    refine wpQuiet_nil ?_
    intro wc hwc
    rw [← HPP.out, ← HQQ.out]
    clear HPP HQQ
    have G0 := Lib.hid hwc
    clear hwc H0 H4
    have hpq : (p = true ∧ q = false) ∨ (p = false ∧ q = true) ∨ (p = false ∧ q = false) := by
      cases p <;> cases q <;> simp_all
    clear b4
    rcases hpq with ⟨rfl, rfl⟩ | ⟨rfl, rfl⟩ | ⟨rfl, rfl⟩
    all_goals
      obtain ⟨x1, x2⟩ := G0.out.1.2.cell
      obtain ⟨x3, x4⟩ := G0.out.2.2.2.cell
      go_wp2_with fail
      refine (H6.out _ G0.out.1.1).mono ?_
      rintro e w5 ⟨rfl, hb5⟩
      have G1 := Lib.hid (G0.out.next hb5)
      clear hb5 x1 x2 x3 x4 G0
      obtain ⟨x1, x2⟩ := G1.out.2.1.cell
      obtain ⟨x3, x4⟩ := G1.out.2.2.1.cell
      go_wp2_with fail
      refine (H7.out _ G1.out.1.1).mono ?_
      rintro e w6 ⟨rfl, hb6⟩
      have G2' := Lib.hid (G1.out.next hb6)
      clear hb6 x1 x2 x3 x4 G1
      obtain ⟨x1, x2⟩ := G2'.out.2.1.cell
      obtain ⟨x3, x4⟩ := G2'.out.1.2.cell
      go_wp2_with fail
      refine (H8.out _ G2'.out.1.1).mono ?_
      rintro e w7 ⟨rfl, hb7⟩
      have G3 := Lib.hid (G2'.out.next hb7)
      clear hb7 x1 x2 x3 x4 G2'
      obtain ⟨x1, x2⟩ := G3.out.1.2.cell
      obtain ⟨x3, x4⟩ := G3.out.2.2.1.cell
      go_wp2_with fail
      refine (H9.out _ G3.out.1.1).mono ?_
      rintro e w8 ⟨rfl, hb8⟩
      have G4 := Lib.hid (G3.out.next hb8)
      clear hb8 x1 x2 x3 x4 G3
      go_wp2_with fail
      refine (H1.out _ G4.out.1.1).mono ?_
      rintro e w9 ⟨rfl, hb9⟩
      go_wp2_with fail
      go_ret
      exact ⟨rfl, G4.out.1.1.trans (hb9.mono G4.out.1.1.size)⟩
  · obtain ⟨c1, c2⟩ := cut_not hE
    obtain ⟨E, hE2⟩ : ∃ E, E = cutE (a, b) k := ⟨_, rfl⟩
    have H2 : Hid (∀ W, Below w.heap.size w W → Calls Tryd.prog 15 #[(Go.Value.agg #[Go.Value.string a, Go.Value.string b]), .string k] W fun e w' => e = .returned (.tuple #[(Go.Value.agg #[Go.Value.string ({ data := #[] }), Go.Value.string ({ data := #[] })]), (Go.Value.agg #[Go.Value.string ({ data := #[] }), Go.Value.string ({ data := #[] })]), .int .i64 E]) ∧ Below W.heap.size W w') := fun W hW => by
      have h := HC W a b k (hT.next hW)
      rw [c1, c2, ← hE2] at h
      exact h
    rw [← hE2] at hE
    have e1 : (E == 0) = false := beq_eq_false_iff_ne.2 hE
    clear HF HC HJ HH HM hT c1 c2 hE2
    go_enter Tryd.func8, Tryd.ntmps8
    go_wp2_with fail
    refine (H2.out _ (PW.new w a b).1).mono ?_
    rintro e w1 ⟨rfl, hb1⟩
    have P1 := Lib.hid ((PW.new w a b).next hb1)
    clear hb1
    go_upto_region 3 with (fail)
    have P2 := Lib.hid (P1.out.next (two_new w1 { data := #[] } { data := #[] } { data := #[] } { data := #[] }).2.2)
    have X2 := Lib.hid (two_new w1 { data := #[] } { data := #[] } { data := #[] } { data := #[] }).1
    have Y2 := Lib.hid (two_new w1 { data := #[] } { data := #[] } { data := #[] } { data := #[] }).2.1
    generalize hw2 : (w1.alloc _).alloc _ = w2 at P2 X2 Y2 ⊢
    generalize hg : w1.heap.size = g at X2 Y2 ⊢
    clear hw2 hg P1 w1
    obtain ⟨x1, x2⟩ := X2.out.cell
    obtain ⟨y1, y2⟩ := Y2.out.cell
    go_wp2_with fail
    refine (H1.out _ P2.out.1).mono ?_
    rintro e w3 ⟨rfl, hb3⟩
    go_wp2_with fail
    go_ret
    exact ⟨rfl, P2.out.1.trans (hb3.mono P2.out.1.size)⟩

end Go.Proofs.YtpmellfgmlgknaaDoor
