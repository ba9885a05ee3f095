/-
  The contract of the document's Take of a stamp.
-/
import Derived.Test.YtccieoofjopbkaaDoorStTake
namespace Go.Proofs.YtccieoofjopbkaaDoor
open Go.RowKit

set_option maxRecDepth 100000 in
set_option maxHeartbeats 400000 in
theorem refTake_core (s0 s1 s2 s3 : ByteArray) (v0 v1 v2 e0 e1 e2 : Int) (w : World) (rb : Bool) (hrb : rightB v0 v1 v2 = rb)
    (hT0 : ∀ W, Calls Tryd.prog 33 #[.string s0] W fun e w' => e = .returned (.tuple #[.int .i64 v0, .string s1, .int .i64 e0]) ∧ Below W.heap.size W w')
    (hT1 : ∀ W, Calls Tryd.prog 33 #[.string s1] W fun e w' => e = .returned (.tuple #[.int .i64 v1, .string s2, .int .i64 e1]) ∧ Below W.heap.size W w')
    (hT2 : ∀ W, Calls Tryd.prog 33 #[.string s2] W fun e w' => e = .returned (.tuple #[.int .i64 v2, .string s3, .int .i64 e2]) ∧ Below W.heap.size W w')
    (R : Value) (hR0 : e0 ≠ 0 → R = .tuple #[(Go.Value.agg #[Go.Value.int Go.IntKind.i64 0, Go.Value.int Go.IntKind.i64 0, Go.Value.int Go.IntKind.i64 0]), .string { data := #[] }, .int .i64 e0]) (hR1 : e0 = 0 → e1 ≠ 0 → R = .tuple #[(Go.Value.agg #[Go.Value.int Go.IntKind.i64 0, Go.Value.int Go.IntKind.i64 0, Go.Value.int Go.IntKind.i64 0]), .string { data := #[] }, .int .i64 e1])
    (hR2 : e0 = 0 → e1 = 0 → e2 ≠ 0 → R = .tuple #[(Go.Value.agg #[Go.Value.int Go.IntKind.i64 0, Go.Value.int Go.IntKind.i64 0, Go.Value.int Go.IntKind.i64 0]), .string { data := #[] }, .int .i64 e2]) (hR3 : e0 = 0 → e1 = 0 → e2 = 0 → rb = false → R = .tuple #[(Go.Value.agg #[Go.Value.int Go.IntKind.i64 0, Go.Value.int Go.IntKind.i64 0, Go.Value.int Go.IntKind.i64 0]), .string { data := #[] }, .int .i64 3])
    (hR4 : e0 = 0 → e1 = 0 → e2 = 0 → rb = true → R = .tuple #[(Go.Value.agg #[Go.Value.int Go.IntKind.i64 v0, Go.Value.int Go.IntKind.i64 v1, Go.Value.int Go.IntKind.i64 v2]), .string s3, .int .i64 0]) :
    Calls Tryd.prog 21 #[.string s0] w fun e w' => e = .returned R ∧ Below w.heap.size w w' := by
  have HT0 := Lib.hid hT0
  have HT1 := Lib.hid hT1
  have HT2 := Lib.hid hT2
  have HR : Hid (∀ W, Calls Tryd.prog 16 #[(Go.Value.agg #[Go.Value.int Go.IntKind.i64 v0, Go.Value.int Go.IntKind.i64 v1, Go.Value.int Go.IntKind.i64 v2])] W fun e w' => e = .returned (.bool rb) ∧ Below W.heap.size W w') := fun W => by rw [← hrb]; exact refRight_any _ _ _ W
  clear hT0 hT1 hT2 hrb
  by_cases h0 : e0 = 0
  · subst h0
    by_cases h1 : e1 = 0
    · subst h1
      by_cases h2 : e2 = 0
      · subst h2
        have HR3 := Lib.hid (hR3 rfl rfl rfl)
        have HR4 := Lib.hid (hR4 rfl rfl rfl)
        clear hR0 hR1 hR2 hR3 hR4
        go_enter Tryd.func21, Tryd.ntmps21
        go_wp2_with fail
        refine (HT0.out _).mono ?_
        rintro e w1 ⟨rfl, hb1⟩
        obtain ⟨hx1, hb⟩ := W1_next hb1
        have HX1 := Lib.hid hx1
        clear hb1 hx1
        go_wp2_with fail
        refine (HT1.out _).mono ?_
        rintro e w2 ⟨rfl, hb2⟩
        have HX2 := Lib.hid (HX1.out.over hb2)
        have hbb := hb.trans (hb2.mono hb.size)
        clear hb hb2 HX1
        go_wp2_with fail
        refine (HT2.out _).mono ?_
        rintro e w3 ⟨rfl, hb3⟩
        have HX3 := Lib.hid (HX2.out.over hb3)
        have hb := hbb.trans (hb3.mono hbb.size)
        clear hbb hb3 HX2
        go_wp2_with fail
        refine (HR.out _).mono ?_
        rintro e w4 ⟨rfl, hb4⟩
        obtain ⟨hby, hb5⟩ := W1_next hb4
        have HB2 := Lib.hid (HX3.out.over hb5)
        have HBY := Lib.hid hby
        have hbb := hb.trans (hb5.mono hb.size)
        clear hb hb4 hb5 hby HX3
        cases rb
        · go_wp2_with (refine box_store w.heap.size HB2.out rfl _ _ rfl rfl rfl ?_)
          exact bodyPost_ret (box_result3 rfl _ _ w.heap.size rfl (HB2.out.set 0 0 0)) rfl ⟨by rw [HR3.out (by first | rfl | trivial)]; rfl, below_setRow hbb (Nat.le_refl _) _⟩
        · go_wp2_with (first | (refine box_load w3.heap.size HBY.out rfl _ rfl rfl ?_) | (refine box_store w.heap.size HB2.out rfl _ _ rfl rfl rfl ?_))
          exact bodyPost_ret (box_result3 rfl _ _ w.heap.size rfl (HB2.out.set v0 v1 v2)) rfl ⟨by rw [HR4.out (by first | rfl | trivial)]; rfl, below_setRow hbb (Nat.le_refl _) _⟩
      · have HR2 := Lib.hid (hR2 rfl rfl h2)
        have hne : (e2 == 0) = false := beq_eq_false_iff_ne.2 h2
        clear hR0 hR1 hR2 hR3 hR4 h2
        go_enter Tryd.func21, Tryd.ntmps21
        go_wp2_with fail
        refine (HT0.out _).mono ?_
        rintro e w1 ⟨rfl, hb1⟩
        obtain ⟨hx1, hb⟩ := W1_next hb1
        have HX1 := Lib.hid hx1
        clear hb1 hx1
        go_wp2_with fail
        refine (HT1.out _).mono ?_
        rintro e w2 ⟨rfl, hb2⟩
        have HX2 := Lib.hid (HX1.out.over hb2)
        have hbb := hb.trans (hb2.mono hb.size)
        clear hb hb2 HX1
        go_wp2_with fail
        refine (HT2.out _).mono ?_
        rintro e w3 ⟨rfl, hb3⟩
        have HX3 := Lib.hid (HX2.out.over hb3)
        have hb := hbb.trans (hb3.mono hbb.size)
        clear hbb hb3 HX2
        go_wp2_with (refine box_store w.heap.size HX3.out rfl _ _ rfl rfl rfl ?_)
        exact bodyPost_ret (box_result3 rfl _ _ w.heap.size rfl (HX3.out.set 0 0 0)) rfl ⟨by rw [HR2.out]; rfl, below_setRow hb (Nat.le_refl _) _⟩
    · have HR1 := Lib.hid (hR1 rfl h1)
      have hne : (e1 == 0) = false := beq_eq_false_iff_ne.2 h1
      clear hR0 hR1 hR2 hR3 hR4 h1
      go_enter Tryd.func21, Tryd.ntmps21
      go_wp2_with fail
      refine (HT0.out _).mono ?_
      rintro e w1 ⟨rfl, hb1⟩
      obtain ⟨hx1, hb⟩ := W1_next hb1
      have HX1 := Lib.hid hx1
      clear hb1 hx1
      go_wp2_with fail
      refine (HT1.out _).mono ?_
      rintro e w2 ⟨rfl, hb2⟩
      have HX2 := Lib.hid (HX1.out.over hb2)
      have hbb := hb.trans (hb2.mono hb.size)
      clear hb hb2 HX1
      go_wp2_with (refine box_store w.heap.size HX2.out rfl _ _ rfl rfl rfl ?_)
      exact bodyPost_ret (box_result3 rfl _ _ w.heap.size rfl (HX2.out.set 0 0 0)) rfl ⟨by rw [HR1.out]; rfl, below_setRow hbb (Nat.le_refl _) _⟩
  · have HR0 := Lib.hid (hR0 h0)
    have hne : (e0 == 0) = false := beq_eq_false_iff_ne.2 h0
    clear hR0 hR1 hR2 hR3 hR4 h0
    go_enter Tryd.func21, Tryd.ntmps21
    go_wp2_with fail
    refine (HT0.out _).mono ?_
    rintro e w1 ⟨rfl, hb1⟩
    obtain ⟨hx1, hb⟩ := W1_next hb1
    have HX1 := Lib.hid hx1
    clear hb1 hx1
    go_wp2_with (refine box_store w.heap.size HX1.out rfl _ _ rfl rfl rfl ?_)
    exact bodyPost_ret (box_result3 rfl _ _ w.heap.size rfl (HX1.out.set 0 0 0)) rfl ⟨by rw [HR0.out]; rfl, below_setRow hb (Nat.le_refl _) _⟩

theorem stRefTake_any (s : ByteArray) (w : World) (hs : s.size ≤ 9223372036854775807) : Calls Tryd.prog 21 #[.string s] w fun e w' => e = .returned (stkV s) ∧ Below w.heap.size w w' := by
  refine refTake_core (sK s 0) (sK s 1) (sK s 2) (sK s 3) (vK s 0) (vK s 1) (vK s 2) (eK s 0) (eK s 1) (eK s 2) w _ rfl (refTake_at s hs 0) (refTake_at s hs 1) (refTake_at s hs 2) (stkV s) (fun h => ?_) (fun h0 h => ?_) (fun h0 h1 h => ?_) (fun h0 h1 h2 h => ?_) (fun h0 h1 h2 h => ?_)
  · unfold stkV stk; rw [if_neg h]
  · unfold stkV stk; rw [if_pos h0, if_neg h]
  · unfold stkV stk; rw [if_pos h0, if_pos h1, if_neg h]
  · unfold stkV stk; rw [if_pos h0, if_pos h1, if_pos h2, h]; rfl
  · unfold stkV stk; rw [if_pos h0, if_pos h1, if_pos h2, h]; rfl

end Go.Proofs.YtccieoofjopbkaaDoor
