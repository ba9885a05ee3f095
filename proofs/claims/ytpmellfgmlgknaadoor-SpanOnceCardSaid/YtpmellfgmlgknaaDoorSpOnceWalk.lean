/-
  The walk of SpanOnce, over what it asks of package span.
-/
import Derived.Test.YtpmellfgmlgknaaDoorSpForms
set_option linter.unusedVariables false
namespace Go.Proofs.YtpmellfgmlgknaaDoor
open Go.RowKit

set_option maxRecDepth 100000 in
set_option maxHeartbeats 1000000 in
theorem spanOnce_core (HF : FSAwake) (HH : FSHas) (HW : FSWhole) (w : World) (hT : UtfAt w) (v : Value) (l : List Spn) (hv : Spans w v l) (k : ByteArray) :
    Calls Tryd.prog 7 #[v, .string k] w fun e w' => e = .returned (.bool true) ∧ Below w.heap.size w w' := by
  have H1 : Hid (∀ W, Below w.heap.size w W → Calls Tryd.prog 14 #[] W fun e w' => e = .returned (.bool true) ∧ Below W.heap.size W w') := fun W hW => HF W (hT.next hW)
  obtain ⟨p, hp⟩ : ∃ p, p = wholeB l := ⟨_, rfl⟩
  obtain ⟨q, hq⟩ : ∃ q, q = Ky.right k := ⟨_, rfl⟩
  have H2 : Hid (∀ W, Below w.heap.size w W → Calls Tryd.prog 21 #[v] W fun e w' => e = .returned (.bool p) ∧ Below W.heap.size W w') := fun W hW => by rw [hp]; exact HW W v l (hT.next hW) (hv.next hW)
  have H3 : Hid (∀ W, Calls Tryd.prog 23 #[.string k] W fun e w' => e = .returned (.bool q) ∧ Below W.heap.size W w') := fun W => by rw [hq]; exact (kRefRight_any k W).mono fun e w' h => ⟨h.1, h.2 ▸ Below.refl _ _⟩
  have H4 : Hid (∀ W a b, Below w.heap.size w W → Calls Tryd.prog 12 #[(Go.Value.agg #[Go.Value.string a, Go.Value.string b]), .string k] W fun e w' => e = .returned (.bool (spHas (a, b) k)) ∧ Below W.heap.size W w') := fun W a b hW => HH W a b k (hT.next hW)
  obtain ⟨ao, n, cap, rfl, hl, hle, hmx, hn, hrow⟩ := hv.opened
  have HP := Lib.hid hp
  have HQ := Lib.hid hq
  have HL := Lib.hid hl
  have HC := Lib.hid hrow
  clear HF HH HW hT hv hrow hl hle hmx hp hq
  by_cases h100 : 100 < n
  · have d1 : decide (100 < n) = true := decide_eq_true h100
    go_enter Tryd.func7, Tryd.ntmps7
    go_wp2_with fail
    refine (H1.out _ (Below.refl _ _)).mono ?_
    rintro e w1 ⟨rfl, hb1⟩
    go_wp2_with fail
    go_ret
    exact ⟨rfl, hb1⟩
  have d1 : decide (100 < n) = false := decide_eq_false h100
  cases p
  · go_enter Tryd.func7, Tryd.ntmps7
    go_wp2_with fail
    refine (H2.out _ (Below.refl _ _)).mono ?_
    rintro e w1 ⟨rfl, hb1⟩
    have B1 := Lib.hid hb1
    clear hb1
    go_wp2_with fail
    refine (H1.out _ B1.out).mono ?_
    rintro e w2 ⟨rfl, hb2⟩
    go_wp2_with fail
    go_ret
    exact ⟨rfl, B1.out.trans (hb2.mono B1.out.size)⟩
  cases q
  · go_enter Tryd.func7, Tryd.ntmps7
    go_wp2_with fail
    refine (H2.out _ (Below.refl _ _)).mono ?_
    rintro e w1 ⟨rfl, hb1⟩
    have B1 := Lib.hid hb1
    clear hb1
    go_wp2_with fail
    refine (H3.out _).mono ?_
    rintro e w2 ⟨rfl, hb2⟩
    have B2 := Lib.hid (B1.out.trans (hb2.mono B1.out.size))
    clear hb2 B1
    go_wp2_with fail
    refine (H1.out _ B2.out).mono ?_
    rintro e w3 ⟨rfl, hb3⟩
    go_wp2_with fail
    go_ret
    exact ⟨rfl, B2.out.trans (hb3.mono B2.out.size)⟩
  go_enter Tryd.func7, Tryd.ntmps7
  go_wp2_with fail
  refine (H2.out _ (Below.refl _ _)).mono ?_
  rintro e w1 ⟨rfl, hb1⟩
  have B1 := Lib.hid hb1
  clear hb1
  go_wp2_with fail
  refine (H3.out _).mono ?_
  rintro e w2 ⟨rfl, hb2⟩
  have B2 := Lib.hid (B1.out.trans (hb2.mono B1.out.size))
  clear hb2 B1
  go_wp2_with fail
  go_loopw [5, 24] (fun m i wr => ∃ j : Nat, j ≤ n ∧ i = .int .i64 j ∧ m = .int .i64 (cntAt l k j : Nat) ∧ Hid (Below w.heap.size w wr)) (fun _ i _ => n - (intOf i).toNat)
  case atStart => exact ⟨0, Nat.zero_le _, rfl, rfl, B2.out⟩
  case round =>
    obtain ⟨j, hj, rfl, rfl, B3⟩ := hrel
    by_cases hlt : j < n
    · obtain ⟨b, off, rfl, hb, hcl⟩ := HC.out (by omega)
      have hs := (hcl j hlt).next B3.out hb
      obtain ⟨x, hx⟩ : ∃ x, x = (sat l j).1 := ⟨_, rfl⟩
      obtain ⟨y, hy⟩ : ∃ y, y = (sat l j).2 := ⟨_, rfl⟩
      obtain ⟨x1, x2⟩ := hs
      rw [← hx] at x1
      rw [← hy] at x2
      obtain ⟨r, hr⟩ : ∃ r, r = spHas (x, y) k := ⟨_, rfl⟩
      have hc := cnt_next (i := j) HP.out.symm HQ.out.symm (by rw [HL.out]; exact hlt)
      rw [show sat l j = (x, y) by rw [hx, hy], ← hr] at hc
      have hle1 : cntAt l k j ≤ 1 := by unfold cntAt; split <;> (try split) <;> omega
      obtain ⟨m, hm⟩ : ∃ m, m = cntAt l k j := ⟨_, rfl⟩
      rw [← hm] at hc hle1 ⊢
      have H5 : Hid (∀ W, Below w.heap.size w W → Calls Tryd.prog 12 #[(Go.Value.agg #[Go.Value.string x, Go.Value.string y]), .string k] W fun e w' => e = .returned (.bool r) ∧ Below W.heap.size W w') := fun W hW => by rw [hr]; exact H4.out W x y hW
      have HCC := Lib.hid hc
      have q0 : j < n := hlt
      have q1 : (j : Int) < (n : Int) := by omega
      clear hx hy hr hm hcl hc
      go_upto_region 7 with (fail)
      have X2 := Lib.hid (one_new wr x y).1
      have B4 := Lib.hid (B3.out.trans ((one_new wr x y).2.mono B3.out.size))
      generalize hw4 : wr.alloc _ = w4 at X2 B4 ⊢
      generalize hg : wr.heap.size = g at X2 ⊢
      clear hw4 hg x1 x2 B3
      obtain ⟨x1, x2⟩ := X2.out.cell
      cases r
      all_goals
        go_wp2_with fail
        refine (H5.out _ B4.out).mono ?_
        rintro e w5 ⟨rfl, hb5⟩
        have B5 := Lib.hid (B4.out.trans (hb5.mono B4.out.size))
        clear hb5
        go_wp2_with fail
        go_roundw
        case rel => exact ⟨j + 1, by omega, by go_num, by rw [HCC.out]; first | rfl | go_num, B5⟩
        case measure => simp [intOf]; omega
    · obtain rfl : j = n := by omega
      have he : cntAt l k j = 1 := by rw [← HL.out]; exact cnt_end HP.out.symm
      rw [he]
      clear he
      go_wp2_with fail
      refine (H1.out _ B3.out).mono ?_
      rintro e w5 ⟨rfl, hb5⟩
      go_wp2_with fail
      go_ret
      exact ⟨rfl, B3.out.trans (hb5.mono B3.out.size)⟩

end Go.Proofs.YtpmellfgmlgknaaDoor
