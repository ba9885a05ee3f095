/-
  The contract of the document's Right of a chain.
-/
import Derived.Test.YtbboamfjkdcjeaaVrRefOne
import Derived.Test.YtbboamfjkdcjeaaSmBefore
import Derived.Test.YtbboamfjkdcjeaaSmCalm
import Derived.Deep.DeepCutAuto
set_option linter.unusedVariables false
namespace Go.Proofs.Ytbboamfjkdcjeaa
open Go.RowKit

/-- Two versions of a row, and nothing old touched. -/
def V2 (w : World) (b o1 : Nat) (u : Ver) (o2 : Nat) (v : Ver) (W : World) : Prop := b < w.heap.size ∧ Below w.heap.size w W ∧ VerAt W b o1 u ∧ VerAt W b o2 v
theorem V2.next {w W W' : World} {b o1 o2 : Nat} {u v : Ver} (H : V2 w b o1 u o2 v W) (hb : Below W.heap.size W W') : V2 w b o1 u o2 v W' := by
  obtain ⟨h0, h1, h2, h3⟩ := H
  have := h1.size
  exact ⟨h0, h1.trans (hb.mono h1.size), h2.next hb (by omega), h3.next hb (by omega)⟩
theorem V2.drew {w W : World} {b o1 o2 : Nat} {u v : Ver} (H : V2 w b o1 u o2 v W) : V2 w b o1 u o2 v W.drew := H.next ((Below.refl _ _).drew)

set_option maxRecDepth 100000 in
set_option maxHeartbeats 2000000 in
theorem refRight_row (w : World) (ao : Option Addr) (n cap : Nat) (l : List Ver) (hl : l.length = n) (hcell : 0 < n → ∃ b off, ao = some ⟨b, off, none⟩ ∧ b < w.heap.size ∧ ∀ i, i < n → VerAt w b (off + i * 5) (vat l i)) :
    Calls Try.prog 11 #[.slice ao n cap] w fun e w' => e = .returned (.bool (rightC l)) ∧ Below w.heap.size w w' := by
  have HL := Lib.hid hl
  have HC := Lib.hid hcell
  clear hl hcell
  by_cases h64 : 64 < n
  · have HE : Hid (rightC l = false) := rightC_long (by rw [HL.out]; omega)
    go_enter Try.func11, Try.ntmps11
    go_wp2_with fail
    go_ret
    exact ⟨by rw [HE.out]; rfl, Below.refl _ _⟩
  go_enter Try.func11, Try.ntmps11
  go_wp2_with fail
  go_loopw [3] (fun i wr => ∃ k : Nat, k ≤ n ∧ i = .int .i64 k ∧ Hid (∀ j, j < k → okAt l j = true) ∧ Hid (Below w.heap.size w wr)) (fun i _ => n - (intOf i).toNat)
  case atStart => exact ⟨0, Nat.zero_le _, rfl, fun j hj => absurd hj (Nat.not_lt_zero _), Below.refl _ _⟩
  case round =>
    obtain ⟨k, hk, rfl, hok, hbel⟩ := hrel
    by_cases hlt : k < n
    · obtain ⟨b, off, rfl, hb, hcl⟩ := HC.out (by omega)
      obtain ⟨v, hv⟩ : ∃ v, v = vat l k := ⟨_, rfl⟩
      obtain ⟨a, t, c, g, s⟩ := v
      have HV := Lib.hid hv
      have HK : Hid (VerAt wr b (off + k * 5) (a, t, c, g, s)) := by rw [hv]; exact (hcl k hlt).next hbel.out hb
      obtain ⟨o, ho⟩ : ∃ o, o = oneB (a, t, c, g, s) := ⟨_, rfl⟩
      have HO : Hid (∀ W, Calls Try.prog 12 #[(Go.Value.agg #[Go.Value.int Go.IntKind.i64 a, Go.Value.int Go.IntKind.i64 t, Go.Value.int Go.IntKind.i64 c, Go.Value.bool g, Go.Value.string s])] W fun e w' => e = .returned (.bool o) ∧ Below W.heap.size W w') := fun W => by rw [ho]; exact refOne_any a t c g s W
      have HO2 := Lib.hid ho
      clear hv ho
      obtain ⟨k0, k1, k2, k3, k4⟩ := HK.out
      dsimp only at k0 k1 k2 k3 k4
      cases o
      · have HE : Hid (rightC l = false) := rightC_at (i := k) (by rw [HL.out]; exact hlt) (by unfold okAt; rw [← HV.out, ← HO2.out]; rfl)
        go_wp2_with fail
        refine (HO.out _).mono ?_
        rintro e w1 ⟨rfl, hb1⟩
        go_wp2_with fail
        go_ret
        exact ⟨by rw [HE.out]; rfl, hbel.out.trans (hb1.mono hbel.out.size)⟩
      · go_wp2_with fail
        refine (HO.out _).mono ?_
        rintro e w1 ⟨rfl, hb1⟩
        have hbel1 : Hid (Below w.heap.size w w1) := hbel.out.trans (hb1.mono hbel.out.size)
        clear k0 k1 k2 k3 k4 HK hb1 hbel
        go_upto_region 8 with (fail)
        cases k with
        | zero =>
          have HN : Hid (∀ j, j < 0 + 1 → okAt l j = true) := by
            intro j hj
            obtain rfl : j = 0 := by omega
            unfold okAt; rw [← HV.out, ← HO2.out]; rfl
          refine wp_region_calm (fun W => Below w.heap.size w W) (by kernel_rfl) (by kernel_rfl) hbel1.out.drew ?_
          repeat ((with_reducible refine wpQuiet_step (fun K hK => ?_)); go_simp; first | (refine hK _ ?_; clear hK K) | (apply Exists.intro; refine ⟨fun wc hwc => ?_, hK _ ?_⟩; (focus (first | (fail) | ((skip); go_simp; done) | ((skip); go_simp; exact rfl))); clear hK K))
          refine wpQuiet_nil ?_
          intro wc hwc
          go_wp2_with fail
          go_roundw
          case rel => exact ⟨0 + 1, by omega, by go_num, HN, hwc⟩
          case measure => simp [intOf]; omega
        | succ m =>
          obtain ⟨u, hu⟩ : ∃ u, u = vat l m := ⟨_, rfl⟩
          obtain ⟨a', t', c', g', s'⟩ := u
          have HU := Lib.hid hu
          obtain ⟨r, hr⟩ : ∃ r, r = befB a' t' c' a t c := ⟨_, rfl⟩
          have HB : Hid (∀ W, Calls Try.prog 13 #[(Go.Value.agg #[Go.Value.int Go.IntKind.i64 a', Go.Value.int Go.IntKind.i64 t', Go.Value.int Go.IntKind.i64 c']), (Go.Value.agg #[Go.Value.int Go.IntKind.i64 a, Go.Value.int Go.IntKind.i64 t, Go.Value.int Go.IntKind.i64 c])] W fun e w' => e = .returned (.bool r) ∧ Below W.heap.size W w') := fun W => by rw [hr]; exact Before_any _ _ _ _ _ _ W
          have HR := Lib.hid hr
          have H2 : Hid (V2 w b (off + m * 5) (a', t', c', g', s') (off + (m + 1) * 5) (a, t, c, g, s) w1) := by
            refine ⟨hb, hbel1.out, ?_, ?_⟩
            · rw [hu]; exact (hcl m (by omega)).next hbel1.out hb
            · rw [HV.out]; exact (hcl (m + 1) hlt).next hbel1.out hb
          have q1 := IntWalk.i64_in (m : Int) (by omega)
          have q2 : ((m : Int) + 1).toNat = m + 1 := by omega
          have q3 : (0 : Int) ≤ (m : Int) + 1 := by omega
          have q4 : m < n := by omega
          have q5 : (m : Int) + 1 < (n : Int) := by omega
          clear hu hr
          cases r
          · have HE : Hid (rightC l = false) := rightC_at (i := m + 1) (by rw [HL.out]; exact hlt) (by
              unfold okAt befV; rw [← HV.out, ← HO2.out, Nat.add_sub_cancel, ← HU.out]
              simp only [← HR.out]
              simp)
            refine wp_region_calm (V2 w b (off + m * 5) (a', t', c', g', s') (off + (m + 1) * 5) (a, t, c, g, s)) (by kernel_rfl) (by kernel_rfl) H2.out.drew ?_
            repeat ((with_reducible refine wpQuiet_step (fun K hK => ?_)); go_simp; first | (refine hK _ ?_; clear hK K) | (apply Exists.intro; refine ⟨fun wc hwc => ?_, hK _ ?_⟩; (focus (first | (first | (go_at_call 13; refine (HB.out _).mono ?_; rintro e w1 ⟨rfl, hb1⟩; exact ⟨rfl, hwc.next hb1⟩)) | (((obtain ⟨_, _, ⟨x0, x1, x2, _⟩, ⟨y0, y1, y2, _⟩⟩ := hwc; dsimp only at x0 x1 x2 y0 y1 y2)); go_simp; done) | (((obtain ⟨_, _, ⟨x0, x1, x2, _⟩, ⟨y0, y1, y2, _⟩⟩ := hwc; dsimp only at x0 x1 x2 y0 y1 y2)); go_simp; exact rfl))); clear hK K))
            refine wpQuiet_nil ?_
            intro wc hwc
            go_wp2_with fail
            go_ret
            exact ⟨by rw [HE.out]; rfl, hwc.2.1⟩
          · have HN : Hid (∀ j, j < m + 1 + 1 → okAt l j = true) := by
              intro j hj
              by_cases hjm : j < m + 1
              · exact hok.out j hjm
              · obtain rfl : j = m + 1 := by omega
                unfold okAt befV; rw [← HV.out, ← HO2.out, Nat.add_sub_cancel, ← HU.out]
                simp only [← HR.out]
                simp
            refine wp_region_calm (V2 w b (off + m * 5) (a', t', c', g', s') (off + (m + 1) * 5) (a, t, c, g, s)) (by kernel_rfl) (by kernel_rfl) H2.out.drew ?_
            repeat ((with_reducible refine wpQuiet_step (fun K hK => ?_)); go_simp; first | (refine hK _ ?_; clear hK K) | (apply Exists.intro; refine ⟨fun wc hwc => ?_, hK _ ?_⟩; (focus (first | (first | (go_at_call 13; refine (HB.out _).mono ?_; rintro e w1 ⟨rfl, hb1⟩; exact ⟨rfl, hwc.next hb1⟩)) | (((obtain ⟨_, _, ⟨x0, x1, x2, _⟩, ⟨y0, y1, y2, _⟩⟩ := hwc; dsimp only at x0 x1 x2 y0 y1 y2)); go_simp; done) | (((obtain ⟨_, _, ⟨x0, x1, x2, _⟩, ⟨y0, y1, y2, _⟩⟩ := hwc; dsimp only at x0 x1 x2 y0 y1 y2)); go_simp; exact rfl))); clear hK K))
            refine wpQuiet_nil ?_
            intro wc hwc
            go_wp2_with fail
            go_roundw
            case rel => exact ⟨m + 1 + 1, by omega, by go_num, HN, hwc.2.1⟩
            case measure => simp [intOf]; omega
    · have HE : Hid (rightC l = true) := rightC_yes (by rw [HL.out]; omega) (fun i hi => hok.out i (by rw [HL.out] at hi; omega))
      go_wp2_with fail
      go_ret
      exact ⟨by rw [HE.out]; rfl, hbel.out⟩

theorem refCRight_any {w : World} {v : Value} {l : List Ver} (h : Vers w v l) : Calls Try.prog 11 #[v] w fun e w' => e = .returned (.bool (rightC l)) ∧ Below w.heap.size w w' := by
  obtain ⟨ao, cap, rfl, h1, h2, h3⟩ := h
  exact refRight_row w ao _ cap l rfl h3

end Go.Proofs.Ytbboamfjkdcjeaa
