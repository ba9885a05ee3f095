/-
  The contract of the document's Equal, of two chains that are the same.
-/
import Derived.Test.YtbboamfjkdcjeaaVrBox
import Derived.Test.YtbboamfjkdcjeaaSmCalm
import Derived.Deep.DeepCutAuto
set_option linter.unusedVariables false
namespace Go.Proofs.Ytbboamfjkdcjeaa
open Go.RowKit

/-- The same version at two places. -/
def EqRel (w : World) (b1 o1 b2 o2 : Nat) (v : Ver) (W : World) : Prop := b1 < w.heap.size ∧ b2 < w.heap.size ∧ Below w.heap.size w W ∧ VerAt W b1 o1 v ∧ VerAt W b2 o2 v
theorem EqRel.next {w W W' : World} {b1 o1 b2 o2 : Nat} {v : Ver} (H : EqRel w b1 o1 b2 o2 v W) (hb : Below W.heap.size W W') : EqRel w b1 o1 b2 o2 v W' := by
  obtain ⟨h0, h1, h2, h3, h4⟩ := H
  have := h2.size
  exact ⟨h0, h1, h2.trans (hb.mono h2.size), h3.next hb (by omega), h4.next hb (by omega)⟩
theorem EqRel.drew {w W : World} {b1 o1 b2 o2 : Nat} {v : Ver} (H : EqRel w b1 o1 b2 o2 v W) : EqRel w b1 o1 b2 o2 v W.drew := H.next ((Below.refl _ _).drew)

set_option maxRecDepth 100000 in
set_option maxHeartbeats 1000000 in
theorem refEqual_row (w : World) (ao ao' : Option Addr) (n cap cap' : Nat) (l : List Ver) (hn : n ≤ 9223372036854775807) (hcell : 0 < n → ∃ b off, ao = some ⟨b, off, none⟩ ∧ b < w.heap.size ∧ ∀ i, i < n → VerAt w b (off + i * 5) (vat l i))
    (hcell' : 0 < n → ∃ b off, ao' = some ⟨b, off, none⟩ ∧ b < w.heap.size ∧ ∀ i, i < n → VerAt w b (off + i * 5) (vat l i)) :
    Calls Try.prog 15 #[.slice ao n cap, .slice ao' n cap'] w fun e w' => e = .returned (.bool true) ∧ Below w.heap.size w w' := by
  have HC := Lib.hid hcell
  have HC' := Lib.hid hcell'
  clear hcell hcell'
  go_enter Try.func15, Try.ntmps15
  go_wp2_with fail
  go_loopw [5] (fun i wr => ∃ k : Nat, k ≤ n ∧ i = .int .i64 k ∧ Hid (Below w.heap.size w wr)) (fun i _ => n - (intOf i).toNat)
  case atStart => exact ⟨0, Nat.zero_le _, rfl, Below.refl _ _⟩
  case round =>
    obtain ⟨k, hk, rfl, hbel⟩ := hrel
    by_cases hlt : k < n
    · obtain ⟨b, off, rfl, hb, hcl⟩ := HC.out (by omega)
      obtain ⟨b', off', rfl, hb', hcl'⟩ := HC'.out (by omega)
      obtain ⟨v, hv⟩ : ∃ v, v = vat l k := ⟨_, rfl⟩
      have H : Hid (EqRel w b (off + k * 5) b' (off' + k * 5) v wr) := ⟨hb, hb', hbel.out, by rw [hv]; exact (hcl k hlt).next hbel.out hb, by rw [hv]; exact (hcl' k hlt).next hbel.out hb'⟩
      clear hv hcl hcl' hbel
      obtain ⟨a, t, c, g, s⟩ := v
      have q0 : k < n := hlt
      go_upto_region 6 with (fail)
      refine wp_region_calm (EqRel w b (off + k * 5) b' (off' + k * 5) (a, t, c, g, s)) (by kernel_rfl) (by kernel_rfl) H.out.drew ?_
      repeat ((with_reducible refine wpQuiet_step (fun K hK => ?_)); go_simp; first | (refine hK _ ?_; clear hK K) | (apply Exists.intro; refine ⟨fun wc hwc => ?_, hK _ ?_⟩; (focus (first | (fail) | (((obtain ⟨_, _, _, ⟨x0, x1, x2, x3, x4⟩, ⟨y0, y1, y2, y3, y4⟩⟩ := hwc; dsimp only at x0 x1 x2 x3 x4 y0 y1 y2 y3 y4)); go_simp; done) | (((obtain ⟨_, _, _, ⟨x0, x1, x2, x3, x4⟩, ⟨y0, y1, y2, y3, y4⟩⟩ := hwc; dsimp only at x0 x1 x2 x3 x4 y0 y1 y2 y3 y4)); go_simp; exact rfl))); clear hK K))
      refine wpQuiet_nil ?_
      intro wc hwc
      go_wp2_with fail
      go_roundw
      case rel => exact ⟨k + 1, by omega, by go_num, hwc.2.2.1⟩
      case measure => simp [intOf]; omega
    · go_wp2_with fail
      go_ret
      exact ⟨rfl, hbel.out⟩

theorem refEqual_any {w : World} {v v' : Value} {l : List Ver} (h : Vers w v l) (h' : Vers w v' l) : Calls Try.prog 15 #[v, v'] w fun e w' => e = .returned (.bool true) ∧ Below w.heap.size w w' := by
  obtain ⟨ao, cap, rfl, h1, h2, h3⟩ := h
  obtain ⟨ao', cap', rfl, h1', h2', h3'⟩ := h'
  exact refEqual_row w ao ao' _ cap cap' l (by have : maxLen ≤ 9223372036854775807 := by decide
                                               omega) h3 h3'

end Go.Proofs.Ytbboamfjkdcjeaa
