/-
  The contract of chain.follows.
-/
import Derived.Test.YtbboamfjkdcjeaaSmCompare
import Derived.Test.YtbboamfjkdcjeaaSmCalm
import Derived.Test.YtbboamfjkdcjeaaVrBox
import Derived.Deep.DeepCutAuto
set_option linter.unusedVariables false
namespace Go.Proofs.Ytbboamfjkdcjeaa
open Go.RowKit

/-- Is a version later than the last of a chain? -/
def folB (l : List Ver) (v : Ver) : Bool := decide (l.length = 0) || befV (vat l (l.length - 1)) v
theorem fol_nil (v : Ver) : folB [] v = true := rfl
/-- The boxed version and one of a row. -/
def FoRel (w : World) (b o : Nat) (u v : Ver) (W : World) : Prop := b < w.heap.size ∧ Below w.heap.size w W ∧ VBox W w.heap.size v.1 v.2.1 v.2.2.1 v.2.2.2.1 v.2.2.2.2 ∧ VerAt W b o u
theorem FoRel.next {w W W' : World} {b o : Nat} {u v : Ver} (H : FoRel w b o u v W) (hb : Below W.heap.size W W') : FoRel w b o u v W' := by
  obtain ⟨h0, h1, h2, h3⟩ := H
  have := h1.size
  exact ⟨h0, h1.trans (hb.mono h1.size), h2.over hb, h3.next hb (by omega)⟩
theorem FoRel.drew {w W : World} {b o : Nat} {u v : Ver} (H : FoRel w b o u v W) : FoRel w b o u v W.drew := H.next ((Below.refl _ _).drew)

set_option maxRecDepth 100000 in
set_option maxHeartbeats 1000000 in
theorem follows_core (a b c : Int) (g : Bool) (s : ByteArray) (w : World) (b0 off k n cap : Nat) (u : Ver) (hn : n = k + 1) (hk : n ≤ maxLen) (hb0 : b0 < w.heap.size) (hu : VerAt w b0 (off + k * 5) u) :
    Calls Try.prog 25 #[(Go.Value.agg #[Go.Value.int Go.IntKind.i64 a, Go.Value.int Go.IntKind.i64 b, Go.Value.int Go.IntKind.i64 c, Go.Value.bool g, Go.Value.string s]), .slice (some ⟨b0, off, none⟩) n cap] w fun e w' => e = .returned (.bool (befV u (a, b, c, g, s))) ∧ Below w.heap.size w w' := by
  obtain ⟨ua, ub, uc, ug, us⟩ := u
  obtain ⟨q, hq⟩ : ∃ q, q = cmpI a b c ua ub uc := ⟨_, rfl⟩
  have HC : Hid (∀ W, Calls Try.prog 22 #[(Go.Value.agg #[Go.Value.int Go.IntKind.i64 a, Go.Value.int Go.IntKind.i64 b, Go.Value.int Go.IntKind.i64 c]), (Go.Value.agg #[Go.Value.int Go.IntKind.i64 ua, Go.Value.int Go.IntKind.i64 ub, Go.Value.int Go.IntKind.i64 uc])] W fun e w' => e = .returned (.int .i64 q) ∧ Below W.heap.size W w') := fun W => by rw [hq]; exact Compare_any _ _ _ _ _ _ W
  have HQ : Hid (befV (ua, ub, uc, ug, us) (a, b, c, g, s) = decide (0 < q)) := by
    show _ = _
    rcases cmp_cases a b c ua ub uc with ⟨h1, h2, h3⟩ | ⟨h1, h2, h3⟩ | ⟨h1, h2, h3, _⟩ <;> simp [befV, hq, h2, h3]
  have H : Hid (FoRel w b0 (off + k * 5) (ua, ub, uc, ug, us) (a, b, c, g, s) (w.alloc (.cells #[.int .i64 a, .int .i64 b, .int .i64 c, .bool g, .string s] 26))) :=
    ⟨hb0, (Below.refl _ _).alloc (Nat.le_refl _) _, VBox.new _ _ _ _ _ _, hu.next ((Below.refl _ _).alloc (Nat.le_refl _) _) hb0⟩
  have hmx : n ≤ 9223372036854775807 := Nat.le_trans hk (by decide)
  clear hq hu hb0 hk
  have q1 := IntWalk.i64_in (k : Int) (by omega)
  have q2 : ((n : Int) == 0) = false := beq_eq_false_iff_ne.2 (by omega)
  have q3 : k < n := by omega
  have q4 : (n : Int) - 1 = (k : Int) := by omega
  have q5 : ¬ n = 0 := by omega
  have HN := Lib.hid hn
  clear hn
  go_enter Try.func25, Try.ntmps25
  go_upto_region 1 with (fail)
  refine wp_region_calm (FoRel w b0 (off + k * 5) (ua, ub, uc, ug, us) (a, b, c, g, s)) (by kernel_rfl) (by kernel_rfl) H.out.drew ?_
  repeat ((with_reducible refine wpQuiet_step (fun K hK => ?_)); go_simp; first | (refine hK _ ?_; clear hK K) | (apply Exists.intro; refine ⟨fun wc hwc => ?_, hK _ ?_⟩; (focus (first | (first | (go_at_call 22; refine (HC.out _).mono ?_; rintro e w1 ⟨rfl, hb1⟩; exact ⟨rfl, hwc.next hb1⟩)) | (((obtain ⟨_, _, hx, ⟨x0, x1, x2, x3, x4⟩⟩ := hwc; obtain ⟨y0, y1, y2, y3, y4⟩ := hx.cell; dsimp only at x0 x1 x2 x3 x4 y0 y1 y2 y3 y4; clear hx)); go_simp; done) | (((obtain ⟨_, _, hx, ⟨x0, x1, x2, x3, x4⟩⟩ := hwc; obtain ⟨y0, y1, y2, y3, y4⟩ := hx.cell; dsimp only at x0 x1 x2 x3 x4 y0 y1 y2 y3 y4; clear hx)); go_simp; exact rfl))); clear hK K))
  refine wpQuiet_nil ?_
  intro wc hwc
  go_wp2_with fail
  go_ret
  exact ⟨by rw [HQ.out]; rfl, hwc.2.1⟩

set_option maxRecDepth 100000 in
set_option maxHeartbeats 400000 in
theorem follows_nil (a b c : Int) (g : Bool) (s : ByteArray) (w : World) (ao : Option Addr) (cap : Nat) :
    Calls Try.prog 25 #[(Go.Value.agg #[Go.Value.int Go.IntKind.i64 a, Go.Value.int Go.IntKind.i64 b, Go.Value.int Go.IntKind.i64 c, Go.Value.bool g, Go.Value.string s]), .slice ao 0 cap] w fun e w' => e = .returned (.bool true) ∧ Below w.heap.size w w' := by
  have HB : Hid (Below w.heap.size w (w.alloc (.cells #[.int .i64 a, .int .i64 b, .int .i64 c, .bool g, .string s] 26))) := (Below.refl _ _).alloc (Nat.le_refl _) _
  go_enter Try.func25, Try.ntmps25
  go_upto_region 1 with (fail)
  refine wp_region_calm (fun W => Below w.heap.size w W) (by kernel_rfl) (by kernel_rfl) HB.out.drew ?_
  repeat ((with_reducible refine wpQuiet_step (fun K hK => ?_)); go_simp; first | (refine hK _ ?_; clear hK K) | (apply Exists.intro; refine ⟨fun wc hwc => ?_, hK _ ?_⟩; (focus (first | (fail) | ((skip); go_simp; done) | ((skip); go_simp; exact rfl))); clear hK K))
  refine wpQuiet_nil ?_
  intro wc hwc
  go_wp2_with fail
  go_ret
  exact ⟨rfl, hwc⟩

theorem follows_any {w : World} {v : Value} {l : List Ver} (h : Vers w v l) (a b c : Int) (g : Bool) (s : ByteArray) :
    Calls Try.prog 25 #[(Go.Value.agg #[Go.Value.int Go.IntKind.i64 a, Go.Value.int Go.IntKind.i64 b, Go.Value.int Go.IntKind.i64 c, Go.Value.bool g, Go.Value.string s]), v] w fun e w' => e = .returned (.bool (folB l (a, b, c, g, s))) ∧ Below w.heap.size w w' := by
  obtain ⟨ao, cap, rfl, h1, h2, h3⟩ := h
  cases l with
  | nil => exact follows_nil a b c g s w ao cap
  | cons u l =>
    obtain ⟨b0, off, rfl, hb, hcl⟩ := h3 (by simp)
    have h4 := follows_core a b c g s w b0 off l.length _ cap (vat (u :: l) l.length) rfl (by simp at h1 ⊢; omega) hb (hcl _ (by simp))
    have e : folB (u :: l) (a, b, c, g, s) = befV (vat (u :: l) l.length) (a, b, c, g, s) := by simp [folB]
    rw [e]
    exact h4

end Go.Proofs.Ytbboamfjkdcjeaa
