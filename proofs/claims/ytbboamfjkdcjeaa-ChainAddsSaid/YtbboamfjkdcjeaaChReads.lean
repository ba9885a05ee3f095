/-
  The walk of ChainReads, over what it asks of package chain.
-/
import Derived.Test.YtbboamfjkdcjeaaChAwake
import Derived.Test.YtbboamfjkdcjeaaVrRefValue
set_option linter.unusedVariables false
namespace Go.Proofs.Ytbboamfjkdcjeaa
open Go.RowKit

/-- A stamp and a chain in memory. -/
def KR (w : World) (x y z : Int) (v : Value) (l : List Ver) (W : World) : Prop := Below w.heap.size w W ∧ Box W w.heap.size x y z ∧ Vers W v l
theorem KR.new {w : World} {v : Value} {l : List Ver} (x y z : Int) (h : Vers w v l) : KR w x y z v l (w.alloc (.cells #[.int .i64 x, .int .i64 y, .int .i64 z] 24)) :=
  ⟨(Below.refl _ _).alloc (Nat.le_refl _) _, Box.new _ _ _ _, h.next ((Below.refl _ _).alloc (Nat.le_refl _) _)⟩
theorem KR.next {w W W' : World} {x y z : Int} {v : Value} {l : List Ver} (H : KR w x y z v l W) (hb : Below W.heap.size W W') : KR w x y z v l W' := ⟨H.1.trans (hb.mono H.1.size), H.2.1.over hb, H.2.2.next hb⟩
theorem KR.alloc {w W : World} {x y z : Int} {v : Value} {l : List Ver} (H : KR w x y z v l W) (o : Obj) : KR w x y z v l (W.alloc o) := H.next ((Below.refl _ _).alloc (Nat.le_refl _) o)
theorem vers_slice {w : World} {v : Value} {l : List Ver} (h : Vers w v l) : ∃ ao n cap, v = .slice ao n cap ∧ l.length = n := by
  obtain ⟨ao, cap, e, _⟩ := h
  exact ⟨ao, _, cap, e, rfl⟩

set_option maxRecDepth 100000 in
set_option maxHeartbeats 400000 in
theorem chainReads_core (HF : FAwake) (HA : FAt) (HV : FValue) (w : World) (v : Value) (l : List Ver) (x y z : Int) (hv : Vers w v l) : Calls Try.prog 4 #[v, (Go.Value.agg #[Go.Value.int Go.IntKind.i64 x, Go.Value.int Go.IntKind.i64 y, Go.Value.int Go.IntKind.i64 z])] w fun e w' => e = .returned (.bool true) ∧ Below w.heap.size w w' := by
  have HAW : Hid (∀ W, Calls Try.prog 9 #[] W fun e w' => e = .returned (.bool true) ∧ Below W.heap.size W w') := fun W => HF W
  obtain ⟨u, ok, ha⟩ := at_ex l x y z
  obtain ⟨a, b, c, g, s⟩ := u
  obtain ⟨t, ht⟩ : ∃ t, t = valV (a, b, c, g, s) ok := ⟨_, rfl⟩
  obtain ⟨i, hi⟩ : ∃ i, i = hasV (a, b, c, g, s) ok := ⟨_, rfl⟩
  obtain ⟨ao, n, cap, rfl, hn⟩ := vers_slice hv
  have A1 : Hid (∀ W, Vers W (.slice ao n cap) l → Calls Try.prog 16 #[.slice ao n cap, (Go.Value.agg #[Go.Value.int Go.IntKind.i64 x, Go.Value.int Go.IntKind.i64 y, Go.Value.int Go.IntKind.i64 z])] W fun e w' => e = .returned (.tuple #[(Go.Value.agg #[Go.Value.int Go.IntKind.i64 a, Go.Value.int Go.IntKind.i64 b, Go.Value.int Go.IntKind.i64 c, Go.Value.bool g, Go.Value.string s]), .bool ok]) ∧ Below W.heap.size W w') := fun W h => HA W _ l x y z a b c g s ok h ha
  have A2 : Hid (∀ W, Vers W (.slice ao n cap) l → Calls Try.prog 17 #[.slice ao n cap, (Go.Value.agg #[Go.Value.int Go.IntKind.i64 x, Go.Value.int Go.IntKind.i64 y, Go.Value.int Go.IntKind.i64 z])] W fun e w' => e = .returned (.tuple #[(Go.Value.agg #[Go.Value.int Go.IntKind.i64 a, Go.Value.int Go.IntKind.i64 b, Go.Value.int Go.IntKind.i64 c, Go.Value.bool g, Go.Value.string s]), .bool ok]) ∧ Below W.heap.size W w') := fun W h => refAt_any h ha
  have A3 : Hid (∀ W, Vers W (.slice ao n cap) l → Calls Try.prog 18 #[.slice ao n cap, (Go.Value.agg #[Go.Value.int Go.IntKind.i64 x, Go.Value.int Go.IntKind.i64 y, Go.Value.int Go.IntKind.i64 z])] W fun e w' => e = .returned (.tuple #[.string t, .bool i]) ∧ Below W.heap.size W w') := fun W h => by rw [ht, hi]; exact HV W _ l x y z _ ok h ha
  have A4 : Hid (∀ W, Vers W (.slice ao n cap) l → Calls Try.prog 19 #[.slice ao n cap, (Go.Value.agg #[Go.Value.int Go.IntKind.i64 x, Go.Value.int Go.IntKind.i64 y, Go.Value.int Go.IntKind.i64 z])] W fun e w' => e = .returned (.tuple #[.string t, .bool i]) ∧ Below W.heap.size W w') := fun W h => by rw [ht, hi]; exact refValue_any h ha
  have H0 := Lib.hid (KR.new x y z hv)
  clear hv ha ht hi HA HV HF hn
  by_cases h100 : 100 < n
  · go_enter Try.func4, Try.ntmps4
    go_wp2_with fail
    refine (HAW.out _).mono ?_
    rintro e w9 ⟨rfl, hb9⟩
    go_wp2_with fail
    go_ret
    exact ⟨rfl, H0.out.1.trans (hb9.mono H0.out.1.size)⟩
  · go_enter Try.func4, Try.ntmps4
    go_wp2_with fail
    refine (A1.out _ H0.out.2.2).mono ?_
    rintro e w1 ⟨rfl, hb1⟩
    have H1 := Lib.hid (H0.out.next hb1)
    clear hb1 H0 A1
    go_upto_region 4 with (fail)
    have H2 : Hid (KR w x y z (.slice ao n cap) l (w1.alloc (.cells #[.int .i64 a, .int .i64 b, .int .i64 c, .bool g, .string s] 26)) ∧ VBox (w1.alloc (.cells #[.int .i64 a, .int .i64 b, .int .i64 c, .bool g, .string s] 26)) w1.heap.size a b c g s) := ⟨H1.out.alloc _, VBox.new _ _ _ _ _ _⟩
    generalize (w1.alloc (.cells #[.int .i64 a, .int .i64 b, .int .i64 c, .bool g, .string s] 26)) = w2 at H2 ⊢
    generalize w1.heap.size = g5 at H2 ⊢
    clear H1
    go_wp2_with (first | (refine box_load w.heap.size H2.out.1.2.1 rfl _ rfl rfl ?_))
    refine (A2.out _ H2.out.1.2.2).mono ?_
    rintro e w3 ⟨rfl, hb3⟩
    have H3 : Hid (KR w x y z (.slice ao n cap) l w3 ∧ VBox w3 g5 a b c g s) := ⟨H2.out.1.next hb3, H2.out.2.over hb3⟩
    clear hb3 H2 A2
    go_upto_region 5 with (fail)
    have H4 : Hid (KR w x y z (.slice ao n cap) l (w3.alloc (.cells #[.int .i64 a, .int .i64 b, .int .i64 c, .bool g, .string s] 26)) ∧ VBox (w3.alloc (.cells #[.int .i64 a, .int .i64 b, .int .i64 c, .bool g, .string s] 26)) g5 a b c g s ∧ VBox (w3.alloc (.cells #[.int .i64 a, .int .i64 b, .int .i64 c, .bool g, .string s] 26)) w3.heap.size a b c g s) := ⟨H3.out.1.alloc _, H3.out.2.alloc _, VBox.new _ _ _ _ _ _⟩
    generalize (w3.alloc (.cells #[.int .i64 a, .int .i64 b, .int .i64 c, .bool g, .string s] 26)) = w4 at H4 ⊢
    generalize w3.heap.size = g7 at H4 ⊢
    clear H3
    go_wp2_with (first | (refine box_load w.heap.size H4.out.1.2.1 rfl _ rfl rfl ?_))
    refine (A3.out _ H4.out.1.2.2).mono ?_
    rintro e w5 ⟨rfl, hb5⟩
    have H5 : Hid (KR w x y z (.slice ao n cap) l w5 ∧ VBox w5 g5 a b c g s ∧ VBox w5 g7 a b c g s) := ⟨H4.out.1.next hb5, H4.out.2.1.over hb5, H4.out.2.2.over hb5⟩
    clear hb5 H4 A3
    go_wp2_with (first | (refine box_load w.heap.size H5.out.1.2.1 rfl _ rfl rfl ?_))
    refine (A4.out _ H5.out.1.2.2).mono ?_
    rintro e w6 ⟨rfl, hb6⟩
    have H6 : Hid (KR w x y z (.slice ao n cap) l w6 ∧ VBox w6 g5 a b c g s ∧ VBox w6 g7 a b c g s) := ⟨H5.out.1.next hb6, H5.out.2.1.over hb6, H5.out.2.2.over hb6⟩
    clear hb6 H5 A4
    obtain ⟨x0, x1, x2, x3, x4⟩ := H6.out.2.1.cell
    obtain ⟨y0, y1, y2, y3, y4⟩ := H6.out.2.2.cell
    go_wp2_with fail
    refine (HAW.out _).mono ?_
    rintro e w9 ⟨rfl, hb9⟩
    go_wp2_with fail
    go_ret
    exact ⟨rfl, H6.out.1.1.trans (hb9.mono H6.out.1.1.size)⟩

end Go.Proofs.Ytbboamfjkdcjeaa
