/-
  The walk of ChainKeeps, over what it asks of package chain.
-/
import Derived.Test.YtbboamfjkdcjeaaChReads
import Derived.Test.YtbboamfjkdcjeaaSmCompare
set_option linter.unusedVariables false
namespace Go.Proofs.Ytbboamfjkdcjeaa
open Go.RowKit

/-- Two stamps and a chain in memory. -/
def K2 (w : World) (x y z a b c : Int) (v : Value) (l : List Ver) (W : World) : Prop := Below w.heap.size w W ∧ Box W w.heap.size x y z ∧ Box W (w.heap.size + 1) a b c ∧ Vers W v l
theorem K2.new {w : World} {v : Value} {l : List Ver} (x y z a b c : Int) (h : Vers w v l) : K2 w x y z a b c v l (((w.alloc (.cells #[.int .i64 x, .int .i64 y, .int .i64 z] 24))).alloc (.cells #[.int .i64 a, .int .i64 b, .int .i64 c] 24)) := by
  have hb : Below w.heap.size w (((w.alloc (.cells #[.int .i64 x, .int .i64 y, .int .i64 z] 24))).alloc (.cells #[.int .i64 a, .int .i64 b, .int .i64 c] 24)) := ((Below.refl _ _).alloc (Nat.le_refl _) _).alloc (by simp) _
  have h2 := Box.new (w.alloc (.cells #[.int .i64 x, .int .i64 y, .int .i64 z] 24)) a b c
  rw [size_alloc] at h2
  exact ⟨hb, (Box.new _ _ _ _).alloc _, h2, h.next hb⟩
theorem K2.next {w W W' : World} {x y z a b c : Int} {v : Value} {l : List Ver} (H : K2 w x y z a b c v l W) (hb : Below W.heap.size W W') : K2 w x y z a b c v l W' := ⟨H.1.trans (hb.mono H.1.size), H.2.1.over hb, H.2.2.1.over hb, H.2.2.2.next hb⟩

set_option maxRecDepth 100000 in
set_option maxHeartbeats 400000 in
theorem chainKeeps_core (HF : FAwake) (HR : FRight) (HV : FValue) (HP : FPrune) (w : World) (v : Value) (l : List Ver) (x y z a b c : Int) (hv : Vers w v l) : Calls Try.prog 6 #[v, (Go.Value.agg #[Go.Value.int Go.IntKind.i64 x, Go.Value.int Go.IntKind.i64 y, Go.Value.int Go.IntKind.i64 z]), (Go.Value.agg #[Go.Value.int Go.IntKind.i64 a, Go.Value.int Go.IntKind.i64 b, Go.Value.int Go.IntKind.i64 c])] w fun e w' => e = .returned (.bool true) ∧ Below w.heap.size w w' := by
  have HAW : Hid (∀ W, Calls Try.prog 9 #[] W fun e w' => e = .returned (.bool true) ∧ Below W.heap.size W w') := fun W => HF W
  obtain ⟨m, hm⟩ := pruned_ex l x y z
  obtain ⟨u, ok, ha⟩ := at_ex l a b c
  obtain ⟨u', ok', ha'⟩ := at_ex m a b c
  obtain ⟨t, ht⟩ : ∃ t, t = valV u ok := ⟨_, rfl⟩
  obtain ⟨i, hi⟩ : ∃ i, i = hasV u ok := ⟨_, rfl⟩
  obtain ⟨ao, n, cap, rfl, hn⟩ := vers_slice hv
  obtain ⟨r, hr⟩ : ∃ r, r = rightC l := ⟨_, rfl⟩
  obtain ⟨q, hq⟩ : ∃ q, q = cmpI a b c x y z := ⟨_, rfl⟩
  have A0 : Hid (∀ W, Calls Try.prog 22 #[(Go.Value.agg #[Go.Value.int Go.IntKind.i64 a, Go.Value.int Go.IntKind.i64 b, Go.Value.int Go.IntKind.i64 c]), (Go.Value.agg #[Go.Value.int Go.IntKind.i64 x, Go.Value.int Go.IntKind.i64 y, Go.Value.int Go.IntKind.i64 z])] W fun e w' => e = .returned (.int .i64 q) ∧ Below W.heap.size W w') := fun W => by rw [hq]; exact Compare_any _ _ _ _ _ _ W
  have A1 : Hid (∀ W, Vers W (.slice ao n cap) l → Calls Try.prog 20 #[.slice ao n cap, (Go.Value.agg #[Go.Value.int Go.IntKind.i64 x, Go.Value.int Go.IntKind.i64 y, Go.Value.int Go.IntKind.i64 z])] W fun e w' => ∃ v', e = .returned v' ∧ Vers w' v' m ∧ Below W.heap.size W w') := fun W h => HP W _ l x y z m h hm
  have A2 : Hid (∀ W, Vers W (.slice ao n cap) l → Calls Try.prog 14 #[.slice ao n cap] W fun e w' => e = .returned (.bool r) ∧ Below W.heap.size W w') := fun W h => by rw [hr]; exact HR W _ l h
  have A3 : Hid (∀ W, Vers W (.slice ao n cap) l → Calls Try.prog 18 #[.slice ao n cap, (Go.Value.agg #[Go.Value.int Go.IntKind.i64 a, Go.Value.int Go.IntKind.i64 b, Go.Value.int Go.IntKind.i64 c])] W fun e w' => e = .returned (.tuple #[.string t, .bool i]) ∧ Below W.heap.size W w') := fun W h => by rw [ht, hi]; exact HV W _ l a b c _ ok h ha
  have A4 : Hid (r = true → ¬ q < 0 → (∀ W v', Vers W v' m → Calls Try.prog 18 #[v', (Go.Value.agg #[Go.Value.int Go.IntKind.i64 a, Go.Value.int Go.IntKind.i64 b, Go.Value.int Go.IntKind.i64 c])] W fun e w' => e = .returned (.tuple #[.string t, .bool i]) ∧ Below W.heap.size W w') ∧ (∀ W v', Vers W v' m → Calls Try.prog 14 #[v'] W fun e w' => e = .returned (.bool true) ∧ Below W.heap.size W w') ∧ m.length ≤ n) := by
    intro h1 h2
    rw [h1] at hr
    have h3 := pruned_right hm hr.symm
    have hle : befB a b c x y z = false := by
      rcases cmp_cases a b c x y z with ⟨_, _, k⟩ | ⟨k, _⟩ | ⟨k, _⟩
      · omega
      · exact k
      · exact k
    have h4 := pruned_keeps hr.symm hm hle ha ha'
    exact ⟨fun W v' h => by rw [ht, hi, h4.1, h4.2]; exact HV W _ m a b c _ ok' h ha', fun W v' h => by rw [← h3.1]; exact HR W _ m h, by omega⟩
  have H0 := Lib.hid (K2.new x y z a b c hv)
  clear hv hm hr hq ht hi ha ha' HP HF HR HV hn
  have hcase : 100 < n ∨ (¬ 100 < n ∧ r = false) ∨ (¬ 100 < n ∧ r = true ∧ q < 0) ∨ (¬ 100 < n ∧ r = true ∧ ¬ q < 0) := by
    cases r <;> simp <;> omega
  rcases hcase with h100 | ⟨h100, rfl⟩ | ⟨h100, rfl, hq⟩ | ⟨h100, rfl, hq⟩
  · go_enter Try.func6, Try.ntmps6
    go_wp2_with fail
    refine (HAW.out _).mono ?_
    rintro e w9 ⟨rfl, hb9⟩
    go_wp2_with fail
    go_ret
    exact ⟨rfl, H0.out.1.trans (hb9.mono H0.out.1.size)⟩
  · go_enter Try.func6, Try.ntmps6
    go_wp2_with fail
    refine (A2.out _ H0.out.2.2.2).mono ?_
    rintro e w1 ⟨rfl, hb1⟩
    have hb := H0.out.1.trans (hb1.mono H0.out.1.size)
    go_wp2_with fail
    refine (HAW.out _).mono ?_
    rintro e w9 ⟨rfl, hb9⟩
    go_wp2_with fail
    go_ret
    exact ⟨rfl, hb.trans (hb9.mono hb.size)⟩
  · have hqd : decide (q < 0) = true := decide_eq_true hq
    clear hq
    go_enter Try.func6, Try.ntmps6
    go_wp2_with fail
    refine (A2.out _ H0.out.2.2.2).mono ?_
    rintro e w1 ⟨rfl, hb1⟩
    have H1 := Lib.hid (H0.out.next hb1)
    clear hb1 H0
    obtain ⟨x0, x1, x2⟩ := H1.out.2.1.cell
    obtain ⟨y0, y1, y2⟩ := H1.out.2.2.1.cell
    go_wp2_with fail
    refine (A0.out _).mono ?_
    rintro e w2 ⟨rfl, hb2⟩
    have hb := H1.out.1.trans (hb2.mono H1.out.1.size)
    clear x0 x1 x2 y0 y1 y2
    go_wp2_with fail
    refine (HAW.out _).mono ?_
    rintro e w9 ⟨rfl, hb9⟩
    go_wp2_with fail
    go_ret
    exact ⟨rfl, hb.trans (hb9.mono hb.size)⟩
  · have hqd : decide (q < 0) = false := decide_eq_false hq
    have A5 := Lib.hid (A4.out (by first | rfl | trivial) hq)
    clear hq A4
    go_enter Try.func6, Try.ntmps6
    go_wp2_with fail
    refine (A2.out _ H0.out.2.2.2).mono ?_
    rintro e w1 ⟨rfl, hb1⟩
    have H1 := Lib.hid (H0.out.next hb1)
    clear hb1 H0
    obtain ⟨x0, x1, x2⟩ := H1.out.2.1.cell
    obtain ⟨y0, y1, y2⟩ := H1.out.2.2.1.cell
    go_wp2_with fail
    refine (A0.out _).mono ?_
    rintro e w2 ⟨rfl, hb2⟩
    have H2 := Lib.hid (H1.out.next hb2)
    clear hb2 H1 x0 x1 x2 y0 y1 y2
    go_upto_region 3 with (fail)
    go_wp2_with (first | (refine box_load w.heap.size H2.out.2.1 rfl _ rfl rfl ?_))
    refine (A1.out _ H2.out.2.2.2).mono ?_
    rintro e w3 ⟨v3, rfl, hv3, hb3⟩
    have H3 : Hid (K2 w x y z a b c (.slice ao n cap) l w3 ∧ Vers w3 v3 m) := ⟨H2.out.next hb3, hv3⟩
    obtain ⟨ao3, n3, cap3, rfl, hn3⟩ := vers_slice hv3
    have hle : n3 ≤ n := by rw [← hn3]; exact A5.out.2.2
    clear hb3 hv3 H2 hn3
    go_wp2_with (first | (refine box_load (w.heap.size + 1) H3.out.1.2.2.1 rfl _ rfl rfl ?_))
    refine (A3.out _ H3.out.1.2.2.2).mono ?_
    rintro e w4 ⟨rfl, hb4⟩
    have H4 : Hid (K2 w x y z a b c (.slice ao n cap) l w4 ∧ Vers w4 (.slice ao3 n3 cap3) m) := ⟨H3.out.1.next hb4, H3.out.2.next hb4⟩
    clear hb4 H3
    go_wp2_with (first | (refine box_load (w.heap.size + 1) H4.out.1.2.2.1 rfl _ rfl rfl ?_))
    refine (A5.out.1 _ _ H4.out.2).mono ?_
    rintro e w5 ⟨rfl, hb5⟩
    have H5 : Hid (Below w.heap.size w w5 ∧ Vers w5 (.slice ao3 n3 cap3) m) := ⟨(H4.out.1.next hb5).1, H4.out.2.next hb5⟩
    clear hb5 H4
    have q9 : decide ((n3 : Int) ≤ (n : Int)) = true := by simp only [decide_eq_true_eq]; omega
    go_wp2_with fail
    refine (A5.out.2.1 _ _ H5.out.2).mono ?_
    rintro e w6 ⟨rfl, hb6⟩
    have hb := H5.out.1.trans (hb6.mono H5.out.1.size)
    go_wp2_with fail
    refine (HAW.out _).mono ?_
    rintro e w9 ⟨rfl, hb9⟩
    go_wp2_with fail
    go_ret
    exact ⟨rfl, hb.trans (hb9.mono hb.size)⟩

end Go.Proofs.Ytbboamfjkdcjeaa
