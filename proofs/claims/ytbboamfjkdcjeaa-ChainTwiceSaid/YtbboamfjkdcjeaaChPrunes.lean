/-
  The walk of ChainPrunes, over what it asks of package chain.
-/
import Derived.Test.YtbboamfjkdcjeaaChReads
import Derived.Test.YtbboamfjkdcjeaaVrRefPrune
import Derived.Test.YtbboamfjkdcjeaaVrRefEqual
set_option linter.unusedVariables false
namespace Go.Proofs.Ytbboamfjkdcjeaa
open Go.RowKit

set_option maxRecDepth 100000 in
set_option maxHeartbeats 400000 in
theorem chainPrunes_core (HF : FAwake) (HP : FPrune) (w : World) (v : Value) (l : List Ver) (x y z : Int) (hv : Vers w v l) : Calls Try.prog 5 #[v, (Go.Value.agg #[Go.Value.int Go.IntKind.i64 x, Go.Value.int Go.IntKind.i64 y, Go.Value.int Go.IntKind.i64 z])] w fun e w' => e = .returned (.bool true) ∧ Below w.heap.size w w' := by
  have HAW : Hid (∀ W, Calls Try.prog 9 #[] W fun e w' => e = .returned (.bool true) ∧ Below W.heap.size W w') := fun W => HF W
  obtain ⟨m, hm⟩ := pruned_ex l x y z
  obtain ⟨ao, n, cap, rfl, hn⟩ := vers_slice hv
  have A1 : Hid (∀ W, Vers W (.slice ao n cap) l → Calls Try.prog 20 #[.slice ao n cap, (Go.Value.agg #[Go.Value.int Go.IntKind.i64 x, Go.Value.int Go.IntKind.i64 y, Go.Value.int Go.IntKind.i64 z])] W fun e w' => ∃ v', e = .returned v' ∧ Vers w' v' m ∧ Below W.heap.size W w') := fun W h => HP W _ l x y z m h hm
  obtain ⟨r, hr⟩ : ∃ r, r = rightC l := ⟨_, rfl⟩
  have A2 : Hid (∀ W, Vers W (.slice ao n cap) l → Calls Try.prog 11 #[.slice ao n cap] W fun e w' => e = .returned (.bool r) ∧ Below W.heap.size W w') := fun W h => by rw [hr]; exact refCRight_any h
  have H0 := Lib.hid (KR.new x y z hv)
  have A3 : Hid (r = true → ∀ W, Vers W (.slice ao n cap) l → Calls Try.prog 21 #[.slice ao n cap, (Go.Value.agg #[Go.Value.int Go.IntKind.i64 x, Go.Value.int Go.IntKind.i64 y, Go.Value.int Go.IntKind.i64 z])] W fun e w' => ∃ v', e = .returned v' ∧ Vers w' v' m ∧ Below W.heap.size W w') := by
    intro h W hW
    rcases hm with ⟨e, _⟩ | ⟨hrt, k, hk, rfl⟩
    · rw [← hr, h] at e; cases e
    · exact (refPrune_any hW hrt hk).mono fun e w' ⟨v', h1, h2, h3⟩ => ⟨v', h1, h2.vers, h3⟩
  have HM : Hid (r = false → m = []) := by
    intro h
    rcases hm with ⟨_, e⟩ | ⟨e, _⟩
    · exact e
    · rw [← hr, h] at e; cases e
  clear hv hm hr HP HF hn
  by_cases h100 : 100 < n
  · go_enter Try.func5, Try.ntmps5
    go_wp2_with fail
    refine (HAW.out _).mono ?_
    rintro e w9 ⟨rfl, hb9⟩
    go_wp2_with fail
    go_ret
    exact ⟨rfl, H0.out.1.trans (hb9.mono H0.out.1.size)⟩
  · go_enter Try.func5, Try.ntmps5
    go_wp2_with fail
    refine (A1.out _ H0.out.2.2).mono ?_
    rintro e w1 ⟨v1, rfl, hv1, hb1⟩
    have H1 : Hid (KR w x y z (.slice ao n cap) l w1 ∧ Vers w1 v1 m) := ⟨H0.out.next hb1, hv1⟩
    obtain ⟨ao1, n1, cap1, rfl, hn1⟩ := vers_slice hv1
    clear hb1 H0 A1 hv1
    have HN1 := Lib.hid hn1
    clear hn1
    go_wp2_with fail
    refine (A2.out _ H1.out.1.2.2).mono ?_
    rintro e w2 ⟨rfl, hb2⟩
    have H2 : Hid (KR w x y z (.slice ao n cap) l w2 ∧ Vers w2 (.slice ao1 n1 cap1) m) := ⟨H1.out.1.next hb2, H1.out.2.next hb2⟩
    clear hb2 H1 A2
    cases r
    · have hn0 : n1 = 0 := by rw [← HN1.out, HM.out (by first | rfl | trivial)]; rfl
      subst hn0
      go_wp2_with fail
      refine (HAW.out _).mono ?_
      rintro e w9 ⟨rfl, hb9⟩
      go_wp2_with fail
      go_ret
      exact ⟨rfl, H2.out.1.1.trans (hb9.mono H2.out.1.1.size)⟩
    · go_wp2_with (first | (refine box_load w.heap.size H2.out.1.2.1 rfl _ rfl rfl ?_))
      refine (A3.out (by first | rfl | trivial) _ H2.out.1.2.2).mono ?_
      rintro e w3 ⟨v3, rfl, hv3, hb3⟩
      have H3 : Hid (Below w.heap.size w w3 ∧ Vers w3 (.slice ao1 n1 cap1) m ∧ Vers w3 v3 m) := ⟨(H2.out.1.next hb3).1, H2.out.2.next hb3, hv3⟩
      clear hb3 hv3 H2 A3
      go_wp2_with fail
      refine (refEqual_any H3.out.2.1 H3.out.2.2).mono ?_
      rintro e w4 ⟨rfl, hb4⟩
      have hb := H3.out.1.trans (hb4.mono H3.out.1.size)
      go_wp2_with fail
      refine (HAW.out _).mono ?_
      rintro e w9 ⟨rfl, hb9⟩
      go_wp2_with fail
      go_ret
      exact ⟨rfl, hb.trans (hb9.mono hb.size)⟩

end Go.Proofs.Ytbboamfjkdcjeaa
