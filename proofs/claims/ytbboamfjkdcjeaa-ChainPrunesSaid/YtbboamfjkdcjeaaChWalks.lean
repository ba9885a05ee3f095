/-
  The five functions of package chain in the forms that the laws ask for; the laws' walks.
-/
import Derived.Test.YtbboamfjkdcjeaaVrAdd
import Derived.Test.YtbboamfjkdcjeaaChForms
import Derived.Test.YtbboamfjkdcjeaaChAwake
import Derived.Test.YtbboamfjkdcjeaaChReads
import Derived.Test.YtbboamfjkdcjeaaChPrunes
import Derived.Test.YtbboamfjkdcjeaaChKeeps
import Derived.Test.YtbboamfjkdcjeaaChBehind
import Derived.Test.YtbboamfjkdcjeaaChTwice
import Derived.Test.YtbboamfjkdcjeaaChAdds
set_option linter.unusedVariables false
namespace Go.Proofs.Ytbboamfjkdcjeaa
open Go.RowKit

theorem fRight : FRight := fun W v l h => CRight_any h
theorem fAt : FAt := fun W v l x y z a b c g s ok h ha => CAt_any h ha
theorem fValue : FValue := fun W v l x y z u ok h ha => CValue_any h ha
theorem fPrune : FPrune := by
  intro W v l x y z m h hp
  rcases hp with ⟨hr, rfl⟩ | ⟨hr, k, hk, rfl⟩
  · refine (CPrune_bad h hr x y z).mono ?_
    rintro e w' ⟨rfl, hb⟩
    exact ⟨_, rfl, vers_nil _, hb⟩
  · refine (CPrune_any h hr hk).mono ?_
    rintro e w' ⟨v', rfl, ho, hb⟩
    exact ⟨v', rfl, ho.vers, hb⟩
theorem fAdd : FAdd := by
  intro W v l a b c g s m e h ha
  obtain ⟨ao, cap, rfl, h1, h2, h3⟩ := h
  have H := Add_row W ao _ cap l a b c g s _ _ _ rfl rfl rfl rfl ⟨ao, cap, rfl, h1, h2, h3⟩
  have hfol : (l.length = 0 ∨ befV (vat l (l.length - 1)) (a, b, c, g, s) = true) → folB l (a, b, c, g, s) = true := by
    rintro (h | h)
    · simp [folB, h]
    · simp [folB, h]
  rcases ha with ⟨h, rfl, rfl⟩ | ⟨hr, ho, hp, hf, rfl, rfl⟩ | ⟨hr, ho, hf, h64, rfl, rfl⟩ | ⟨hr, ho, hf, h64, rfl, rfl⟩
  · refine (H.1 h).mono ?_
    rintro e w' ⟨rfl, hb⟩
    exact ⟨_, rfl, vers_nil _, hb⟩
  · refine (H.2.1 hr ho ?_).mono ?_
    · unfold folB
      rw [hf, Bool.or_false]
      exact decide_eq_false (by omega)
    · rintro e w' ⟨rfl, hb⟩
      exact ⟨_, rfl, vers_nil _, hb⟩
  · refine (H.2.2.1 hr ho (hfol hf) h64).mono ?_
    rintro e w' ⟨rfl, hb⟩
    exact ⟨_, rfl, vers_nil _, hb⟩
  · refine (H.2.2.2 hr ho (hfol hf) h64).mono ?_
    rintro e w' ⟨v', rfl, hown, hb⟩
    exact ⟨v', rfl, hown.vers, hb⟩
theorem fAwake : FAwake := awake_any fAdd fValue fRight

theorem chainAdds_walk (w : World) (v : Value) (l : List Ver) (hv : Vers w v l) (a b c : Int) (g : Bool) (s : ByteArray) : Calls Try.prog 3 #[v, (Go.Value.agg #[Go.Value.int Go.IntKind.i64 a, Go.Value.int Go.IntKind.i64 b, Go.Value.int Go.IntKind.i64 c, Go.Value.bool g, Go.Value.string s])] w fun e w' => e = .returned (.bool true) ∧ Below w.heap.size w w' :=
  chainAdds_core fAwake fAdd fRight w v l a b c g s hv
theorem chainReads_walk (w : World) (v : Value) (l : List Ver) (hv : Vers w v l) (x y z : Int) : Calls Try.prog 4 #[v, (Go.Value.agg #[Go.Value.int Go.IntKind.i64 x, Go.Value.int Go.IntKind.i64 y, Go.Value.int Go.IntKind.i64 z])] w fun e w' => e = .returned (.bool true) ∧ Below w.heap.size w w' :=
  chainReads_core fAwake fAt fValue w v l x y z hv
theorem chainPrunes_walk (w : World) (v : Value) (l : List Ver) (hv : Vers w v l) (x y z : Int) : Calls Try.prog 5 #[v, (Go.Value.agg #[Go.Value.int Go.IntKind.i64 x, Go.Value.int Go.IntKind.i64 y, Go.Value.int Go.IntKind.i64 z])] w fun e w' => e = .returned (.bool true) ∧ Below w.heap.size w w' :=
  chainPrunes_core fAwake fPrune w v l x y z hv
theorem chainKeeps_walk (w : World) (v : Value) (l : List Ver) (hv : Vers w v l) (x y z a b c : Int) : Calls Try.prog 6 #[v, (Go.Value.agg #[Go.Value.int Go.IntKind.i64 x, Go.Value.int Go.IntKind.i64 y, Go.Value.int Go.IntKind.i64 z]), (Go.Value.agg #[Go.Value.int Go.IntKind.i64 a, Go.Value.int Go.IntKind.i64 b, Go.Value.int Go.IntKind.i64 c])] w fun e w' => e = .returned (.bool true) ∧ Below w.heap.size w w' :=
  chainKeeps_core fAwake fRight fValue fPrune w v l x y z a b c hv
theorem chainTwice_walk (w : World) (v : Value) (l : List Ver) (hv : Vers w v l) (x y z a b c : Int) : Calls Try.prog 7 #[v, (Go.Value.agg #[Go.Value.int Go.IntKind.i64 x, Go.Value.int Go.IntKind.i64 y, Go.Value.int Go.IntKind.i64 z]), (Go.Value.agg #[Go.Value.int Go.IntKind.i64 a, Go.Value.int Go.IntKind.i64 b, Go.Value.int Go.IntKind.i64 c])] w fun e w' => e = .returned (.bool true) ∧ Below w.heap.size w w' :=
  chainTwice_core fAwake fRight fPrune w v l x y z a b c hv
theorem chainBehind_walk (w : World) (v : Value) (l : List Ver) (hv : Vers w v l) (a b c : Int) (g : Bool) (s : ByteArray) (x y z : Int) : Calls Try.prog 8 #[v, (Go.Value.agg #[Go.Value.int Go.IntKind.i64 a, Go.Value.int Go.IntKind.i64 b, Go.Value.int Go.IntKind.i64 c, Go.Value.bool g, Go.Value.string s]), (Go.Value.agg #[Go.Value.int Go.IntKind.i64 x, Go.Value.int Go.IntKind.i64 y, Go.Value.int Go.IntKind.i64 z])] w fun e w' => e = .returned (.bool true) ∧ Below w.heap.size w w' :=
  chainBehind_core fAwake fAdd fRight fValue w v l a b c g s x y z hv

end Go.Proofs.Ytbboamfjkdcjeaa
