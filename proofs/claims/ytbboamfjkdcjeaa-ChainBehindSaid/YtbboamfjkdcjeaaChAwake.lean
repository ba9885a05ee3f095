/-
  The contract of the statements' awake.
-/
import Derived.Test.YtbboamfjkdcjeaaChForms
set_option linter.unusedVariables false
namespace Go.Proofs.Ytbboamfjkdcjeaa
open Go.RowKit

def FAwake : Prop := ∀ W : World, Calls Try.prog 9 #[] W fun e w' => e = .returned (.bool true) ∧ Below W.heap.size W w'
theorem add_one : IsAdd [] (1, 0, 0, false, { data := #[97] }) [(1, 0, 0, false, { data := #[97] })] 0 := .inr (.inr (.inr ⟨by decide, by decide, .inl rfl, by decide, rfl, rfl⟩))
theorem at_one : IsAt [(1, 0, 0, false, { data := #[97] })] 2 0 0 (1, 0, 0, false, { data := #[97] }) true :=
  .inr (.inr ⟨by decide, rfl, 0, ⟨by decide, fun i hi => by obtain rfl : i = 0 := by omega
                                                            decide, fun i h1 h2 => by simp at h2; omega⟩, rfl⟩)
theorem right_one : rightC [(1, 0, 0, false, { data := #[97] })] = true := by decide

set_option maxRecDepth 100000 in
set_option maxHeartbeats 400000 in
theorem awake_any (HA : FAdd) (HV : FValue) (HR : FRight) : FAwake := by
  intro w
  have HA1 := Lib.hid (HA w _ _ 1 0 0 false { data := #[97] } _ _ (vers_nil w) add_one)
  have HVH : Hid (∀ W v, Vers W v [(1, 0, 0, false, { data := #[97] })] → Calls Try.prog 18 #[v, (Go.Value.agg #[Go.Value.int Go.IntKind.i64 2, Go.Value.int Go.IntKind.i64 0, Go.Value.int Go.IntKind.i64 0])] W fun e w' => e = .returned (.tuple #[.string { data := #[97] }, .bool true]) ∧ Below W.heap.size W w') := fun W v h => HV W v _ 2 0 0 _ _ h at_one
  have HRH : Hid (∀ W v, Vers W v [(1, 0, 0, false, { data := #[97] })] → Calls Try.prog 14 #[v] W fun e w' => e = .returned (.bool true) ∧ Below W.heap.size W w') := fun W v h => by rw [← right_one]; exact HR W v _ h
  clear HA HV HR
  go_enter Try.func9, Try.ntmps9
  go_wp2_with fail
  refine HA1.out.mono ?_
  rintro e w1 ⟨v, rfl, hv, hb1⟩
  have HV1 := Lib.hid hv
  obtain ⟨ao, cap, rfl, _⟩ := hv
  go_wp2_with fail
  refine (HVH.out w1 _ HV1.out).mono ?_
  rintro e w2 ⟨rfl, hb2⟩
  have HV2 := Lib.hid (HV1.out.next hb2)
  have hbb := hb1.trans (hb2.mono hb1.size)
  clear hb1 hb2 HV1
  go_wp2_with fail
  refine (HRH.out w2 _ HV2.out).mono ?_
  rintro e w3 ⟨rfl, hb3⟩
  go_wp2_with fail
  go_ret
  exact ⟨rfl, hbb.trans (hb3.mono hbb.size)⟩

end Go.Proofs.Ytbboamfjkdcjeaa
