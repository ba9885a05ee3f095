/-
  The document's escaped bytes and digits.
-/
import Derived.Test.YtiofjapakaoklaaDoorKyRead
namespace Go.Proofs.YtiofjapakaoklaaDoor
open Go.RowKit
set_option linter.unusedVariables false

theorem slice_digit : ∀ x : Fin 16, ({ data := #[48, 49, 50, 51, 52, 53, 54, 55, 56, 57, 65, 66, 67, 68, 69, 70] } : ByteArray).extract x.val (x.val + 1) = S [Ky.hexD x.val] := by decide +kernel
theorem plus_one {y : Nat} (h : y < 16) : IntKind.u8.wrap ((y : Int) + 1) = (y : Int) + 1 := by
  have : ∀ x : Fin 16, IntKind.u8.wrap ((x.val : Int) + 1) = (x.val : Int) + 1 := by decide +kernel
  exact this ⟨y, h⟩
theorem hex_parts (x : UInt8) : ∃ (y1 y2 : Nat) (c1 c2 : UInt8), (x.toNat : Int) / 16 = (y1 : Int) ∧ (x.toNat : Int) % 16 = (y2 : Int) ∧ y1 < 16 ∧ y2 < 16 ∧
    ({ data := #[48, 49, 50, 51, 52, 53, 54, 55, 56, 57, 65, 66, 67, 68, 69, 70] } : ByteArray).extract y1 (y1 + 1) = S [c1] ∧
    ({ data := #[48, 49, 50, 51, 52, 53, 54, 55, 56, 57, 65, 66, 67, 68, 69, 70] } : ByteArray).extract y2 (y2 + 1) = S [c2] ∧ Ky.hexB x = [37, c1, c2] := by
  have hxl := x.toNat_lt
  exact ⟨x.toNat / 16, x.toNat % 16, Ky.hexD (x.toNat / 16), Ky.hexD (x.toNat % 16), by omega, by omega, by omega, by omega,
    slice_digit ⟨x.toNat / 16, by omega⟩, slice_digit ⟨x.toNat % 16, by omega⟩, rfl⟩

/-- An escaped byte, as a text. -/
def hexS (b : UInt8) : ByteArray := S (Ky.hexB b)
theorem hexS_size (b : UInt8) : (hexS b).size = 3 := by unfold hexS; rw [S_size]; rfl

set_option maxRecDepth 100000 in
set_option maxHeartbeats 1000000 in
theorem hex_any (b : UInt8) (w : World) :
    Calls Tryd.prog 30 #[.int .u8 (b.toNat : Int)] w fun e w' => e = .returned (.string (hexS b)) ∧ Below w.heap.size w w' := by
  obtain ⟨y1, y2, c1, c2, q1, q2, l1, l2, s1, s2, hh⟩ := hex_parts b
  have HH := Lib.hid hh
  clear hh
  have p1 := plus_one l1
  have p2 := plus_one l2
  obtain ⟨t1, ht1⟩ : ∃ t, S [c1] = t := ⟨_, rfl⟩
  obtain ⟨t2, ht2⟩ : ∃ t, S [c2] = t := ⟨_, rfl⟩
  rw [ht1] at s1
  rw [ht2] at s2
  have z1 : t1.size = 1 := by rw [← ht1]; rfl
  have z2 : t2.size = 1 := by rw [← ht2]; rfl
  have H1 := Lib.hid ht1
  have H2 := Lib.hid ht2
  clear ht1 ht2
  have j1 : (y1 : Int) < 16 := by omega
  have j2 : (y2 : Int) < 16 := by omega
  have k1 : (y1 : Int) + 1 ≤ 16 := by omega
  have k2 : (y2 : Int) + 1 ≤ 16 := by omega
  go_enter Tryd.func30, Tryd.ntmps30
  go_wp2
  go_quiet (fail)
  go_wp2
  go_ret
  refine ⟨?_, ⟨rfl, rfl, rfl, Nat.le_refl _, fun _ _ => rfl⟩⟩
  unfold hexS
  rw [HH.out, ← H1.out, ← H2.out]
  rfl

set_option maxRecDepth 100000 in
set_option maxHeartbeats 400000 in
theorem value_any (b : UInt8) (w : World) :
    Calls Tryd.prog 32 #[.int .u8 (b.toNat : Int)] w fun e w' => e = .returned (.int .i64 (Ky.hv b : Nat)) ∧ w' = w := by
  obtain ⟨R, hR⟩ : ∃ R, Ky.hv b = R := ⟨_, rfl⟩
  rw [hR]
  have H := Lib.hid hR
  clear hR
  have hb := b.toNat_lt
  go_enter Tryd.func32, Tryd.ntmps32
  go_wp2
  all_goals go_ret
  all_goals
    refine ⟨?_, rfl⟩
    rw [← H.out]
    unfold Ky.hv
    repeat' split
  all_goals first | rfl | (exfalso; omega) | (refine congrArg (fun z => Ending.returned (Value.int IntKind.i64 z)) ?_; omega)

theorem hv_range (b : UInt8) : Ky.hv b < 16 ∨ Ky.hv b = 99 := by
  unfold Ky.hv
  repeat' split
  all_goals omega

end Go.Proofs.YtiofjapakaoklaaDoor
