/-
  The contract of pack.Numbers.
-/
import Derived.Test.YtccieoofjopbkaaDoorPkWalks
namespace Go.Proofs.YtccieoofjopbkaaDoor
open Go.RowKit

/-! ### pack.Numbers -/
def encs (zs : List Int) : List UInt8 := zs.flatMap fun z => Pk.enc z.toNat
theorem encs_snoc (zs : List Int) (k : Nat) (h : k < zs.length) : encs (zs.take (k + 1)) = encs (zs.take k) ++ Pk.enc (zs.getD k 0).toNat := by
  have e : zs.take (k + 1) = zs.take k ++ [zs.getD k 0] := by
    rw [List.take_succ_eq_append_getElem h]; simp [List.getD, h]
  rw [e]; simp [encs]

def NumsPost (zs : List Int) (e : Ending) : Prop :=
  (∀ i, i < zs.length → 0 ≤ zs.getD i 0) ∧ e = .returned (.tuple #[.string (S (encs zs)), .int .i64 0]) ∨
  (∃ i, i < zs.length ∧ zs.getD i 0 < 0) ∧ e = .returned (.tuple #[.string { data := #[] }, .int .i64 1])

set_option maxRecDepth 100000 in
set_option maxHeartbeats 400000 in
theorem Numbers_row (b off len cap : Nat) (zs : List Int) (w : World) (hlen : zs.length = len) (h100 : len ≤ 100) (hb : b < w.heap.size)
    (hcell : ∀ i, i < len → w.cell? ⟨b, off + i, none⟩ = some (.int .i64 (zs.getD i 0))) (hr : ∀ i, i < len → zs.getD i 0 < 9223372036854775808) :
    Calls Tryd.prog 29 #[.slice (some ⟨b, off, none⟩) len cap] w fun e w' => NumsPost zs e ∧ Below w.heap.size w w' := by
  obtain ⟨i0, hi, hz0, hz1, hz2⟩ := info_parts info_byte
  have HC := Lib.hid hcell
  have HR := Lib.hid hr
  have HL := Lib.hid hlen
  clear hcell hr hlen
  go_enter Tryd.func29, Tryd.ntmps29
  go_wp2_with (at_make; refine wpList_make_own _ rfl _ _ 60 rfl w.heap.size 5 i0 (.int .u8 0) 1 Tryd.underlying60 hi hz0 hz1 _ _ _ len rfl rfl rfl (by rw [hz2]; omega) (by unfold maxLen; omega) (Nat.le_refl _) ?_; intro w1 hown1 hgrow1)
  go_loopw [4, 6, 12] (fun v _ i wr => ∃ k : Nat, k ≤ len ∧ i = .int .i64 k ∧ Hid (∀ i, i < k → 0 ≤ zs.getD i 0) ∧ Hid ((encs (zs.take k)).length ≤ 9 * k) ∧ Owns wr w.heap.size v (encs (zs.take k)) ∧ Below w.heap.size w wr) (fun _ _ i _ => len - (intOf i).toNat)
  case atStart => exact ⟨0, Nat.zero_le _, rfl, fun i hi => absurd hi (Nat.not_lt_zero _), by simp [Hid, encs], by simpa [Owns, encs, bytesV] using hown1, (Below.refl _ _).grown hgrow1 (Nat.le_refl _) (fun k hk => by cases hk)⟩
  case round =>
    obtain ⟨k, hk, rfl, hnn, hlk, ho, hbel⟩ := hrel
    have hlk' := hlk.out
    by_cases hlt : k < len
    · have hcx : wr.cell? ⟨b, off + k, none⟩ = some (.int .i64 (zs.getD k 0)) := (hbel.cell (p := ⟨b, off + k, none⟩) hb).trans (HC.out k hlt)
      have hrk := HR.out k hlt
      have hsnoc := Lib.hid (encs_snoc zs k (by have := HL.out; omega))
      obtain ⟨z, hz⟩ : ∃ z, z = zs.getD k 0 := ⟨_, rfl⟩
      rw [← hz] at hcx hrk
      have HZ := Lib.hid hz
      clear hz
      by_cases hneg : z < 0
      · go_wp2_with fail
        go_ret2
        have := HL.out
        exact ⟨Or.inr ⟨⟨k, by omega, by rw [← HZ.out]; exact hneg⟩, rfl⟩, hbel⟩
      · obtain ⟨m, rfl⟩ := Int.eq_ofNat_of_zero_le (show 0 ≤ z by omega)
        have hm9 : (Pk.enc m).length ≤ 9 := Pk.enc_len9 (by omega)
        go_wp2_with fail
        refine (appendNumber_any w.heap.size u4 (encs (zs.take k)) m wr hbel.size (by omega) (by omega) ho).mono ?_
        rintro e w2 ⟨v2, rfl, ho2, hb2⟩
        have HO : Owns w2 w.heap.size v2 (encs (zs.take (k + 1))) := by
          rw [hsnoc.out, ← HZ.out]; exact ho2
        have HLk : Hid ((encs (zs.take (k + 1))).length ≤ 9 * (k + 1)) := by
          show _ ≤ _
          rw [hsnoc.out, ← HZ.out]; simp; omega
        have HNN : Hid (∀ i, i < k + 1 → 0 ≤ zs.getD i 0) := by
          intro i hi
          by_cases hik : i < k
          · exact hnn.out i hik
          · obtain rfl : i = k := by omega
            rw [← HZ.out]; omega
        have HB : Below w.heap.size w w2 := hbel.trans hb2
        clear ho2 hb2 ho hcx hm9 hlk'
        go_wp2_with fail
        go_roundw
        case rel => exact ⟨k + 1, by omega, by go_num, HNN, HLk, HO, HB⟩
        case measure => simp [intOf]; omega
    · have hcv := convert_owns ho
      go_wp2_with fail
      go_ret2
      obtain rfl : k = len := by omega
      have hle := HL.out
      rw [List.take_of_length_le (by omega)]
      exact ⟨Or.inl ⟨fun i hi => hnn.out i (by omega), rfl⟩, hbel⟩

set_option maxRecDepth 100000 in
set_option maxHeartbeats 400000 in
theorem Numbers_empty (ao : Option Addr) (cap : Nat) (w : World) :
    Calls Tryd.prog 29 #[.slice ao 0 cap] w fun e w' => e = .returned (.tuple #[.string { data := #[] }, .int .i64 0]) ∧ Below w.heap.size w w' := by
  obtain ⟨i0, hi, hz0, hz1, hz2⟩ := info_parts info_byte
  go_enter Tryd.func29, Tryd.ntmps29
  go_wp2_with (at_make; refine wpList_make_own _ rfl _ _ 60 rfl w.heap.size 5 i0 (.int .u8 0) 1 Tryd.underlying60 hi hz0 hz1 _ _ _ 0 rfl rfl rfl (by rw [hz2]; omega) (by unfold maxLen; omega) (Nat.le_refl _) ?_; intro w1 hown1 hgrow1)
  have hcv := convert_owns (B := w.heap.size) (l := []) (w := w1) (v := .slice (some ⟨w.heap.size, 0, none⟩) 0 0) (by simpa [Owns, bytesV] using hown1)
  refine wp_loop_rounds 1 ?_
  rw [rounds_succ]
  go_wp2_with fail
  go_ret2
  exact ⟨rfl, (Below.refl _ _).grown hgrow1 (Nat.le_refl _) (fun k hk => by cases hk)⟩

end Go.Proofs.YtccieoofjopbkaaDoor
