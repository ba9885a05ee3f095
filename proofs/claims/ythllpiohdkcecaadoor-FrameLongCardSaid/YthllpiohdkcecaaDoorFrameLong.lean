/-
  The walk of FrameLong: the call returns true, whatever it is handed, and writes nothing that was there.
-/
import Derived.Test.YthllpiohdkcecaaDoorFrameLawsA
import Derived.Test.YthllpiohdkcecaaDoorBytes
namespace Go.Proofs.YthllpiohdkcecaaDoor
open Go.RowKit

/-- n bytes that are 0. -/
def zeros (n : Nat) : List UInt8 := List.replicate n 0
theorem zeros_len (n : Nat) : (zeros n).length = n := by simp [zeros]
theorem made_zeros (n : Nat) : (madeCells (Value.int .u8 0).cells (n * 1)).toList = bytesV (zeros n) := by
  have hc : (Value.int .u8 0).cells = #[.int .u8 0] := rfl
  apply List.ext_getElem
  · simp [madeCells, bytesV, zeros]
  · intro i h1 h2
    simp [madeCells, bytesV, zeros, hc, Nat.mod_one]
theorem long_conv {w : World} {g n : Nat} (h : w.ownsRow g 5 1 (.slice (some ⟨g, 0, none⟩) n n) n (madeCells (Value.int .u8 0).cells (n * 1)).toList) :
    (convert 29 9 (.slice (some ⟨g, 0, none⟩) n n)).run Tryd.prog w = .ok (.string (S (zeros n))) w := by
  rw [made_zeros] at h
  exact convert_owns (B := g) (l := zeros n) (by unfold Owns; rw [zeros_len]; exact h)

theorem enc_three {n : Nat} (h1 : 16384 ≤ n) (h2 : n < 2097152) : (Pk.enc n).length = 3 := by
  rw [Pk.enc_big (by omega), Pk.enc_big (by omega), Pk.enc_small (by omega)]
  rfl

theorem frS_zeros {n : Nat} (h1 : 16384 ≤ n) (h2 : n < 2097152) : (frS (S (zeros n))).size = n + 7 := by
  rw [frS_size, S_size, zeros_len, enc_three h1 h2]; omega

set_option maxRecDepth 100000 in
set_option maxHeartbeats 1000000 in
theorem frameLong_walk (w : World) (hT : TabAt w) (m : Int) (hm : -128 ≤ m ∧ m ≤ 127) :
    Calls Tryd.prog 4 #[.int .i8 m] w fun e w' => e = .returned (.bool true) ∧ Below w.heap.size w w' := by
  have HT := Lib.hid hT
  clear hT
  obtain ⟨i0, hi, hz0, hz1, hz2⟩ := info_parts info_byte
  obtain ⟨n, hn⟩ := Int.eq_ofNat_of_zero_le (show 0 ≤ 1048576 + m by omega)
  by_cases h : 0 < m
  · have HB : Hid (∀ W, Calls Tryd.prog 11 #[.string (S (zeros n))] W fun e w' => e = .returned (.tuple #[.string { data := #[] }, .int .i64 5]) ∧ Below W.heap.size W w') :=
      fun W => Wrap_long _ W (by rw [S_size, zeros_len]; omega) (by rw [S_size, zeros_len]; omega)
    go_enter Tryd.func4, Tryd.ntmps4
    go_wp2_with (at_make; refine wpList_make_full _ rfl _ _ 29 rfl w.heap.size 5 i0 (.int .u8 0) 1 Tryd.underlying29 hi hz0 hz1 _ _ _ _ n rfl rfl (by omega) (by omega) (by rw [hz2]; omega) (by unfold maxLen; omega) (Nat.le_refl _) ?_; intro w1 hown1 hgrow1; have hcv := long_conv hown1; clear hown1)
    have hb1 : Below w.heap.size w w1 := (Below.refl _ _).grown hgrow1 (Nat.le_refl _) (fun k hk => by cases hk)
    have HT1 := Lib.hid (HT.out.next hb1)
    clear hgrow1
    refine (HB.out _).mono ?_
    rintro e w2 ⟨rfl, hb2⟩
    have HT2 := Lib.hid (HT1.out.next hb2)
    have hb := hb1.trans (hb2.mono hb1.size)
    clear hb1 hb2
    go_wp2_with fail
    refine (frameAwake_any _ HT2.out).mono ?_
    rintro e w3 ⟨rfl, hb3⟩
    have hbb := hb.trans (hb3.mono hb.size)
    clear hb hb3
    go_wp2_with fail
    go_ret
    exact ⟨rfl, hbb⟩
  · have HB : Hid (∀ W, TabAt W → Calls Tryd.prog 11 #[.string (S (zeros n))] W fun e w' => e = .returned (.tuple #[.string (frS (S (zeros n))), .int .i64 0]) ∧ Below W.heap.size W w') :=
      fun W h => Wrap_any _ W (by rw [S_size, zeros_len]; omega) h
    have hz : ((frS (S (zeros n))).size : Int) = 1048576 + m + 7 := by rw [frS_zeros (by omega) (by omega)]; omega
    generalize frS (S (zeros n)) = x at *
    have HZ := Lib.hid hz
    clear hz
    go_enter Tryd.func4, Tryd.ntmps4
    go_wp2_with (at_make; refine wpList_make_full _ rfl _ _ 29 rfl w.heap.size 5 i0 (.int .u8 0) 1 Tryd.underlying29 hi hz0 hz1 _ _ _ _ n rfl rfl (by omega) (by omega) (by rw [hz2]; omega) (by unfold maxLen; omega) (Nat.le_refl _) ?_; intro w1 hown1 hgrow1; have hcv := long_conv hown1; clear hown1)
    have hb1 : Below w.heap.size w w1 := (Below.refl _ _).grown hgrow1 (Nat.le_refl _) (fun k hk => by cases hk)
    have HT1 := Lib.hid (HT.out.next hb1)
    clear hgrow1
    refine (HB.out _ HT1.out).mono ?_
    rintro e w2 ⟨rfl, hb2⟩
    have HT2 := Lib.hid (HT1.out.next hb2)
    have hb := hb1.trans (hb2.mono hb1.size)
    clear hb1 hb2
    have hzz : (x.size : Int) = (n : Int) + 7 := by rw [HZ.out]; omega
    go_wp2_with fail
    refine (frameAwake_any _ HT2.out).mono ?_
    rintro e w3 ⟨rfl, hb3⟩
    have hbb := hb.trans (hb3.mono hb.size)
    clear hb hb3
    go_wp2_with fail
    go_ret
    exact ⟨rfl, hbb⟩

end Go.Proofs.YthllpiohdkcecaaDoor
