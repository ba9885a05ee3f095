/-
  The contracts of slices.Grow at no rows, and of slices.Concat at a few tables.
-/
import Derived.Test.YtdiabcdpnbhibaaDdRefPut
import Derived.Test.YtdiabcdpnbhibaaDdForms
import Derived.Lib.AppendZerosOnto
import Derived.Lib.AppendZeros
import Derived.Lib.BufferMore
import Derived.Lib.SliceRun
import Derived.Deep.MidRow
set_option linter.unusedVariables false
namespace Go.Proofs.Ytdiabcdpnbhibaa
open Go.RowKit

set_option maxRecDepth 100000 in
set_option maxHeartbeats 1000000 in
theorem GrowD_some (w : World) (n : Nat) (h0 : 0 < n) (hn : n ≤ 1000) :
    Calls Try.prog 40 #[.slice none 0 0, .int .i64 n] w fun e w' => ∃ v, e = .returned v ∧ OwnsD w' w.heap.size v [] ∧ Below w.heap.size w w' := by
  obtain ⟨i0, hi, hz0, hz1, hz2⟩ := info_parts info_dn
  have hrz : ∀ ty, ∃ G, n ≤ G ∧ G ≤ maxLen ∧ ∃ cs : Array Value, cs.size = G * 11 ∧ (Builtin.append_ #[22, 3] ty #[.slice none 0 0, .int .i64 n]).run Try.prog w = .ok (.slice (some ⟨w.heap.size, 0, none⟩) n G) (w.drew.alloc (.cells cs 33)) := fun ty => by
    have h := Lib.run_append_grow_zeros (P := Try.prog) w 22 3 ty 33 i0 _ .i64 .i64 Try.underlying22 Try.underlying3 hi hz0 none 0 0 [] (run_firstCells_none w.drew _ 0 0 0) n h0 (by rw [hz1]; decide) (by omega) (by omega)
      (by rw [hz2]; omega) (by rw [hz2]; exact growslice_fits (by omega) (by omega))
    rw [Nat.zero_add] at h
    have h1 := grownCap_ge w n 0 33
    have h2 := grownCap_le_maxLen w n 0 33 (by unfold maxLen; omega)
    refine ⟨_, h1, h2, _, ?_, h⟩
    generalize grownCap w n 0 33 = G at h1
    simp [Builtin.zeroCells, Value.cells]
    omega
  have q1 := IntWalk.i64_in (n : Int) (by omega)
  have q2 : decide (0 < (n : Int)) = true := decide_eq_true (by omega)
  have q3 : decide ((n : Int) < 0) = false := decide_eq_false (by omega)
  obtain ⟨G, hG, hGm, cs, hcs, hrun⟩ := hrz 22
  have hG2 : G ≤ 9223372036854775807 := Nat.le_trans hGm (by decide)
  have HR := Lib.hid hrun
  have HO : Hid (OwnsD (w.drew.alloc (.cells cs 33)) w.heap.size (.slice (some ⟨w.heap.size, 0, none⟩) 0 G) []) := World.ownsRow_made (base := w.heap.size) w.drew cs G (Nat.le_refl _) hGm hcs
  have HB : Hid (Below w.heap.size w (w.drew.alloc (.cells cs 33))) := ((Below.refl _ w).drew).alloc (Nat.le_refl _) _
  clear hrz hrun hcs hGm
  go_enter Try.func40, Try.ntmps40
  go_wp2_with (at_builtin; refine Lib.wpList_append_run _ rfl _ _ _ _ rfl _ _ rfl rfl _ _ HR.out ?_)
  go_ret
  exact ⟨_, rfl, HO.out, HB.out⟩

set_option maxRecDepth 100000 in
set_option maxHeartbeats 400000 in
theorem GrowD_zero (w : World) :
    Calls Try.prog 40 #[.slice none 0 0, .int .i64 (0 : Nat)] w fun e w' => ∃ v, e = .returned v ∧ OwnsD w' w.heap.size v [] ∧ Below w.heap.size w w' := by
  go_enter Try.func40, Try.ntmps40
  go_wp2_with fail
  go_ret
  exact ⟨_, rfl, OwnsD.nil _ _, Below.refl _ _⟩
theorem GrowD_any (w : World) (n : Nat) (hn : n ≤ 1000) :
    Calls Try.prog 40 #[.slice none 0 0, .int .i64 n] w fun e w' => ∃ v, e = .returned v ∧ OwnsD w' w.heap.size v [] ∧ Below w.heap.size w w' := by
  rcases Nat.eq_zero_or_pos n with rfl | h
  · exact GrowD_zero w
  · exact GrowD_some w n h hn

/-! ### Concat -/
def dzTo (N : Nat → Nat) : Nat → Nat
  | 0 => 0
  | k + 1 => dzTo N k + N k
def dlTo (L : Nat → List DnV) : Nat → List DnV
  | 0 => []
  | k + 1 => dlTo L k ++ L k
theorem dzTo_le (N : Nat → Nat) {k m : Nat} (h : k ≤ m) : dzTo N k ≤ dzTo N m := by
  induction m with
  | zero => rw [Nat.le_zero.1 h]; exact Nat.le_refl _
  | succ m ih =>
    rcases Nat.lt_or_ge k (m + 1) with h1 | h1
    · exact Nat.le_trans (ih (by omega)) (by show dzTo N m ≤ dzTo N m + N m; omega)
    · rw [show k = m + 1 by omega]; exact Nat.le_refl _
theorem dlTo_len {L : Nat → List DnV} {N : Nat → Nat} {m : Nat} (h : ∀ i, i < m → (L i).length = N i) : ∀ k, k ≤ m → (dlTo L k).length = dzTo N k := by
  intro k
  induction k with
  | zero => intro _; rfl
  | succ k ih => intro hk; show (dlTo L k ++ L k).length = dzTo N k + N k; rw [List.length_append, ih (by omega), h k (by omega)]
theorem tabV_len {w : World} {ao : Option Addr} {n c : Nat} {l : List DnV} (h : TabV w (.slice ao n c) l) : l.length = n := by
  obtain ⟨_, _, e, _⟩ := h
  injection e with _ e _
  exact e.symm

set_option maxRecDepth 100000 in
set_option maxHeartbeats 1000000 in
theorem ConcatD_row (w : World) (h m : Nat) (A : Nat → Option Addr) (N C : Nat → Nat) (L : Nat → List DnV) (hm : m ≤ 8) (hsz : dzTo N m ≤ 1000) (hh : h < w.heap.size)
    (hc : ∀ i, i < m → w.cell? ⟨h, i, none⟩ = some (.slice (A i) (N i) (C i))) (hv : ∀ i, i < m → TabV w (.slice (A i) (N i) (C i)) (L i)) :
    Calls Try.prog 37 #[.slice (some ⟨h, 0, none⟩) m m] w fun e w' => ∃ v, e = .returned v ∧ OwnsD w' w.heap.size v (dlTo L m) ∧ Below w.heap.size w w' := by
  have HC : Hid (∀ W, Below w.heap.size w W → ∀ i, i < m → W.cell? ⟨h, i, none⟩ = some (.slice (A i) (N i) (C i))) := fun W hW i hi => (hW.cell (p := ⟨h, i, none⟩) hh).trans (hc i hi)
  have HV : Hid (∀ i, i < m → TabV w (.slice (A i) (N i) (C i)) (L i)) := hv
  have HLN : Hid (∀ i, i < m → (L i).length = N i) := fun i hi => tabV_len (hv i hi)
  have HSZ := Lib.hid hsz
  clear hc hv hsz hh
  go_enter Try.func37, Try.ntmps37
  go_wp2_with fail
  go_loop [3, 11] (fun u i => ∃ k z : Nat, k ≤ m ∧ i = .int .i64 k ∧ u = .int .i64 z ∧ Hid (dzTo N k = z)) (fun _ i => m - (intOf i).toNat)
  case atStart => exact ⟨0, 0, by omega, rfl, rfl, rfl⟩
  case round =>
    obtain ⟨k, z, hk, rfl, rfl, hz⟩ := hrel
    by_cases hlt : k < m
    · have x0 := HC.out w (Below.refl _ _) k hlt
      have hb := dzTo_le N (show k + 1 ≤ m by omega)
      have hb2 := HSZ.out
      have hzz : dzTo N (k + 1) = z + N k := by rw [← hz.out]; rfl
      obtain ⟨a, ha⟩ : ∃ a, a = A k := ⟨_, rfl⟩
      obtain ⟨p, hp⟩ : ∃ p, p = N k := ⟨_, rfl⟩
      obtain ⟨c, hc⟩ : ∃ c, c = C k := ⟨_, rfl⟩
      rw [← ha, ← hp, ← hc] at x0
      rw [← hp] at hzz
      have hbd : z + p ≤ 1000 := by omega
      have HZZ := Lib.hid hzz
      clear ha hp hc hzz hb hb2
      have q1 := IntWalk.i64_in ((z : Int) + (p : Int)) (by omega)
      have q2 : decide ((z : Int) + (p : Int) < 0) = false := decide_eq_false (by omega)
      go_wp2_with fail
      go_round
      case rel => exact ⟨k + 1, z + p, by omega, by go_num, by simp, HZZ.out⟩
      case measure => simp [intOf]; omega
    · obtain rfl : k = m := by omega
      have HG : Hid (∀ W, Calls Try.prog 40 #[.slice none 0 0, .int .i64 (z : Nat)] W fun e w' => ∃ v, e = .returned v ∧ OwnsD w' W.heap.size v [] ∧ Below W.heap.size W w') := fun W => GrowD_any W z (by rw [← hz.out]; exact HSZ.out)
      go_wp2_with fail
      refine (HG.out _).mono ?_
      rintro e w1 ⟨v1, rfl, ho1, hb1⟩
      have H1 : Hid (OwnsD w1 w.heap.size v1 [] ∧ Below w.heap.size w w1) := ⟨ho1, hb1⟩
      clear ho1 hb1
      go_wp2_with fail
      go_loopw [6, 27] (fun u i wr => ∃ j : Nat, j ≤ k ∧ i = .int .i64 j ∧ Hid (OwnsD wr w.heap.size u (dlTo L j)) ∧ Hid (Below w.heap.size w wr)) (fun _ i _ => k - (intOf i).toNat)
      case atStart => exact ⟨0, by omega, rfl, H1.out.1, H1.out.2⟩
      case round =>
        obtain ⟨j, hj, rfl, hown, hbel⟩ := hrel
        by_cases hlt : j < k
        · have x0 := HC.out wr hbel.out j hlt
          have HV1 : Hid (TabV wr (.slice (A j) (N j) (C j)) (L j)) := (HV.out j hlt).next hbel.out
          have HLL : Hid ((dlTo L j).length + (L j).length ≤ 1000000) := by
            have h1 := dlTo_len HLN.out j (by omega)
            have h2 := HLN.out j hlt
            have h3 := dzTo_le N (show j + 1 ≤ k by omega)
            have h4 : dzTo N (j + 1) = dzTo N j + N j := rfl
            have h5 := HSZ.out
            show _ ≤ _
            omega
          obtain ⟨ls, hls⟩ : ∃ ls, ls = dlTo L j := ⟨_, rfl⟩
          obtain ⟨l1, hl1⟩ : ∃ l1, l1 = L j := ⟨_, rfl⟩
          have HN : Hid (dlTo L (j + 1) = ls ++ l1) := by show _ = _; rw [hls, hl1]; rfl
          rw [← hls] at hown HLL
          rw [← hl1] at HLL HV1
          generalize A j = a at x0 HV1
          generalize N j = p at x0 HV1
          generalize C j = c at x0 HV1
          clear hls hl1
          go_wp2_with (at_builtin; refine wpList_append_dns rfl _ _ rfl w.heap.size _ _ ls l1 rfl hown.out rfl HV1.out HLL.out hbel.out.size ?_; intro v' w2 ho2 hg2; have HO : Hid (OwnsD w2 w.heap.size v' (dlTo L (j + 1)) ∧ Below w.heap.size w w2) := ⟨by rw [HN.out]; exact ho2, hbel.out.grown hg2 hbel.out.size (fun i hi => (OwnsD.block hown.out i hi).1)⟩; clear ho2 hg2)
          exact ⟨⟨j + 1, by omega, by go_num, HO.out.1, HO.out.2⟩, by simp [intOf]; omega⟩
        · obtain rfl : j = k := by omega
          go_wp2_with fail
          go_ret
          exact ⟨_, rfl, hown.out, hbel.out⟩

end Go.Proofs.Ytdiabcdpnbhibaa
