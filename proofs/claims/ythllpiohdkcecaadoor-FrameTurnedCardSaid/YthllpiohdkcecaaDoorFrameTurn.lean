/-
  The walk of FrameTurned: the call returns true, whatever it is handed, and writes nothing that was there.
-/
import Derived.Test.YthllpiohdkcecaaDoorFrameLawsA
import Derived.Test.YthllpiohdkcecaaDoorBytes
namespace Go.Proofs.YthllpiohdkcecaaDoor
open Go.RowKit

/-- What is taken of a frame with one byte turned. -/
theorem tkF_turn {b : ByteArray} {k : Nat} {x : UInt8} (more : ByteArray) (hb : b.size ≤ 100) (h1 : 1 ≤ k) (h2 : k < (frS b).size) (hx : (frS b).data.toList.getD k 0 ≠ x) :
    tkF (S ((frS b).data.toList.set k x) ++ more) = ({ data := #[] }, { data := #[] }, 4) := by
  rw [frS_list] at hx ⊢
  rw [← bytes_len, frS_list] at h2
  unfold tkF
  rw [app_list, S_list, Fm.takeF_turn more.data.toList (by rw [bytes_len]; omega) h1 h2 hx]
  rfl

theorem u8_xor_ne {a y : Nat} (hy : y ≠ 0) : a ^^^ y ≠ a := by
  intro h
  have := congrArg (a ^^^ ·) h
  simp only [← Nat.xor_assoc, Nat.xor_self, Nat.zero_xor] at this
  exact hy this

set_option maxRecDepth 100000 in
set_option maxHeartbeats 1000000 in
theorem frameTurned_in (w : World) (hT : TabAt w) (s : ByteArray) (h100 : s.size ≤ 100) (k : Nat) (hk1 : 1 ≤ k) (hk2 : k < (frS s).size) (y : Nat) (hy0 : y ≠ 0) (hy : y < 256) (more : ByteArray) (hm : more.size ≤ 140737488351232) :
    Calls Tryd.prog 8 #[.string s, .int .i64 k, .int .u8 y, .string more] w fun e w' => e = .returned (.bool true) ∧ Below w.heap.size w w' := by
  have HT := Lib.hid hT
  clear hT
  have hz : (frS s).size ≤ 107 := by
    rw [← bytes_len, frS_list]
    have := Fm.fr_le (b := s.data.toList) (by rw [bytes_len]; omega)
    rw [bytes_len] at this; omega
  have HA : Hid (∀ W, TabAt W → Calls Tryd.prog 11 #[.string s] W fun e w' => e = .returned (.tuple #[.string (frS s), .int .i64 0]) ∧ Below W.heap.size W w') := fun W h => Wrap_any s W (by omega) h
  have HX : Hid (∀ x : UInt8, (frS s).data.toList.getD k 0 ≠ x → tkF (S ((frS s).data.toList.set k x) ++ more) = ({ data := #[] }, { data := #[] }, 4)) := fun x hx => tkF_turn more (by omega) hk1 hk2 hx
  generalize frS s = t at *
  have hyz : ((y : Int) == 0) = false := by rw [beq_eq_false_iff_ne]; omega
  go_enter Tryd.func8, Tryd.ntmps8
  go_wp2_with fail
  refine (HA.out _ HT.out).mono ?_
  rintro e w1 ⟨rfl, hb1⟩
  have HT1 := Lib.hid (HT.out.next hb1)
  obtain ⟨cap, w2, hcv, hcap, hb2, hsz, hcell, hfr⟩ := conv_bytes w1 t
  have HT2 := Lib.hid (HT1.out.next hb2)
  have hbb := hb1.trans (hb2.mono hb1.size)
  have hgw : w.heap.size ≤ w1.heap.size := hb1.size
  clear hb1 hb2
  have hd1 : decide ((k : Int) < 1) = false := by rw [decide_eq_false_iff_not]; omega
  have hd2 : decide ((t.size : Int) ≤ (k : Int)) = false := by rw [decide_eq_false_iff_not]; omega
  have c1 := hcell k hk2
  have fz := hfr k hk2
  have HC := Lib.hid hcell
  clear hcell hfr
  generalize hg : w1.heap.size = g at *
  have HG := Lib.hid hg
  clear hg
  have q4 : (k : Int) < (t.size : Int) := by omega
  have hb256 := (t.data.toList.getD k 0).toNat_lt
  obtain ⟨b, hbd⟩ : ∃ b, b = (t.data.toList.getD k 0).toNat := ⟨_, rfl⟩
  rw [← hbd] at c1 hb256
  have q5 := u8_xor_nat b y (by omega) (by omega)
  have HBD := Lib.hid hbd
  clear hbd
  generalize hc : b ^^^ y = c at *
  have HCc := Lib.hid hc
  clear hc
  have hgl : g < w2.heap.size := hsz
  have hbw : Below w.heap.size w (w2.setCell ⟨g, k, none⟩ (.int .u8 (c : Int))) := hbb.setCell hgw _
  have HT3 := Lib.hid (HT.out.next hbw)
  have hcx : c < 256 := by
    rw [← HCc.out]
    have h2 : (256 : Nat) = 2 ^ 8 := by decide
    rw [h2]; exact Nat.xor_lt_two_pow (by omega) (by omega)
  have hxn : (UInt8.ofNat c).toNat = c := by rw [UInt8.toNat_ofNat']; omega
  have hne : t.data.toList.getD k 0 ≠ UInt8.ofNat c := by
    intro e
    have e2 := congrArg UInt8.toNat e
    rw [hxn, ← HBD.out, ← HCc.out] at e2
    exact u8_xor_ne hy0 e2.symm
  have hcv2 := conv_back (w2.setCell ⟨g, k, none⟩ (.int .u8 (c : Int))) g cap (t.data.toList.set k (UInt8.ofNat c)) t.size (by rw [List.length_set, bytes_len]) (fun i hi => by
    by_cases he : i = k
    · subst he
      rw [World.cell?_setCell_same _ _ _ c1]
      have : (t.data.toList.set i (UInt8.ofNat c)).getD i 0 = UInt8.ofNat c := by simp [List.getD, hk2]
      rw [this, hxn]
    · rw [World.cell?_setCell_other _ _ _ _ (by intro e; injection e with _ e2 _; exact he e2.symm), HC.out i hi]
      have : (t.data.toList.set k (UInt8.ofNat c)).getD i 0 = t.data.toList.getD i 0 := by simp [List.getD, Ne.symm he]
      rw [this])
  have HK := Lib.hid (HX.out _ hne)
  have hus : (S (t.data.toList.set k (UInt8.ofNat c))).size = t.size := by rw [S_size, List.length_set, bytes_len]
  generalize S (t.data.toList.set k (UInt8.ofNat c)) = u at *
  have h5 : ¬ (u.size + more.size > 9223372036854775807) := by omega
  have hsum : (u ++ more).size ≤ 9223372036854775807 := by rw [ByteArray.size_append]; omega
  have HU := Lib.hid hus
  clear hne hxn hcx hus
  go_wp2_with fail
  refine (FTake_any (u ++ more) _ hsum HT3.out).mono ?_
  rintro e w3 ⟨rfl, hb3⟩
  rw [HK.out]
  have HT4 := Lib.hid (HT3.out.next hb3)
  have hb4 := hbw.trans (hb3.mono hbw.size)
  clear hb3
  go_wp2_with fail
  refine (frameAwake_any _ HT4.out).mono ?_
  rintro e w4 ⟨rfl, hb5⟩
  have hb6 := hb4.trans (hb5.mono hb4.size)
  clear hb5
  go_wp2_with fail
  go_ret
  exact ⟨rfl, hb6⟩

set_option maxRecDepth 100000 in
set_option maxHeartbeats 1000000 in
theorem frameTurned_out (w : World) (hT : TabAt w) (s : ByteArray) (h100 : s.size ≤ 100) (p : Int) (hp : ¬ (1 ≤ p ∧ p < (frS s).size)) (hp2 : -9223372036854775808 ≤ p ∧ p ≤ 9223372036854775807) (y : Nat) (hy0 : y ≠ 0) (more : ByteArray) :
    Calls Tryd.prog 8 #[.string s, .int .i64 p, .int .u8 y, .string more] w fun e w' => e = .returned (.bool true) ∧ Below w.heap.size w w' := by
  have HT := Lib.hid hT
  clear hT
  have HA : Hid (∀ W, TabAt W → Calls Tryd.prog 11 #[.string s] W fun e w' => e = .returned (.tuple #[.string (frS s), .int .i64 0]) ∧ Below W.heap.size W w') := fun W h => Wrap_any s W (by omega) h
  generalize frS s = t at *
  have hyz : ((y : Int) == 0) = false := by rw [beq_eq_false_iff_ne]; omega
  by_cases h1 : p < 1
  · clear hp
    go_enter Tryd.func8, Tryd.ntmps8
    go_wp2_with fail
    refine (HA.out _ HT.out).mono ?_
    rintro e w1 ⟨rfl, hb1⟩
    have HT1 := Lib.hid (HT.out.next hb1)
    go_wp2_with fail
    refine (frameAwake_any _ HT1.out).mono ?_
    rintro e w2 ⟨rfl, hb2⟩
    have hb := hb1.trans (hb2.mono hb1.size)
    clear hb1 hb2
    go_wp2_with fail
    go_ret
    exact ⟨rfl, hb⟩
  · have h2 : (t.size : Int) ≤ p := by omega
    clear hp
    go_enter Tryd.func8, Tryd.ntmps8
    go_wp2_with fail
    refine (HA.out _ HT.out).mono ?_
    rintro e w1 ⟨rfl, hb1⟩
    have HT1 := Lib.hid (HT.out.next hb1)
    go_wp2_with fail
    refine (frameAwake_any _ HT1.out).mono ?_
    rintro e w2 ⟨rfl, hb2⟩
    have hb := hb1.trans (hb2.mono hb1.size)
    clear hb1 hb2
    go_wp2_with fail
    go_ret
    exact ⟨rfl, hb⟩

set_option maxRecDepth 100000 in
set_option maxHeartbeats 400000 in
theorem frameTurned_long (w : World) (hT : TabAt w) (s : ByteArray) (hs : s.size ≤ 140737488351232) (p : Int) (y : Int) (h : ¬ s.size ≤ 100 ∨ y = 0) (more : ByteArray) :
    Calls Tryd.prog 8 #[.string s, .int .i64 p, .int .u8 y, .string more] w fun e w' => e = .returned (.bool true) ∧ Below w.heap.size w w' := by
  have HT := Lib.hid hT
  clear hT
  by_cases h1 : s.size ≤ 100
  · obtain rfl : y = 0 := by omega
    clear h
    go_enter Tryd.func8, Tryd.ntmps8
    go_wp2_with fail
    refine (frameAwake_any _ HT.out).mono ?_
    rintro e w1 ⟨rfl, hb1⟩
    go_wp2_with fail
    go_ret
    exact ⟨rfl, hb1⟩
  · clear h
    have h2 : 100 < s.size := by omega
    clear h1
    go_enter Tryd.func8, Tryd.ntmps8
    go_wp2_with fail
    refine (frameAwake_any _ HT.out).mono ?_
    rintro e w1 ⟨rfl, hb1⟩
    go_wp2_with fail
    go_ret
    exact ⟨rfl, hb1⟩

theorem frameTurned_walk (w : World) (hT : TabAt w) (s : ByteArray) (hs : s.size ≤ 140737488351232) (p : Int) (hp : -9223372036854775808 ≤ p ∧ p ≤ 9223372036854775807)
    (y : Int) (hy : 0 ≤ y ∧ y ≤ 255) (more : ByteArray) (hm : more.size ≤ 140737488351232) :
    Calls Tryd.prog 8 #[.string s, .int .i64 p, .int .u8 y, .string more] w fun e w' => e = .returned (.bool true) ∧ Below w.heap.size w w' := by
  by_cases h : s.size ≤ 100 ∧ y ≠ 0
  · obtain ⟨m, rfl⟩ := Int.eq_ofNat_of_zero_le hy.1
    by_cases hr : 1 ≤ p ∧ p < (frS s).size
    · obtain ⟨k, rfl⟩ := Int.eq_ofNat_of_zero_le (show 0 ≤ p by omega)
      exact frameTurned_in w hT s h.1 k (by omega) (by omega) m (by omega) (by omega) more hm
    · exact frameTurned_out w hT s h.1 p hr hp m (by omega) more
  · exact frameTurned_long w hT s hs p y (by omega) more

end Go.Proofs.YthllpiohdkcecaaDoor
