/-
  What a word stands for: package key's function; and the fixed answer.
-/
import Derived.Test.YtiofjapakaoklaaDoorKyReadWalk
namespace Go.Proofs.YtiofjapakaoklaaDoor
open Go.RowKit

def readS (s : ByteArray) : ByteArray := S ((Ky.readO s).getD [])
def readE (s : ByteArray) : Int := if (Ky.readO s).isSome then 0 else 3

set_option maxRecDepth 100000 in
set_option maxHeartbeats 1000000 in
theorem read_any (s : ByteArray) (w : World) (hs : s.size ≤ 100000) :
    Calls Tryd.prog 20 #[.string s] w fun e w' => e = .returned (.tuple #[.string (readS s), .int .i64 (readE s)]) ∧ Below w.heap.size w w' := by
  obtain ⟨O, hO⟩ : ∃ O, Ky.readO s = O := ⟨_, rfl⟩
  have eS : readS s = S (O.getD []) := by unfold readS; rw [hO]
  have eE : readE s = if O.isSome then 0 else 3 := by unfold readE; rw [hO]
  rw [eS, eE]
  have HO := Lib.hid hO
  clear hO eS eE
  by_cases h37 : s.data.toList = [37]
  · have hs2 : s = { data := #[37] } := bytes_inj h37
    have hO := HO.out
    unfold Ky.readO at hO
    rw [if_pos h37] at hO
    subst hO
    clear HO h37
    subst hs2
    go_enter Tryd.func20, Tryd.ntmps20
    go_wp2
    go_ret2
    exact ⟨rfl, Below.refl _ _⟩
  have hn2 : ¬ s.toList = [37] := by rw [ByteArray.toList_eq]; exact h37
  have hn1 : (s.toList == [37]) = false := beq_eq_false_iff_ne.2 hn2
  have hO := HO.out
  unfold Ky.readO at hO
  rw [if_neg h37] at hO
  have HO2 := Lib.hid hO
  clear HO hO h37
  obtain ⟨U, hU⟩ : ∃ U, unO s = U := ⟨_, rfl⟩
  have hU2 : Ky.un s.data.toList = U := hU
  have HU : Hid (∀ W, Calls Tryd.prog 31 #[.string s] W fun e w' => e = .returned (.tuple #[.string (S (U.getD [])), .bool U.isSome]) ∧ Below W.heap.size W w') := fun W => by
    have := unescaped_any s W hs
    unfold unS unB at this
    rw [hU] at this
    exact this
  have HUL := Lib.hid (Ky.un_len s.data.toList)
  have hO := HO2.out
  rw [hU2] at hO HUL
  have HO3 := Lib.hid hO
  clear HO2 hO hU hU2
  cases U with
  | none =>
    have hO := HO3.out
    dsimp only at hO
    subst hO
    have HU2 : Hid (∀ W, Calls Tryd.prog 31 #[.string s] W fun e w' => e = .returned (.tuple #[.string { data := #[] }, .bool false]) ∧ Below W.heap.size W w') := HU
    clear HU HUL HO3
    go_enter Tryd.func20, Tryd.ntmps20
    go_wp2_with (go_at_call 31; refine (HU2.out _).mono ?_; rintro e w1 ⟨rfl, hb1⟩)
    go_ret2
    exact ⟨rfl, hb1⟩
  | some l =>
    have hll := HUL.out l rfl
    rw [bytes_len] at hll
    obtain ⟨t, ht⟩ : ∃ t, S l = t := ⟨_, rfl⟩
    have htl : t.size ≤ 100000 := by rw [← ht, S_size]; omega
    have HU2 : Hid (∀ W, Calls Tryd.prog 31 #[.string s] W fun e w' => e = .returned (.tuple #[.string t, .bool true]) ∧ Below W.heap.size W w') := by
      rw [← ht]; exact HU
    obtain ⟨x, hx⟩ : ∃ x, showS t = x := ⟨_, rfl⟩
    have HS : Hid (∀ W, Calls Tryd.prog 18 #[.string t] W fun e w' => e = .returned (.string x) ∧ Below W.heap.size W w') := fun W => by
      rw [← hx]; exact show_any t W htl
    have hO := HO3.out
    dsimp only at hO
    rw [ht] at hO
    have hxl : Ky.showL t = x.data.toList := by rw [← hx]; rfl
    rw [hxl] at hO
    have HO4 := Lib.hid hO
    have HT := Lib.hid ht
    clear HU HUL HO3 hO ht hx hxl
    by_cases he : x = s
    · subst he
      have hO := HO4.out
      rw [if_pos rfl] at hO
      subst hO
      clear HO4
      go_enter Tryd.func20, Tryd.ntmps20
      go_wp2_with (first | (go_at_call 31; refine (HU2.out _).mono ?_; rintro e w1 ⟨rfl, hb1⟩) | (go_at_call 18; refine (HS.out _).mono ?_; rintro e w2 ⟨rfl, hb2⟩))
      go_ret2
      exact ⟨by rw [← HT.out]; rfl, hb1.trans (hb2.mono hb1.size)⟩
    · have hx2 : ¬ x.toList = s.toList := fun h => he (list_inj h)
      have hx1 : (x.toList == s.toList) = false := beq_eq_false_iff_ne.2 hx2
      have hO := HO4.out
      rw [if_neg (fun h => he (bytes_inj h))] at hO
      subst hO
      clear HO4 he
      go_enter Tryd.func20, Tryd.ntmps20
      go_wp2_with (first | (go_at_call 31; refine (HU2.out _).mono ?_; rintro e w1 ⟨rfl, hb1⟩) | (go_at_call 18; refine (HS.out _).mono ?_; rintro e w2 ⟨rfl, hb2⟩))
      go_ret2
      exact ⟨rfl, hb1.trans (hb2.mono hb1.size)⟩

/-! ### The fixed answer -/
theorem fix_read : readS { data := #[97, 37, 50, 48, 98] } = { data := #[97, 32, 98] } ∧ readE { data := #[97, 37, 50, 48, 98] } = 0 := by
  have h : Ky.readO { data := #[97, 37, 50, 48, 98] } = some [97, 32, 98] := by decide +kernel
  unfold readS readE
  rw [h]
  exact ⟨rfl, rfl⟩
theorem fix_right : Ky.right { data := #[97, 98] } = true := by decide +kernel
theorem fix_show : showS { data := #[97, 32, 98] } = { data := #[97, 37, 50, 48, 98] } := by
  have h : Ky.showL { data := #[97, 32, 98] } = [97, 37, 50, 48, 98] := by decide +kernel
  unfold showS
  rw [h]
  rfl
theorem fix_compare : Ky.compare { data := #[97] } { data := #[97, 98] } = -1 := by decide +kernel

set_option maxRecDepth 100000 in
set_option maxHeartbeats 1000000 in
theorem awake_any (w : World) (hT : TabAt w) :
    Calls Tryd.prog 15 #[] w fun e w' => e = .returned (.bool true) ∧ Below w.heap.size w w' := by
  have H1 : Hid (∀ W, Calls Tryd.prog 20 #[.string { data := #[97, 37, 50, 48, 98] }] W fun e w' => e = .returned (.tuple #[.string { data := #[97, 32, 98] }, .int .i64 0]) ∧ Below W.heap.size W w') := fun W => by
    have := read_any { data := #[97, 37, 50, 48, 98] } W (by decide)
    rw [fix_read.1, fix_read.2] at this
    exact this
  have H2 : Hid (∀ W, Calls Tryd.prog 13 #[.string { data := #[97, 98] }] W fun e w' => e = .returned (.bool true) ∧ Below W.heap.size W w') := fun W => by
    have := right_any { data := #[97, 98] } W
    rw [fix_right] at this
    exact this
  have H3 : Hid (∀ W, Calls Tryd.prog 18 #[.string { data := #[97, 32, 98] }] W fun e w' => e = .returned (.string { data := #[97, 37, 50, 48, 98] }) ∧ Below W.heap.size W w') := fun W => by
    have := show_any { data := #[97, 32, 98] } W (by decide)
    rw [fix_show] at this
    exact this
  have H4 : Hid (∀ W, TabAt W → Calls Tryd.prog 16 #[.string { data := #[97] }, .string { data := #[97, 98] }] W fun e w' => e = .returned (.int .i64 (-1)) ∧ Below W.heap.size W w') := fun W hW => by
    have := compare_any { data := #[97] } { data := #[97, 98] } W hW
    rw [fix_compare] at this
    exact this
  have HT := Lib.hid hT
  clear hT
  go_enter Tryd.func15, Tryd.ntmps15
  go_wp2_with (first
    | (go_at_call 20; refine (H1.out _).mono ?_; rintro e w1 ⟨rfl, hb1⟩)
    | (go_at_call 13; refine (H2.out _).mono ?_; rintro e w2 ⟨rfl, hb2⟩)
    | (go_at_call 18; refine (H3.out _).mono ?_; rintro e w3 ⟨rfl, hb3⟩; have hb := (hb1.trans (hb2.mono hb1.size)).trans (hb3.mono (hb1.trans (hb2.mono hb1.size)).size); have HT3 := Lib.hid (HT.out.next hb))
    | (go_at_call 16; refine (H4.out _ HT3.out).mono ?_; rintro e w4 ⟨rfl, hb4⟩))
  go_ret
  exact ⟨rfl, hb.trans (hb4.mono hb.size)⟩

end Go.Proofs.YtiofjapakaoklaaDoor
