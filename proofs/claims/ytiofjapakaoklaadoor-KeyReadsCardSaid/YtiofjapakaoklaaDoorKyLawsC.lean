/-
  Any text is the word, and any word the text, that the document says.
-/
import Derived.Test.YtiofjapakaoklaaDoorKyRefRead
namespace Go.Proofs.YtiofjapakaoklaaDoor
open Go.RowKit
set_option linter.unusedVariables false

set_option maxRecDepth 100000 in
set_option maxHeartbeats 1000000 in
theorem keyShows_walk (w : World) (hT : TabAt w) (s : ByteArray) (hs : s.size ≤ 140737488351232) :
    Calls Tryd.prog 5 #[.string s] w fun e w' => e = .returned (.bool true) ∧ Below w.heap.size w w' := by
  have HT := Lib.hid hT
  clear hT
  by_cases h1 : 4096 < s.size
  · have h1' : (4096 : Int) < s.size := by omega
    go_enter Tryd.func5, Tryd.ntmps5
    go_wp2_with (fail)
    refine (awake_any _ HT.out).mono ?_
    rintro e w1 ⟨rfl, hb1⟩
    go_wp2_with (fail)
    go_ret
    exact ⟨rfl, hb1⟩
  have h1' : ¬ (4096 : Int) < s.size := by omega
  obtain ⟨x, hx⟩ : ∃ x, showS s = x := ⟨_, rfl⟩
  have HX : Hid (∀ W, Calls Tryd.prog 18 #[.string s] W fun e w' => e = .returned (.string x) ∧ Below W.heap.size W w') := fun W => by
    rw [← hx]; exact show_any s W (by omega)
  have HY : Hid (∀ W, Calls Tryd.prog 19 #[.string s] W fun e w' => e = .returned (.string x) ∧ Below W.heap.size W w') := fun W => by
    rw [← hx]; exact refShow_any s W (by omega)
  clear hx
  go_enter Tryd.func5, Tryd.ntmps5
  go_wp2_with (fail)
  refine (HX.out _).mono ?_
  rintro e w1 ⟨rfl, hb1⟩
  have HT1 := Lib.hid (HT.out.next hb1)
  go_wp2_with (fail)
  refine (HY.out _).mono ?_
  rintro e w2 ⟨rfl, hb2⟩
  have HT2 := Lib.hid (HT1.out.next hb2)
  have hbb := hb1.trans (hb2.mono hb1.size)
  clear hb1 hb2
  go_wp2_with (fail)
  refine (awake_any _ HT2.out).mono ?_
  rintro e w3 ⟨rfl, hb3⟩
  go_wp2_with (fail)
  go_ret
  exact ⟨rfl, hbb.trans (hb3.mono hbb.size)⟩

set_option maxRecDepth 100000 in
set_option maxHeartbeats 1000000 in
theorem keyReads_walk (w : World) (hT : TabAt w) (s : ByteArray) (hs : s.size ≤ 140737488351232) :
    Calls Tryd.prog 6 #[.string s] w fun e w' => e = .returned (.bool true) ∧ Below w.heap.size w w' := by
  have HT := Lib.hid hT
  clear hT
  by_cases h1 : 4096 < s.size
  · have h1' : (4096 : Int) < s.size := by omega
    go_enter Tryd.func6, Tryd.ntmps6
    go_wp2_with (fail)
    refine (awake_any _ HT.out).mono ?_
    rintro e w1 ⟨rfl, hb1⟩
    go_wp2_with (fail)
    go_ret
    exact ⟨rfl, hb1⟩
  have h1' : ¬ (4096 : Int) < s.size := by omega
  obtain ⟨O, hO⟩ : ∃ O, Ky.readO s = O := ⟨_, rfl⟩
  have hR : ∀ W, Calls Tryd.prog 20 #[.string s] W fun e w' => e = .returned (.tuple #[.string (S (O.getD [])), .int .i64 (if O.isSome then 0 else 3)]) ∧ Below W.heap.size W w' := fun W => by
    have h := read_any s W (by omega)
    unfold readS readE at h
    rw [hO] at h
    exact h
  have hF : ∀ W, Calls Tryd.prog 21 #[.string s] W fun e w' => e = .returned (.tuple #[.string (S (O.getD [])), .bool O.isSome]) ∧ Below W.heap.size W w' := fun W => by
    have h := refRead_any s W (by omega)
    unfold readS readB at h
    rw [hO] at h
    exact h
  clear hO
  cases O with
  | none =>
    have HX : Hid (∀ W, Calls Tryd.prog 20 #[.string s] W fun e w' => e = .returned (.tuple #[.string { data := #[] }, .int .i64 3]) ∧ Below W.heap.size W w') := hR
    have HY : Hid (∀ W, Calls Tryd.prog 21 #[.string s] W fun e w' => e = .returned (.tuple #[.string { data := #[] }, .bool false]) ∧ Below W.heap.size W w') := hF
    clear hR hF
    go_enter Tryd.func6, Tryd.ntmps6
    go_wp2_with (fail)
    refine (HX.out _).mono ?_
    rintro e w1 ⟨rfl, hb1⟩
    have HT1 := Lib.hid (HT.out.next hb1)
    go_wp2_with (fail)
    refine (HY.out _).mono ?_
    rintro e w2 ⟨rfl, hb2⟩
    have HT2 := Lib.hid (HT1.out.next hb2)
    have hbb := hb1.trans (hb2.mono hb1.size)
    clear hb1 hb2
    go_wp2_with (fail)
    refine (awake_any _ HT2.out).mono ?_
    rintro e w3 ⟨rfl, hb3⟩
    go_wp2_with (fail)
    go_ret
    exact ⟨rfl, hbb.trans (hb3.mono hbb.size)⟩
  | some l =>
    obtain ⟨x, hx⟩ : ∃ x, S l = x := ⟨_, rfl⟩
    have HX : Hid (∀ W, Calls Tryd.prog 20 #[.string s] W fun e w' => e = .returned (.tuple #[.string x, .int .i64 0]) ∧ Below W.heap.size W w') := by rw [← hx]; exact hR
    have HY : Hid (∀ W, Calls Tryd.prog 21 #[.string s] W fun e w' => e = .returned (.tuple #[.string x, .bool true]) ∧ Below W.heap.size W w') := by rw [← hx]; exact hF
    clear hR hF hx
    go_enter Tryd.func6, Tryd.ntmps6
    go_wp2_with (fail)
    refine (HX.out _).mono ?_
    rintro e w1 ⟨rfl, hb1⟩
    have HT1 := Lib.hid (HT.out.next hb1)
    go_wp2_with (fail)
    refine (HY.out _).mono ?_
    rintro e w2 ⟨rfl, hb2⟩
    have HT2 := Lib.hid (HT1.out.next hb2)
    have hbb := hb1.trans (hb2.mono hb1.size)
    clear hb1 hb2
    go_wp2_with (fail)
    refine (awake_any _ HT2.out).mono ?_
    rintro e w3 ⟨rfl, hb3⟩
    go_wp2_with (fail)
    go_ret
    exact ⟨rfl, hbb.trans (hb3.mono hbb.size)⟩

end Go.Proofs.YtiofjapakaoklaaDoor
