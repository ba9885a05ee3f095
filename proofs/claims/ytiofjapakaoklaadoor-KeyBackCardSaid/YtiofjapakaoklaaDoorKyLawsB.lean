/-
  A text's word is read back; no other text has it.
-/
import Derived.Test.YtiofjapakaoklaaDoorKyRead
namespace Go.Proofs.YtiofjapakaoklaaDoor
open Go.RowKit
set_option linter.unusedVariables false

set_option maxRecDepth 100000 in
set_option maxHeartbeats 1000000 in
theorem keyBack_walk (w : World) (hT : TabAt w) (s : ByteArray) (hs : s.size ≤ 140737488351232) (o : ByteArray) (ho : o.size ≤ 140737488351232) :
    Calls Tryd.prog 8 #[.string s, .string o] w fun e w' => e = .returned (.bool true) ∧ Below w.heap.size w w' := by
  have HT := Lib.hid hT
  clear hT
  by_cases h1 : 4096 < s.size
  · have h1' : (4096 : Int) < s.size := by omega
    go_enter Tryd.func8, Tryd.ntmps8
    go_wp2_with (fail)
    refine (awake_any _ HT.out).mono ?_
    rintro e w1 ⟨rfl, hb1⟩
    go_wp2_with (fail)
    go_ret
    exact ⟨rfl, hb1⟩
  have h1' : ¬ (4096 : Int) < s.size := by omega
  by_cases h2 : 4096 < o.size
  · have h2' : (4096 : Int) < o.size := by omega
    go_enter Tryd.func8, Tryd.ntmps8
    go_wp2_with (fail)
    refine (awake_any _ HT.out).mono ?_
    rintro e w1 ⟨rfl, hb1⟩
    go_wp2_with (fail)
    go_ret
    exact ⟨rfl, hb1⟩
  have h2' : ¬ (4096 : Int) < o.size := by omega
  obtain ⟨x, hx⟩ : ∃ x, showS s = x := ⟨_, rfl⟩
  obtain ⟨y, hy⟩ : ∃ y, showS o = y := ⟨_, rfl⟩
  have HX : Hid (∀ W, Calls Tryd.prog 18 #[.string s] W fun e w' => e = .returned (.string x) ∧ Below W.heap.size W w') := fun W => by
    rw [← hx]; exact show_any s W (by omega)
  have HY : Hid (∀ W, Calls Tryd.prog 18 #[.string o] W fun e w' => e = .returned (.string y) ∧ Below W.heap.size W w') := fun W => by
    rw [← hy]; exact show_any o W (by omega)
  have hxl : x.size ≤ 20000 := by
    have := Ky.showL_len s
    rw [← hx]
    unfold showS
    rw [S_size]; omega
  have hbig : ∀ k (h : k < x.size), 33 ≤ (x[k]'h).toNat := by
    intro k h
    refine Ky.show_big s (x[k]'h) ?_
    have e : Ky.showL s = x.data.toList := by rw [← hx]; rfl
    rw [e, ← bytes_at x k h]
    exact List.getElem_mem _
  have hne : 0 < x.size := by
    have h := Ky.show_ne s
    have e : x.size = (Ky.showL s).length := by rw [← hx]; unfold showS; rw [S_size]
    rw [e]
    exact List.length_pos_iff.2 h
  have hread : Ky.readO x = some s.data.toList := by
    rw [← hx]
    exact Ky.readO_show s
  have HR : Hid (∀ W, Calls Tryd.prog 20 #[.string x] W fun e w' => e = .returned (.tuple #[.string s, .int .i64 0]) ∧ Below W.heap.size W w') := fun W => by
    have := read_any x W (by omega)
    have e1 : readS x = s := by unfold readS; rw [hread]; rfl
    have e2 : readE x = 0 := by unfold readE; rw [hread]; rfl
    rw [e1, e2] at this
    exact this
  have hyx : (y.toList == x.toList) = (o.toList == s.toList) := by
    by_cases h : o = s
    · have : y = x := by rw [← hx, ← hy, h]
      rw [this, h]; simp
    · have h3 : ¬ y = x := by
        intro e
        apply h
        apply Ky.show_inj
        have := congrArg (fun b : ByteArray => b.data.toList) (hy.trans (e.trans hx.symm))
        exact this
      rw [beq_eq_false_iff_ne.2 (fun e => h (list_inj e)), beq_eq_false_iff_ne.2 (fun e => h3 (list_inj e))]
  have hemp := not_empty x hne
  have HB := Lib.hid hbig
  clear hx hy hread hbig
  obtain ⟨F, hF⟩ : ∃ F, (o.toList == s.toList) = F := ⟨_, rfl⟩
  rw [hF] at hyx
  have HYX := Lib.hid hyx
  have HF := Lib.hid hF
  clear hyx hF
  go_enter Tryd.func8, Tryd.ntmps8
  go_wp2_with (fail)
  refine (HX.out _).mono ?_
  rintro e w1 ⟨rfl, hb1⟩
  have HT1 := Lib.hid (HT.out.next hb1)
  go_wp2_with (fail)
  go_loop [6] (fun i => ∃ k : Nat, k ≤ x.size ∧ i = .int .i64 k) (fun i => x.size - (intOf i).toNat)
  case atStart => exact ⟨0, Nat.zero_le _, rfl⟩
  case round =>
    obtain ⟨k, hk, rfl⟩ := hrel
    by_cases hlt : k < x.size
    · have hbk := HB.out k hlt
      obtain ⟨z, hz⟩ : ∃ z, x[k]'hlt = z := ⟨_, rfl⟩
      rw [hz] at hbk
      have hbk' : ¬ (z.toNat : Int) ≤ 32 := by omega
      go_wp2
      go_round
      case rel => exact ⟨k + 1, by omega, by go_num⟩
      case measure => simp [intOf]; omega
    · go_wp2_with (fail)
      refine (HR.out _).mono ?_
      rintro e w2 ⟨rfl, hb2⟩
      have HT2 := Lib.hid (HT1.out.next hb2)
      have hbb := hb1.trans (hb2.mono hb1.size)
      clear hb1 hb2
      go_wp2_with (fail)
      refine (HY.out _).mono ?_
      rintro e w3 ⟨rfl, hb3⟩
      have HT3 := Lib.hid (HT2.out.next hb3)
      have hbc := hbb.trans (hb3.mono hbb.size)
      clear hbb hb3
      have hyx := HYX.out
      have hF := HF.out
      go_wp2_with (fail)
      refine (awake_any _ HT3.out).mono ?_
      rintro e w4 ⟨rfl, hb4⟩
      go_wp2_with (fail)
      go_ret
      exact ⟨rfl, hbc.trans (hb4.mono hbc.size)⟩

end Go.Proofs.YtiofjapakaoklaaDoor
