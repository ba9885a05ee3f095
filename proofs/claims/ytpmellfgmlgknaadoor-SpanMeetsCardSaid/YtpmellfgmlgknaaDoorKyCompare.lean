/-
  The order of texts: package key's function.
-/
import Derived.Test.YtpmellfgmlgknaaDoorKyWalks
namespace Go.Proofs.YtpmellfgmlgknaaDoor
open Go.RowKit

/-- The two tables of the library's decoder lie as its text lays them. -/
def UtfAt (w : World) : Prop := Lib.Utf8Tabs 0 1 w
theorem UtfAt.next {w w' : World} (h : UtfAt w) (hb : Below w.heap.size w w') : UtfAt w' := Utf8Tabs_below h hb

/-- What the library's decoder answers, the letter a pair of variables. -/
theorem decode_any (t : ByteArray) (c m : Nat) (W : World) (hT : UtfAt W) (ht : 0 < t.size) (h : Utf8.decode t 0 = (c, m)) :
    Calls Tryd.prog 36 #[.string t] W fun e W' => e = .returned (.tuple #[.int .i32 c, .int .i64 m]) ∧ Below W.heap.size W W' := by
  have e : Lib.decodeGo t = (c, m) := by
    unfold Lib.decodeGo
    rw [if_neg (by omega), h]
  have := Tryd.utf8_DecodeRuneInString t W hT
  rw [e] at this
  exact this

set_option maxRecDepth 100000 in
set_option maxHeartbeats 400000 in
theorem cmpRune_any (x y : Int) (w : World) :
    Calls Tryd.prog 37 #[.int .i32 x, .int .i32 y] w fun e w' => e = .returned (.int .i64 (Lib.compareInt x y)) ∧ w = w' := by
  obtain ⟨R, hR⟩ : ∃ R, Lib.compareInt x y = R := ⟨_, rfl⟩
  rw [hR]
  have H := Lib.hid hR
  clear hR
  go_enter Tryd.func37, Tryd.ntmps37
  go_wp2
  all_goals go_ret
  all_goals (refine ⟨?_, rfl⟩; rw [← H.out]; unfold Lib.compareInt; repeat' split)
  all_goals first | rfl | (exfalso; omega)

set_option maxRecDepth 100000 in
set_option maxHeartbeats 800000 in
theorem compare_any (a b : ByteArray) (w : World) (hT : UtfAt w) :
    Calls Tryd.prog 28 #[.string a, .string b] w fun e w' => e = .returned (.int .i64 (Ky.compare a b)) ∧ Below w.heap.size w w' := by
  obtain ⟨R, hR⟩ : ∃ R, Ky.compare a b = R := ⟨_, rfl⟩
  rw [hR]
  have H : Hid (Ky.cmpL (Ky.codes a 0) (Ky.codes b 0) = R) := hR
  clear hR
  have HT := Lib.hid hT
  clear hT
  have HZ := Lib.hid (Ky.rest_zero b)
  go_enter Tryd.func28, Tryd.ntmps28
  go_wp2
  go_loopw [1, 6, 7, 8] (fun v _ _ _ wr => ∃ (p q : Nat) (t : ByteArray), p ≤ a.size ∧ q ≤ b.size ∧ v = .string t ∧ wr.heap[w.heap.size]? = some (.stringIter a p) ∧ Below w.heap.size w wr ∧ Hid (t = b.extract q b.size) ∧ Hid (Ky.cmpL (Ky.codes a p) (Ky.codes b q) = R)) (fun _ _ _ _ wr => a.size - wr.iterPos w.heap.size)
  case atStart => exact ⟨0, 0, b, Nat.zero_le _, Nat.zero_le _, rfl, World.iter_heap w a 0, (Below.refl _ _).alloc (Nat.le_refl _) _, HZ.out.symm, H⟩
  case round =>
    obtain ⟨p, q, t, hp, hq, rfl, hk, hb, ht, hcm⟩ := hrel
    have hts0 : t.size = b.size - q := by rw [ht.out, Ky.rest_size]
    by_cases hlt : p < a.size
    · have hw := Ky.width a p hlt
      have hnext : ∀ ty, (Instr.next (.pointer (some ⟨w.heap.size, 0, none⟩)) true ty).run Tryd.prog wr = _ := fun ty => Lib.run_next_any_at wr w.heap.size a p ty hk hlt
      have hk1 := Lib.iterAt_heap wr w.heap.size a p (p + (Utf8.decode a p).2) hk
      have hb1 : Below w.heap.size w (wr.iterAt w.heap.size a (p + (Utf8.decode a p).2)) := Lib.below_iterAt hb (Nat.le_refl _) a (p + (Utf8.decode a p).2)
      have hmu : wr.iterPos w.heap.size = p := by simp [World.iterPos, hk]
      have hst := hcm.out
      rw [Ky.codes_step a p hlt] at hst
      clear hcm
      obtain ⟨c, hc⟩ : ∃ c, (Utf8.decode a p).1 = c := ⟨_, rfl⟩
      obtain ⟨n, hn⟩ : ∃ n, (Utf8.decode a p).2 = n := ⟨_, rfl⟩
      rw [hc, hn] at hnext hst
      rw [hn] at hk1 hb1 hw
      rw [hc] at hw
      clear hc hn
      generalize wr.iterAt w.heap.size a (p + n) = W1 at hnext hk1 hb1
      by_cases hqb : q < b.size
      · obtain ⟨d, m, d1, d2, m1, m4, hqm, hdc, hts, hte⟩ := rest_facts b t q hqb ht.out
        rw [Ky.codes_step b q hqb, d1] at hst
        dsimp only at hst
        have hne := not_empty t (by omega)
        have HT1 := Lib.hid (HT.out.next hb1)
        have HD : Hid (∀ W, UtfAt W → Calls Tryd.prog 36 #[.string t] W fun e W' => e = .returned (.tuple #[.int .i32 d, .int .i64 m]) ∧ Below W.heap.size W W') := fun W hW => decode_any t d m W hW (by omega) d2
        have HTE := Lib.hid hte
        have hml : (m : Int) ≤ t.size := by omega
        have hkl : w.heap.size < W1.heap.size := lt_of_iter hk1
        clear hts hte d1 d2 hts0 HT
        by_cases he : c = d
        · subst he
          have hcm2 : Hid (Ky.cmpL (Ky.codes a (p + n)) (Ky.codes b (q + m)) = R) := by
            show _ = _
            rw [← hst]; simp [Ky.cmpL]
          clear hst
          go_wp2_with (go_at_call 36; refine (HD.out _ HT1.out).mono ?_; rintro e W2 ⟨rfl, hb2⟩; have hk2 := (hb2.block _ hkl).trans hk1; have hb3 := hb1.trans (hb2.mono (Nat.le_of_lt hkl)))
          go_roundw
          case rel => exact ⟨p + n, q + m, _, hw.2.2.1, hqm, rfl, hk2, hb3, HTE, hcm2⟩
          case measure =>
            have hmu2 : W2.iterPos w.heap.size = p + n := by simp [World.iterPos, hk2]
            rw [hmu, hmu2]; omega
        · have hcm2 : (if c < d then (-1 : Int) else 1) = R := by
            rw [← hst]; simp [Ky.cmpL, he]
          have hcd : ((c : Int) == (d : Int)) = false := beq_eq_false_iff_ne.2 (by omega)
          have HR := Lib.hid hcm2
          clear hst hcm2
          have HC : Hid (∀ W, Calls Tryd.prog 37 #[.int .i32 c, .int .i32 d] W fun e w' => e = .returned (.int .i64 R) ∧ W = w') := fun W => by
            have := cmpRune_any c d W
            have e : Lib.compareInt c d = R := by
              rw [← HR.out]
              unfold Lib.compareInt
              by_cases h : c < d
              · rw [if_pos (by omega), if_pos h]
              · rw [if_neg (by omega), if_neg h, if_pos (by omega)]
            rw [e] at this
            exact this
          clear HR
          go_wp2_with (first | (go_at_call 36; refine (HD.out _ HT1.out).mono ?_; rintro e W2 ⟨rfl, hb2⟩) | (go_at_call 37; refine (HC.out _).mono ?_; rintro e W3 ⟨rfl, rfl⟩))
          go_ret
          exact ⟨rfl, hb1.trans (hb2.mono (Nat.le_of_lt hkl))⟩
      · have hemp : t.toList.isEmpty = true := is_empty t (by omega)
        have hR : R = 1 := by
          rw [← hst, Ky.codes_end b q hqb]; rfl
        subst hR
        clear hst
        go_wp2
        go_ret
        exact ⟨rfl, hb1⟩
    · have hnext : ∀ ty, (Instr.next (.pointer (some ⟨w.heap.size, 0, none⟩)) true ty).run Tryd.prog wr = _ := fun ty => Lib.run_next_end_at wr w.heap.size a p ty hk hlt
      have HC : Hid (∀ W, Calls Tryd.prog 38 #[.int .i64 0, .int .i64 t.size] W fun e w' => e = .returned (.int .i64 R) ∧ w' = W) := fun W => by
        have := Tryd.cmp_Compare_int 0 t.size W
        have e : Lib.compareInt 0 t.size = R := by
          rw [← hcm.out, Ky.codes_end a p hlt]
          unfold Lib.compareInt
          by_cases h : q < b.size
          · rw [if_pos (by omega), Ky.codes_step b q h]; rfl
          · rw [if_neg (by omega), if_neg (by omega), Ky.codes_end b q h]; rfl
        rw [e] at this
        exact this
      clear hcm hts0
      go_wp2_with (go_at_call 38; refine (HC.out _).mono ?_; rintro e W3 ⟨rfl, rfl⟩)
      go_ret
      exact ⟨rfl, hb⟩

end Go.Proofs.YtpmellfgmlgknaaDoor
