/-
  Contracts of Bytes and of the document's Bytes; what Take makes of them.
-/
import Derived.Test.YtccieoofjopbkaaDoorStRefTake
import Derived.Test.YtccieoofjopbkaaDoorPkNumbers
namespace Go.Proofs.YtccieoofjopbkaaDoor
open Go.RowKit

/-- The encoding. -/
def bytS (a b c : Int) : ByteArray := S (Pk.enc a.toNat ++ Pk.enc b.toNat ++ Pk.enc c.toNat)
theorem encs_three (a b c : Int) : encs [a, b, c] = Pk.enc a.toNat ++ Pk.enc b.toNat ++ Pk.enc c.toNat := by simp [encs]

theorem cells_three (w : World) (a b c : Int) : ∀ i, i < 3 → (w.alloc (.cells #[.int .i64 a, .int .i64 b, .int .i64 c] 3)).cell? ⟨w.heap.size, 0 + i, none⟩ = some (.int .i64 ([a, b, c].getD i 0)) := by
  intro i hi
  have : i = 0 ∨ i = 1 ∨ i = 2 := by omega
  rcases this with rfl | rfl | rfl <;> simp

theorem Numbers_new (w : World) (a b c : Int) (h : rightB a b c = true) : Calls Tryd.prog 29 #[.slice (some ⟨w.heap.size, 0, none⟩) 3 3] (w.alloc (.cells #[.int .i64 a, .int .i64 b, .int .i64 c] 3)) fun e w' => e = .returned (.tuple #[.string (bytS a b c), .int .i64 0]) ∧ Below w.heap.size w w' := by
  obtain ⟨ha, hb, hc⟩ := rightB_true h
  have key : ∀ i, i < 3 → 0 ≤ [a, b, c].getD i 0 ∧ [a, b, c].getD i 0 < 9223372036854775808 := by
    intro i hi
    have : i = 0 ∨ i = 1 ∨ i = 2 := by omega
    rcases this with rfl | rfl | rfl
    · show 0 ≤ a ∧ a < _; omega
    · show 0 ≤ b ∧ b < _; omega
    · show 0 ≤ c ∧ c < _; omega
  refine (Numbers_row w.heap.size 0 3 3 [a, b, c] _ rfl (by omega) (by simp) (cells_three w a b c) (fun i hi => (key i hi).2)).mono ?_
  rintro e w1 ⟨he, hb1⟩
  rcases he with ⟨_, he⟩ | ⟨⟨i, hi, hn⟩, _⟩
  · rw [encs_three] at he
    exact ⟨he, ((Below.refl _ _).alloc (Nat.le_refl _) _).trans (hb1.mono (by simp))⟩
  · have := (key i (by simpa using hi)).1
    omega

set_option maxRecDepth 100000 in
set_option maxHeartbeats 400000 in
theorem Bytes_bad (a b c : Int) (w : World) (h : rightB a b c = false) : Calls Tryd.prog 18 #[(Go.Value.agg #[Go.Value.int Go.IntKind.i64 a, Go.Value.int Go.IntKind.i64 b, Go.Value.int Go.IntKind.i64 c])] w fun e w' => e = .returned (.tuple #[.string { data := #[] }, .int .i64 1]) ∧ Below w.heap.size w w' := by
  have HR : Hid (∀ W, Calls Tryd.prog 15 #[(Go.Value.agg #[Go.Value.int Go.IntKind.i64 a, Go.Value.int Go.IntKind.i64 b, Go.Value.int Go.IntKind.i64 c])] W fun e w' => e = .returned (.bool false) ∧ Below W.heap.size W w') := fun W => by rw [← h]; exact Right_any _ _ _ W
  clear h
  go_enter Tryd.func18, Tryd.ntmps18
  go_wp2_with fail
  refine (HR.out _).mono ?_
  rintro e w1 ⟨rfl, hb1⟩
  obtain ⟨hx, hb⟩ := W1_next hb1
  clear hb1 hx
  go_wp2_with fail
  go_ret2
  exact ⟨rfl, hb⟩

set_option maxRecDepth 100000 in
set_option maxHeartbeats 400000 in
theorem Bytes_any (a b c : Int) (w : World) (h : rightB a b c = true) : Calls Tryd.prog 18 #[(Go.Value.agg #[Go.Value.int Go.IntKind.i64 a, Go.Value.int Go.IntKind.i64 b, Go.Value.int Go.IntKind.i64 c])] w fun e w' => e = .returned (.tuple #[.string (bytS a b c), .int .i64 0]) ∧ Below w.heap.size w w' := by
  have HR : Hid (∀ W, Calls Tryd.prog 15 #[(Go.Value.agg #[Go.Value.int Go.IntKind.i64 a, Go.Value.int Go.IntKind.i64 b, Go.Value.int Go.IntKind.i64 c])] W fun e w' => e = .returned (.bool true) ∧ Below W.heap.size W w') := fun W => by rw [← h]; exact Right_any _ _ _ W
  have HN : Hid (∀ W : World, Calls Tryd.prog 29 #[.slice (some ⟨W.heap.size, 0, none⟩) 3 3] (W.alloc (.cells #[.int .i64 a, .int .i64 b, .int .i64 c] 3)) fun e w' => e = .returned (.tuple #[.string (bytS a b c), .int .i64 0]) ∧ Below W.heap.size W w') := fun W => Numbers_new W a b c h
  clear h
  generalize bytS a b c = t at *
  go_enter Tryd.func18, Tryd.ntmps18
  go_wp2_with fail
  refine (HR.out _).mono ?_
  rintro e w1 ⟨rfl, hb1⟩
  obtain ⟨hx, hb⟩ := W1_next hb1
  obtain ⟨x1, x2, x3⟩ := hx.cell
  clear hb1 hx
  go_wp2_with fail
  refine (HN.out _).mono ?_
  rintro e w2 ⟨rfl, hb2⟩
  have hbb := hb.trans (hb2.mono hb.size)
  clear hb hb2
  go_wp2_with fail
  go_ret2
  exact ⟨rfl, hbb⟩

theorem enc_size9 (n : Nat) (h : n < 9223372036854775808) : (S (Pk.enc n)).size ≤ 9 := by rw [S_size]; exact Pk.enc_len9 h

set_option maxRecDepth 100000 in
set_option maxHeartbeats 400000 in
theorem refBytes_any (a b c : Int) (w : World) (h : rightB a b c = true) : Calls Tryd.prog 20 #[(Go.Value.agg #[Go.Value.int Go.IntKind.i64 a, Go.Value.int Go.IntKind.i64 b, Go.Value.int Go.IntKind.i64 c])] w fun e w' => e = .returned (.string (bytS a b c)) ∧ Below w.heap.size w w' := by
  obtain ⟨ha, hb, hc⟩ := rightB_true h
  obtain ⟨x, rfl⟩ := Int.eq_ofNat_of_zero_le ha.1
  obtain ⟨y, rfl⟩ := Int.eq_ofNat_of_zero_le hb.1
  obtain ⟨z, rfl⟩ := Int.eq_ofNat_of_zero_le hc.1
  have hx := refPut_any x
  have HA : Hid (∀ W, Calls Tryd.prog 32 #[.int .i64 (x : Int)] W fun e w' => e = .returned (.tuple #[.string (S (Pk.enc x)), .int .i64 0]) ∧ Below W.heap.size W w') := fun W => refPut_any x W (by omega)
  have HB : Hid (∀ W, Calls Tryd.prog 32 #[.int .i64 (y : Int)] W fun e w' => e = .returned (.tuple #[.string (S (Pk.enc y)), .int .i64 0]) ∧ Below W.heap.size W w') := fun W => refPut_any y W (by omega)
  have HC : Hid (∀ W, Calls Tryd.prog 32 #[.int .i64 (z : Int)] W fun e w' => e = .returned (.tuple #[.string (S (Pk.enc z)), .int .i64 0]) ∧ Below W.heap.size W w') := fun W => refPut_any z W (by omega)
  have HE : Hid (bytS x y z = S (Pk.enc x) ++ S (Pk.enc y) ++ S (Pk.enc z)) := by show _ = _; simp only [bytS, S_append, Int.toNat_natCast]
  have z1 := enc_size9 x (by omega)
  have z2 := enc_size9 y (by omega)
  have z3 := enc_size9 z (by omega)
  clear ha hb hc h hx
  generalize S (Pk.enc x) = tx at *
  generalize S (Pk.enc y) = ty at *
  generalize S (Pk.enc z) = tz at *
  go_enter Tryd.func20, Tryd.ntmps20
  go_wp2_with fail
  refine (HA.out _).mono ?_
  rintro e w1 ⟨rfl, hb1⟩
  obtain ⟨hx, hb⟩ := W1_next hb1
  obtain ⟨x1, x2, x3⟩ := hx.cell
  have HX := Lib.hid hx
  clear hb1 hx
  go_wp2_with fail
  refine (HB.out _).mono ?_
  rintro e w2 ⟨rfl, hb2⟩
  clear x1 x2 x3
  have hx := HX.out.over hb2
  obtain ⟨x1, x2, x3⟩ := hx.cell
  have hbb := hb.trans (hb2.mono hb.size)
  clear hb hb2 hx HX
  go_wp2_with fail
  refine (HC.out _).mono ?_
  rintro e w3 ⟨rfl, hb3⟩
  have hb := hbb.trans (hb3.mono hbb.size)
  clear hbb hb3 x1 x2 x3
  have q1 : (tx ++ ty).size = tx.size + ty.size := ByteArray.size_append
  go_wp2_with fail
  go_ret
  exact ⟨by rw [HE.out]; rfl, hb⟩

/-! ### Taken back -/
theorem bytS_size {a b c : Int} (h : rightB a b c = true) : (bytS a b c).size ≤ 27 := by
  obtain ⟨ha, hb, hc⟩ := rightB_true h
  have z1 := Pk.enc_len9 (n := a.toNat) (by omega)
  have z2 := Pk.enc_len9 (n := b.toNat) (by omega)
  have z3 := Pk.enc_len9 (n := c.toNat) (by omega)
  unfold bytS
  rw [S_size]
  simp only [List.length_append]
  omega
theorem tk_enc {n : Nat} (h : n < 9223372036854775808) (l : List UInt8) : tk (S (Pk.enc n ++ l)) = (n, l, 0) := Pk.take_back h l
theorem stk_back {a b c : Int} (h : rightB a b c = true) (more : ByteArray) : stk (bytS a b c ++ more) = ((a, b, c), more, 0) := by
  obtain ⟨ha, hb, hc⟩ := rightB_true h
  have e0 : bytS a b c ++ more = S (Pk.enc a.toNat ++ (Pk.enc b.toNat ++ (Pk.enc c.toNat ++ more.data.toList))) := by
    conv => lhs; rw [← S_of more]
    simp only [bytS, S_append, List.append_assoc]
  have t0 := tk_enc (n := a.toNat) (by omega) (Pk.enc b.toNat ++ (Pk.enc c.toNat ++ more.data.toList))
  have t1 := tk_enc (n := b.toNat) (by omega) (Pk.enc c.toNat ++ more.data.toList)
  have t2 := tk_enc (n := c.toNat) (by omega) more.data.toList
  generalize hs : bytS a b c ++ more = s at *
  have s0 : sK s 0 = s := rfl
  have s1 : sK s 1 = S (Pk.enc b.toNat ++ (Pk.enc c.toNat ++ more.data.toList)) := by
    show S (tk (sK s 0)).2.1 = _
    rw [s0, e0, t0]
  have s2 : sK s 2 = S (Pk.enc c.toNat ++ more.data.toList) := by
    show S (tk (sK s 1)).2.1 = _
    rw [s1, t1]
  have s3 : sK s 3 = more := by
    show S (tk (sK s 2)).2.1 = _
    rw [s2, t2]; exact S_of more
  have v0 : vK s 0 = a := by unfold vK; rw [s0, e0, t0]; show ((a.toNat : Nat) : Int) = a; omega
  have v1 : vK s 1 = b := by unfold vK; rw [s1, t1]; show ((b.toNat : Nat) : Int) = b; omega
  have v2 : vK s 2 = c := by unfold vK; rw [s2, t2]; show ((c.toNat : Nat) : Int) = c; omega
  have g0 : eK s 0 = 0 := by unfold eK; rw [s0, e0, t0]; rfl
  have g1 : eK s 1 = 0 := by unfold eK; rw [s1, t1]; rfl
  have g2 : eK s 2 = 0 := by unfold eK; rw [s2, t2]; rfl
  unfold stk
  rw [if_pos g0, if_pos g1, if_pos g2, v0, v1, v2, h, s3]
  rfl

end Go.Proofs.YtccieoofjopbkaaDoor
