/-
  Contracts of package check's functions and of the document's answers for them: what each call returns, and that it leaves all memory that was there as it was.
-/
import Derived.Test.YthllpiohdkcecaaDoorBase
import Derived.Test.YthllpiohdkcecaaDoorCkTab
namespace Go.Proofs.YthllpiohdkcecaaDoor
open Go.RowKit

/-- The table of four steps lies in its variable. -/
def TabAt (w : World) : Prop := ∀ i, i < 16 → w.cell? ⟨0, i, none⟩ = some (.int .u32 (Ck.tab i : Nat))

theorem not_u32 {r : Nat} (h : r < 4294967296) : bits BinOp.xor IntKind.u32 IntKind.u32.max (r : Int) = ((4294967295 - r : Nat) : Int) := by
  have e : IntKind.u32.max = ((4294967295 : Nat) : Int) := rfl
  rw [e, u32_xor_nat _ _ (by omega) h]
  have h1 := Ck.xor_not h
  have h2 : 4294967295 ^^^ r = 4294967295 - r := by
    have h3 : (r ^^^ (4294967295 - r)) ^^^ r = 4294967295 - r := by rw [Nat.xor_comm r, Nat.xor_assoc, Nat.xor_self, Nat.xor_zero]
    rw [h1] at h3
    exact h3
  rw [h2]

theorem and15 {r : Nat} (h : r < 4294967296) : bits BinOp.and IntKind.u32 (r : Int) 15 = ((r % 16 : Nat) : Int) := by
  have e : (15 : Int) = ((15 : Nat) : Int) := rfl
  rw [e, u32_and_nat _ _ h (by omega), nat_mask4]
/-- Half a byte's step, as the call computes it. -/
theorem half {r : Nat} (h : r < 4294967296) : bits BinOp.xor IntKind.u32 ((r : Int) / 16) (Ck.tab (r % 16) : Int) = ((Ck.step4 r : Nat) : Int) := by
  have e : (r : Int) / 16 = ((r / 16 : Nat) : Int) := by omega
  rw [e, u32_xor_nat _ _ (by omega) (Ck.tab_lt (by omega))]
  rfl

/-- The sum of a text's bytes, under a name that the walk leaves alone. -/
def sumN (s : ByteArray) : Nat := Ck.sum s.data.toList
theorem sumN_lt (s : ByteArray) : sumN s < 4294967296 := Ck.sum_lt _

set_option maxRecDepth 100000 in
set_option maxHeartbeats 400000 in
theorem Of_any (s : ByteArray) (w : World) (hs : s.size ≤ 9223372036854775807) (hT : TabAt w) :
    Calls Tryd.prog 32 #[.string s] w fun e w' => e = .returned (.int .u32 (sumN s : Nat)) ∧ w = w' := by
  have HT := Lib.hid hT
  clear hT
  go_enter Tryd.func32, Tryd.ntmps32
  go_wp2
  go_loop [3, 7] (fun r i => ∃ k : Nat, k ≤ s.size ∧ i = .int .i64 k ∧ r = .int .u32 (Ck.reg (s.data.toList.take k) : Nat)) (fun _ i => s.size - (intOf i).toNat)
  case atStart => exact ⟨0, Nat.zero_le _, rfl, rfl⟩
  case round =>
    obtain ⟨k, hk, rfl, rfl⟩ := hrel
    by_cases hlt : k < s.size
    · have hb := s[k].toNat_lt
      have HS := Lib.hid (front_snoc s k hlt)
      have hr := Ck.reg_lt (s.data.toList.take k)
      have HR := Lib.hid (Ck.reg_next (s.data.toList.take k) s[k])
      generalize Ck.reg (s.data.toList.take k) = r at *
      generalize hbb : s[k].toNat = b at *
      have q0 : (b : Int) % 4294967296 = b := by omega
      have q1 := u32_xor_nat r b hr (by omega)
      have l1 := Ck.byte_xor_lt hr hb
      generalize r ^^^ b = r1 at *
      have q2 := and15 l1
      have c2 := HT.out (r1 % 16) (by omega)
      have q3 := half l1
      have l2 := Ck.step4_lt l1
      have i1 : r1 % 16 < 16 := by omega
      generalize r1 % 16 = x1 at *
      generalize Ck.step4 r1 = r2 at *
      have q4 := and15 l2
      have c4 := HT.out (r2 % 16) (by omega)
      have q5 := half l2
      have i2 : r2 % 16 < 16 := by omega
      generalize r2 % 16 = x2 at *
      generalize Ck.step4 r2 = r3 at *
      go_wp2
      go_round
      case rel => exact ⟨k + 1, by omega, by go_num, by rw [HS.out, HR.out]⟩
      case measure => simp [intOf]; omega
    · have hsg : IntKind.u32.signed = false := rfl
      have hnot := Lib.hid (not_u32 (Ck.reg_lt s.data.toList))
      have htk : s.data.toList.take k = s.data.toList := List.take_of_length_le (by simp; omega)
      rw [htk]
      clear htk
      go_wp2
      go_ret
      exact ⟨by unfold sumN; rw [hnot.out]; rfl, rfl⟩
/-! ### Sums as bytes -/

theorem convert_bytes (w : World) (l : List UInt8) (n : Nat) (hn : l.length = n) : (convert 29 9 (.slice (some ⟨w.heap.size, 0, none⟩) n n)).run Tryd.prog (w.alloc (.cells (l.map fun b => Value.int .u8 (b.toNat : Int)).toArray 5)) =
    .ok (.string (S l)) (w.alloc (.cells (l.map fun b => Value.int .u8 (b.toNat : Int)).toArray 5)) := by
  subst hn
  refine run_convert_bytes_back (P := Tryd.prog) _ 29 9 5 ⟨w.heap.size, 0, none⟩ l.length l Tryd.underlying29 Tryd.underlying5 Tryd.underlying9 (fun j hj => ?_)
  rw [Addr.add_lit, Nat.zero_add]
  simp [hj]
theorem four_cells {n : Nat} (hn : n < 4294967296) : ((Ck.four n).map fun b => Value.int .u8 (b.toNat : Int)).toArray = #[.int .u8 ((n : Int) % 256), .int .u8 ((n : Int) / 256 % 256), .int .u8 ((n : Int) / 65536 % 256), .int .u8 ((n : Int) / 16777216)] := by
  have e : (n : Int) / 16777216 = (n : Int) / 16777216 % 256 := by omega
  rw [e]
  simp [Ck.four]
theorem convert_four (w : World) {n : Nat} (hn : n < 4294967296) : (convert 29 9 (.slice (some ⟨w.heap.size, 0, none⟩) 4 4)).run Tryd.prog (w.alloc (.cells #[.int .u8 ((n : Int) % 256), .int .u8 ((n : Int) / 256 % 256), .int .u8 ((n : Int) / 65536 % 256), .int .u8 ((n : Int) / 16777216)] 5)) =
    .ok (.string (S (Ck.four n))) (w.alloc (.cells #[.int .u8 ((n : Int) % 256), .int .u8 ((n : Int) / 256 % 256), .int .u8 ((n : Int) / 65536 % 256), .int .u8 ((n : Int) / 16777216)] 5)) := by
  have h := convert_bytes w (Ck.four n) 4 rfl
  rw [four_cells hn] at h
  exact h

/-- The sum of a text's bytes, as bytes. -/
def sumS (s : ByteArray) : ByteArray := S (Ck.four (sumN s))

set_option maxRecDepth 100000 in
set_option maxHeartbeats 400000 in
theorem sumText_any (s : ByteArray) (w : World) (hs : s.size ≤ 9223372036854775807) (hT : TabAt w) :
    Calls Tryd.prog 27 #[.string s] w fun e w' => e = .returned (.string (sumS s)) ∧ Below w.heap.size w w' := by
  have HT := Lib.hid hT
  clear hT
  have hc := convert_four w (sumN_lt s)
  have hl := sumN_lt s
  have HE : Hid (sumS s = S (Ck.four (sumN s))) := rfl
  go_enter Tryd.func27, Tryd.ntmps27
  go_wp2_with fail
  refine (Of_any s _ hs HT.out).mono ?_
  rintro e w' ⟨rfl, rfl⟩
  generalize sumN s = n at *
  generalize S (Ck.four n) = x at *
  go_wp2_with fail
  go_ret
  exact ⟨by rw [HE.out]; rfl, (Below.refl _ _).alloc (Nat.le_refl _) _⟩

set_option maxRecDepth 100000 in
set_option maxHeartbeats 400000 in
theorem refFour_any (n : Nat) (w : World) (h : n < 4294967296) :
    Calls Tryd.prog 22 #[.int .u32 n] w fun e w' => e = .returned (.string (S (Ck.four n))) ∧ Below w.heap.size w w' := by
  have hc := convert_four w h
  generalize S (Ck.four n) = x at *
  go_enter Tryd.func22, Tryd.ntmps22
  go_wp2_with fail
  go_ret
  exact ⟨rfl, (Below.refl _ _).alloc (Nat.le_refl _) _⟩

/-! ### The document's sum -/
theorem ofInt_i64 (a : Nat) (ha : a < 9223372036854775808) : (BitVec.ofInt 64 (a : Int)).toNat = a := by
  rw [BitVec.ofInt_natCast, BitVec.toNat_ofNat]; exact Nat.mod_eq_of_lt (by omega)
theorem i64_xor_nat (a b : Nat) (ha : a < 9223372036854775808) (hb : b < 9223372036854775808) : bits .xor .i64 (a : Int) (b : Int) = ((a ^^^ b : Nat) : Int) := by
  have hx : a ^^^ b < 2 ^ 63 := Nat.xor_lt_two_pow (by omega) (by omega)
  show IntKind.i64.wrap ((BitVec.ofInt 64 (a : Int) ^^^ BitVec.ofInt 64 (b : Int)).toNat : Int) = _
  rw [BitVec.toNat_xor, ofInt_i64 a ha, ofInt_i64 b hb, IntKind.wrap_i64]
  omega
theorem xor_poly {c : Nat} (h : c < 4294967296) : bits BinOp.xor .i64 ((c : Int) / 2) 2197175160 = ((c / 2 ^^^ Ck.poly : Nat) : Int) := by
  have e : (2197175160 : Int) = ((Ck.poly : Nat) : Int) := rfl
  have e2 : (c : Int) / 2 = ((c / 2 : Nat) : Int) := by omega
  have := Ck.poly_lt
  rw [e, e2, i64_xor_nat _ _ (by omega) (by omega)]

set_option maxRecDepth 100000 in
set_option maxHeartbeats 400000 in
theorem refOf_any (s : ByteArray) (w : World) (hs : s.size ≤ 9223372036854775807) :
    Calls Tryd.prog 23 #[.string s] w fun e w' => e = .returned (.int .u32 (sumN s : Nat)) ∧ w = w' := by
  go_enter Tryd.func23, Tryd.ntmps23
  go_wp2
  go_loop [3, 4] (fun c i => ∃ k : Nat, k ≤ s.size ∧ i = .int .i64 k ∧ c = .int .i64 (Ck.reg (s.data.toList.take k) : Nat)) (fun _ i => s.size - (intOf i).toNat)
  case atStart => exact ⟨0, Nat.zero_le _, rfl, rfl⟩
  case round =>
    obtain ⟨k, hk, rfl, rfl⟩ := hrel
    have hr := Ck.reg_lt (s.data.toList.take k)
    by_cases hlt : k < s.size
    · have hb := s[k].toNat_lt
      have HS := Lib.hid (front_snoc s k hlt)
      have HR := Lib.hid (Ck.reg_byte (s.data.toList.take k) s[k])
      generalize Ck.reg (s.data.toList.take k) = r at *
      generalize hbb : s[k].toNat = b at *
      have HB := Lib.hid hbb
      clear hbb
      go_wp2
      go_loop [3, 5] (fun c i => ∃ j : Nat, j ≤ 8 ∧ i = .int .i64 j ∧ c = .int .i64 (Ck.run r (Ck.bitsOf j b) : Nat)) (fun _ i => 8 - (intOf i).toNat)
      case atStart => exact ⟨0, by omega, rfl, rfl⟩
      case round =>
        obtain ⟨j, hj, rfl, rfl⟩ := hrel
        have hc := Ck.run_lt (Ck.bitsOf j b) r hr
        by_cases hj8 : j < 8
        · have HN := Lib.hid (Ck.run_bit r j b)
          have hbb := HB.out
          generalize Ck.run r (Ck.bitsOf j b) = c at *
          have q0 : ((b : Int) / 2 ^ j) = ((b / 2 ^ j : Nat) : Int) := by simp
          have l0 : b / 2 ^ j < 256 := Nat.lt_of_le_of_lt (Nat.div_le_self _ _) hb
          generalize b / 2 ^ j = v at *
          have q5 := xor_poly hc
          by_cases ho : (c + v) % 2 = 1
          · have HO := Lib.hid (Ck.step_odd ho)
            have q2 : (((c : Int) + (v : Int)) % 2 == 1) = true := by rw [beq_iff_eq]; omega
            clear ho
            generalize c / 2 ^^^ Ck.poly = c2 at *
            go_wp2
            go_round
            case rel => exact ⟨j + 1, by omega, by go_num, by rw [HN.out, HO.out]⟩
            case measure => simp [intOf]; omega
          · have HO := Lib.hid (Ck.step_even ho)
            have q2 : (((c : Int) + (v : Int)) % 2 == 1) = false := by rw [beq_eq_false_iff_ne]; omega
            clear ho
            go_wp2
            go_round
            case rel => exact ⟨j + 1, by omega, by go_num, by rw [HN.out, HO.out]; go_num⟩
            case measure => simp [intOf]; omega
        · obtain rfl : j = 8 := by omega
          go_wp2
          go_round
          case rel => exact ⟨k + 1, by omega, by go_num, by rw [HS.out, HR.out]⟩
          case measure => simp [intOf]; omega
    · have htk : s.data.toList.take k = s.data.toList := List.take_of_length_le (by simp; omega)
      rw [htk] at hr ⊢
      clear htk
      have hE : Hid (((4294967295 - Ck.reg s.data.toList : Nat) : Int) = 4294967295 - (Ck.reg s.data.toList : Int)) := by
        show _ = _
        omega
      go_wp2
      go_ret
      exact ⟨by unfold sumN Ck.sum; rw [hE.out]; rfl, rfl⟩
end Go.Proofs.YthllpiohdkcecaaDoor
