/-
  Contracts of package pack's functions and of the document's answers for them: what each call returns, and that it leaves all memory that was there as it was.
-/
import Derived.Test.YtcgmagoieanloaaRows
import Derived.Test.YtcgmagoieanloaaPackPlain
import Derived.WalkKit
import Derived.WalkSpells
import Derived.WalkLawsBesides
import Derived.Lib.Hide
import Derived.Deep.QuietTactic
import Derived.BigQuiet
import Derived.Laws.BytesArg
import Derived.Outline
import Derived.IntWalk
namespace Go.Proofs.Ytcgmagoieanloaa
open Go.RowKit

theorem bytes_at (s : ByteArray) (k : Nat) (h : k < s.size) : s.data.toList[k]'(by simpa using h) = s[k] := rfl
theorem bytes_len (s : ByteArray) : s.data.toList.length = s.size := by simp

/-- The place of the first byte below 128 in s. -/
def stopS (s : ByteArray) : Nat := Pk.stop s.data.toList

theorem stopS_le (s : ByteArray) : stopS s ≤ s.size := by have := Pk.stop_le s.data.toList; rw [bytes_len] at this; exact this
theorem stopS_big (s : ByteArray) (k : Nat) (h : k < s.size) (hk : k < stopS s) : 128 ≤ (s[k].toNat : Int) := by
  have := Pk.stop_big s.data.toList k (by simpa using h) hk
  rw [bytes_at s k h] at this; omega
theorem stopS_small (s : ByteArray) (h : stopS s < s.size) : (s[stopS s].toNat : Int) < 128 := by
  have h' : Pk.stop s.data.toList < s.data.toList.length := by rw [bytes_len]; exact h
  have := Pk.stop_small s.data.toList h'
  have e : (s.data.toList[Pk.stop s.data.toList]'h') = s[stopS s] := rfl
  rw [e] at this; omega

/-! ### pack.lastDigit -/
set_option maxRecDepth 100000 in
set_option maxHeartbeats 400000 in
theorem lastDigit_none (s : ByteArray) (w : World) (hs : s.size ≤ 9223372036854775807) (hn : ¬ stopS s < s.size) :
    Calls Try.prog 26 #[.string s] w fun e w' => e = .returned (.int .i64 (-1)) ∧ w = w' := by
  go_enter Try.func26, Try.ntmps26
  go_wp2
  go_loop [3, 6] (fun _ i => ∃ k : Nat, k ≤ s.size ∧ i = .int .i64 k) (fun _ i => s.size - (intOf i).toNat)
  case atStart => exact ⟨0, Nat.zero_le _, rfl⟩
  case round =>
    obtain ⟨k, hk, rfl⟩ := hrel
    by_cases hlt : k < s.size
    · have HB := Lib.hid (stopS_big s k hlt (by omega))
      go_wp2
      · exact absurd HB.out (by omega)
      go_round
      case rel => exact ⟨k + 1, by omega, by go_num⟩
      case measure => simp [intOf]; omega
    · go_wp2
      go_ret
      exact ⟨rfl, rfl⟩

set_option maxRecDepth 100000 in
set_option maxHeartbeats 400000 in
theorem lastDigit_at (s : ByteArray) (w : World) (hs : s.size ≤ 9223372036854775807) (hn : stopS s < s.size) :
    Calls Try.prog 26 #[.string s] w fun e w' => e = .returned (.int .i64 (stopS s)) ∧ w = w' := by
  have HS := Lib.hid (stopS_small s hn)
  go_enter Try.func26, Try.ntmps26
  go_wp2
  go_loop [3, 6] (fun _ i => ∃ k : Nat, k ≤ stopS s ∧ i = .int .i64 k) (fun _ i => s.size - (intOf i).toNat)
  case atStart => exact ⟨0, Nat.zero_le _, rfl⟩
  case round =>
    obtain ⟨k, hk, rfl⟩ := hrel
    by_cases hlt : k < stopS s
    · have HB := Lib.hid (stopS_big s k (by omega) hlt)
      go_wp2
      · exact absurd HB.out (by omega)
      go_round
      case rel => exact ⟨k + 1, by omega, by go_num⟩
      case measure => simp [intOf]; omega
    · obtain rfl : k = stopS s := by omega
      go_wp2
      · go_ret
        exact ⟨rfl, rfl⟩
      · exact absurd HS.out (by omega)

/-! ### pack.number -/
theorem val_drop (s : ByteArray) (k : Nat) (h : k < s.size) : Pk.val (s.data.toList.drop k) = s[k].toNat % 128 + 128 * Pk.val (s.data.toList.drop (k + 1)) := by
  rw [List.drop_eq_getElem_cons (by simpa using h)]; rfl

theorem val_end (s : ByteArray) : Pk.val (s.data.toList.drop s.size) = 0 := by
  rw [List.drop_of_length_le (by simp)]; rfl

set_option maxRecDepth 100000 in
set_option maxHeartbeats 400000 in
theorem number_any (s : ByteArray) (w : World) (hs : s.size ≤ 9) :
    Calls Try.prog 27 #[.string s] w fun e w' => e = .returned (.int .i64 (Pk.val s.data.toList)) ∧ w = w' := by
  go_enter Try.func27, Try.ntmps27
  go_wp2
  go_loop [3, 4] (fun n i => ∃ k : Nat, k ≤ s.size ∧ i = .int .i64 ((k : Int) - 1) ∧ n = .int .i64 (Pk.val (s.data.toList.drop k))) (fun _ i => (intOf i + 1).toNat)
  case atStart => exact ⟨s.size, Nat.le_refl _, rfl, by rw [val_end]; rfl⟩
  case round =>
    obtain ⟨k, hk, rfl, rfl⟩ := hrel
    cases k with
    | zero =>
      go_wp2
      go_ret
      exact ⟨by simp, rfl⟩
    | succ j =>
      have hd := val_drop s j (by omega)
      have hv := Pk.val_lt63 (l := s.data.toList.drop j) (by simp; omega)
      have HD := Lib.hid hd
      have hlt : 128 * Pk.val (s.data.toList.drop (j + 1)) < 9223372036854775808 := by omega
      have hle : (Pk.val (s.data.toList.drop (j + 1)) : Int) * 128 ≤ 9223372036854775807 := by omega
      clear hd hv
      go_wp2
      go_round
      case rel => exact ⟨j, by omega, rfl, by rw [HD.out]; go_num⟩
      case measure => simp [intOf]

/-! ### pack.appendNumber -/
/-- Bytes as cells. -/
def bytesV (l : List UInt8) : List Value := l.map fun b => .int .u8 (b.toNat : Int)
theorem bytesV_snoc (l : List UInt8) (n : Nat) (h : n < 256) : bytesV l ++ [.int .u8 (n : Int)] = bytesV (l ++ [UInt8.ofNat n]) := by
  simp [bytesV, Pk.ofNat_toNat h]
theorem bytesV_len (l : List UInt8) : (bytesV l).length = l.length := by simp [bytesV]

theorem info_byte : (Try.prog.info? 5).map (fun i => (i.zero, i.size, i.bytes)) = some (some (.int .u8 0), 1, 1) := by kernel_rfl

/-- A slice value that owns bytes. -/
def Owns (w : World) (base : Nat) (v : Value) (l : List UInt8) : Prop := w.ownsRow base 5 1 v l.length (bytesV l)

set_option maxRecDepth 100000 in
set_option maxHeartbeats 400000 in
theorem appendNumber_any (B : Nat) (v0 : Value) (xs : List UInt8) (n : Nat) (w : World) (hB : B ≤ w.heap.size) (hn : n < 9223372036854775808) (hx : xs.length ≤ 70000000000000) (hown : Owns w B v0 xs) :
    Calls Try.prog 28 #[v0, .int .i64 n] w fun e w' => ∃ v, e = .returned v ∧ Owns w' B v (xs ++ Pk.enc n) ∧ Below B w w' := by
  obtain ⟨i0, hi, hz0, hz1, hz2⟩ := info_parts info_byte
  have hl9 := Pk.enc_len9 hn
  obtain ⟨T, hT⟩ : ∃ T, T = xs ++ Pk.enc n := ⟨_, rfl⟩
  rw [← hT]
  have hTl : T.length ≤ 70000000000009 := by rw [hT]; simp; omega
  have HT := Lib.hid hT
  clear hT hl9
  go_enter Try.func28, Try.ntmps28
  go_wp2
  go_loopw [0, 1] (fun v i wr => ∃ (m : Nat) (l : List UInt8), i = .int .i64 m ∧ m < 9223372036854775808 ∧ Hid (l ++ Pk.enc m = T) ∧ Owns wr B v l ∧ Below B w wr) (fun _ i _ => (intOf i).toNat)
  case atStart => exact ⟨n, xs, rfl, hn, HT.out.symm, hown, Below.refl _ _⟩
  case round =>
    obtain ⟨m, l, rfl, hm, hl, ho, hb⟩ := hrel
    have ho' : wr.ownsRow B 5 1 u0 l.length (bytesV l) := ho
    have hll : l.length + 1 ≤ 70000000000009 := by
      have := hl.out
      have := Pk.enc_pos m
      have : (l ++ Pk.enc m).length = T.length := by rw [hl.out]
      simp at this; omega
    have hsz := hb.size
    by_cases hm8 : m < 128
    · go_wp2_with (at_builtin; refine wpList_append_own _ rfl (.tmp 16) (.tmp 19) 51 rfl B 5 i0 (.int .u8 0) 1 1 Try.underlying51 hi hz0 hz1 hz2 rfl (by decide) _ _ _ rfl (ho'.alloc _) ⟨wr.heap.size, 0, none⟩ 1 1 [.int .u8 (m : Int)] rfl rfl (cell_one_new _ _ _) (ints_oneCell .u8 [(m : Int)]) (by unfold maxLen; omega) (by omega) (by simp; omega) ?_; intro v' w1 hown1 hgrow1 _)
      have hb1 := (hb.alloc (by omega) _).grown hgrow1 (by simp; omega) (fun k hk => (ho'.lt k hk).1)
      have ho1 := hown1
      rw [bytesV_snoc l m (by omega)] at ho1
      have hT2 := hl.out
      rw [Pk.enc_small hm8] at hT2
      go_ret
      refine ⟨v', rfl, ?_, hb1⟩
      rw [← hT2]
      simpa [Owns] using ho1
    · have hgt : ¬ m < 128 := hm8
      go_wp2_with (at_builtin; refine wpList_append_own _ rfl (.tmp 7) (.tmp 12) 51 rfl B 5 i0 (.int .u8 0) 1 1 Try.underlying51 hi hz0 hz1 hz2 rfl (by decide) _ _ _ rfl (ho'.alloc _) ⟨wr.heap.size, 0, none⟩ 1 1 [.int .u8 ((m : Int) % 128 + 128)] rfl rfl (cell_one_new _ _ _) (ints_oneCell .u8 [((m : Int) % 128 + 128)]) (by unfold maxLen; omega) (by omega) (by simp; omega) ?_; intro v' w1 hown1 hgrow1 _)
      have hb1 := (hb.alloc (by omega) _).grown hgrow1 (by simp; omega) (fun k hk => (ho'.lt k hk).1)
      have ho1 := hown1
      have e1 : ((m : Int) % 128 + 128) = ((m % 128 + 128 : Nat) : Int) := by omega
      rw [e1, bytesV_snoc l (m % 128 + 128) (by omega)] at ho1
      have hT2 := hl.out
      rw [Pk.enc_big hm8] at hT2
      have HT2 : Hid (l ++ [UInt8.ofNat (m % 128 + 128)] ++ Pk.enc (m / 128) = T) := by
        show _ = _
        rw [← hT2]; simp
      have HO1 : Owns w1 B v' (l ++ [UInt8.ofNat (m % 128 + 128)]) := by simpa [Owns] using ho1
      clear ho1 hown1 hgrow1 hT2 e1
      go_wp2
      go_roundw
      case rel => exact ⟨m / 128, _, by go_num, by omega, HT2, HO1, hb1⟩
      case measure => simp [intOf]; omega

/-! ### Strings -/
/-- A list of bytes as a string. -/
def S (l : List UInt8) : ByteArray := ⟨l.toArray⟩
theorem S_list (l : List UInt8) : (S l).data.toList = l := rfl
theorem S_size (l : List UInt8) : (S l).size = l.length := by simp [S, ByteArray.size]
theorem S_append (a b : List UInt8) : S a ++ S b = S (a ++ b) := ByteArray.mk_append_mk a b
theorem S_of (s : ByteArray) : S s.data.toList = s := rfl
theorem S_nil : S [] = { data := #[] } := rfl

theorem convert_owns {B : Nat} {v : Value} {l : List UInt8} {w : World} (ho : Owns w B v l) : (convert 51 9 v).run Try.prog w = .ok (.string (S l)) w := by
  have ho' : w.ownsRow B 5 1 v l.length (bytesV l) := ho
  rcases ho'.2 with ⟨rfl, h0⟩ | ⟨g, cap, cur, rfl, _⟩
  · have e : l = [] := List.length_eq_zero_iff.1 h0
    subst e
    exact run_convert_bytes_nil (P := Try.prog) w 51 5 Try.underlying51 Try.underlying5 0 0 9 Try.underlying9
  · refine run_convert_bytes_back (P := Try.prog) w 51 9 5 ⟨g, 0, none⟩ cap l Try.underlying51 Try.underlying5 Try.underlying9 (fun j hj => ?_)
    rw [Addr.add_lit, Nat.zero_add, ho'.cellAt j (by omega)]
    simp [bytesV, hj]

/-! ### pack.Numbers -/
def encs (zs : List Int) : List UInt8 := zs.flatMap fun z => Pk.enc z.toNat
theorem encs_snoc (zs : List Int) (k : Nat) (h : k < zs.length) : encs (zs.take (k + 1)) = encs (zs.take k) ++ Pk.enc (zs.getD k 0).toNat := by
  have e : zs.take (k + 1) = zs.take k ++ [zs.getD k 0] := by
    rw [List.take_succ_eq_append_getElem h]; simp [List.getD, h]
  rw [e]; simp [encs]

def NumsPost (zs : List Int) (e : Ending) : Prop :=
  (∀ i, i < zs.length → 0 ≤ zs.getD i 0) ∧ e = .returned (.tuple #[.string (S (encs zs)), .int .i64 0]) ∨
  (∃ i, i < zs.length ∧ zs.getD i 0 < 0) ∧ e = .returned (.tuple #[.string { data := #[] }, .int .i64 1])

set_option maxRecDepth 100000 in
set_option maxHeartbeats 400000 in
theorem Numbers_row (b off len cap : Nat) (zs : List Int) (w : World) (hlen : zs.length = len) (h100 : len ≤ 100) (hb : b < w.heap.size)
    (hcell : ∀ i, i < len → w.cell? ⟨b, off + i, none⟩ = some (.int .i64 (zs.getD i 0))) (hr : ∀ i, i < len → zs.getD i 0 < 9223372036854775808) :
    Calls Try.prog 24 #[.slice (some ⟨b, off, none⟩) len cap] w fun e w' => NumsPost zs e ∧ Below w.heap.size w w' := by
  obtain ⟨i0, hi, hz0, hz1, hz2⟩ := info_parts info_byte
  have HC := Lib.hid hcell
  have HR := Lib.hid hr
  have HL := Lib.hid hlen
  clear hcell hr hlen
  go_enter Try.func24, Try.ntmps24
  go_wp2_with (at_make; refine wpList_make_own _ rfl _ _ 51 rfl w.heap.size 5 i0 (.int .u8 0) 1 Try.underlying51 hi hz0 hz1 _ _ _ len rfl rfl rfl (by rw [hz2]; omega) (by unfold maxLen; omega) (Nat.le_refl _) ?_; intro w1 hown1 hgrow1)
  go_loopw [4, 6, 12] (fun v _ i wr => ∃ k : Nat, k ≤ len ∧ i = .int .i64 k ∧ Hid (∀ i, i < k → 0 ≤ zs.getD i 0) ∧ Hid ((encs (zs.take k)).length ≤ 9 * k) ∧ Owns wr w.heap.size v (encs (zs.take k)) ∧ Below w.heap.size w wr) (fun _ _ i _ => len - (intOf i).toNat)
  case atStart => exact ⟨0, Nat.zero_le _, rfl, fun i hi => absurd hi (Nat.not_lt_zero _), by simp [Hid, encs], by simpa [Owns, encs, bytesV] using hown1, (Below.refl _ _).grown hgrow1 (Nat.le_refl _) (fun k hk => by cases hk)⟩
  case round =>
    obtain ⟨k, hk, rfl, hnn, hlk, ho, hbel⟩ := hrel
    have hlk' := hlk.out
    by_cases hlt : k < len
    · have hcx : wr.cell? ⟨b, off + k, none⟩ = some (.int .i64 (zs.getD k 0)) := (hbel.cell (p := ⟨b, off + k, none⟩) hb).trans (HC.out k hlt)
      have hrk := HR.out k hlt
      have hsnoc := Lib.hid (encs_snoc zs k (by have := HL.out; omega))
      obtain ⟨z, hz⟩ : ∃ z, z = zs.getD k 0 := ⟨_, rfl⟩
      rw [← hz] at hcx hrk
      have HZ := Lib.hid hz
      clear hz
      by_cases hneg : z < 0
      · go_wp2_with fail
        go_ret2
        have := HL.out
        exact ⟨Or.inr ⟨⟨k, by omega, by rw [← HZ.out]; exact hneg⟩, rfl⟩, hbel⟩
      · obtain ⟨m, rfl⟩ := Int.eq_ofNat_of_zero_le (show 0 ≤ z by omega)
        have hm9 : (Pk.enc m).length ≤ 9 := Pk.enc_len9 (by omega)
        go_wp2_with fail
        refine (appendNumber_any w.heap.size u4 (encs (zs.take k)) m wr hbel.size (by omega) (by omega) ho).mono ?_
        rintro e w2 ⟨v2, rfl, ho2, hb2⟩
        have HO : Owns w2 w.heap.size v2 (encs (zs.take (k + 1))) := by
          rw [hsnoc.out, ← HZ.out]; exact ho2
        have HLk : Hid ((encs (zs.take (k + 1))).length ≤ 9 * (k + 1)) := by
          show _ ≤ _
          rw [hsnoc.out, ← HZ.out]; simp; omega
        have HNN : Hid (∀ i, i < k + 1 → 0 ≤ zs.getD i 0) := by
          intro i hi
          by_cases hik : i < k
          · exact hnn.out i hik
          · obtain rfl : i = k := by omega
            rw [← HZ.out]; omega
        have HB : Below w.heap.size w w2 := hbel.trans hb2
        clear ho2 hb2 ho hcx hm9 hlk'
        go_wp2_with fail
        go_roundw
        case rel => exact ⟨k + 1, by omega, by go_num, HNN, HLk, HO, HB⟩
        case measure => simp [intOf]; omega
    · have hcv := convert_owns ho
      go_wp2_with fail
      go_ret2
      obtain rfl : k = len := by omega
      have hle := HL.out
      rw [List.take_of_length_le (by omega)]
      exact ⟨Or.inl ⟨fun i hi => hnn.out i (by omega), rfl⟩, hbel⟩

set_option maxRecDepth 100000 in
set_option maxHeartbeats 400000 in
theorem Numbers_empty (ao : Option Addr) (cap : Nat) (w : World) :
    Calls Try.prog 24 #[.slice ao 0 cap] w fun e w' => e = .returned (.tuple #[.string { data := #[] }, .int .i64 0]) ∧ Below w.heap.size w w' := by
  obtain ⟨i0, hi, hz0, hz1, hz2⟩ := info_parts info_byte
  go_enter Try.func24, Try.ntmps24
  go_wp2_with (at_make; refine wpList_make_own _ rfl _ _ 51 rfl w.heap.size 5 i0 (.int .u8 0) 1 Try.underlying51 hi hz0 hz1 _ _ _ 0 rfl rfl rfl (by rw [hz2]; omega) (by unfold maxLen; omega) (Nat.le_refl _) ?_; intro w1 hown1 hgrow1)
  have hcv := convert_owns (B := w.heap.size) (l := []) (w := w1) (v := .slice (some ⟨w.heap.size, 0, none⟩) 0 0) (by simpa [Owns, bytesV] using hown1)
  refine wp_loop_rounds 1 ?_
  rw [rounds_succ]
  go_wp2_with fail
  go_ret2
  exact ⟨rfl, (Below.refl _ _).grown hgrow1 (Nat.le_refl _) (fun k hk => by cases hk)⟩

/-! ### pack.Put -/
theorem one_yes {n : Int} {e : Ending} (h : NumsPost [n] e) (h0 : 0 ≤ n) : e = .returned (.tuple #[.string (S (Pk.enc n.toNat)), .int .i64 0]) := by
  rcases h with ⟨_, he⟩ | ⟨⟨i, hi, hn⟩, _⟩
  · rw [he]; simp [encs]
  · obtain rfl : i = 0 := by simp at hi; omega
    simp at hn; omega
theorem one_no {n : Int} {e : Ending} (h : NumsPost [n] e) (h0 : n < 0) : e = .returned (.tuple #[.string { data := #[] }, .int .i64 1]) := by
  rcases h with ⟨hn, _⟩ | ⟨_, he⟩
  · have := hn 0 (by simp)
    simp at this; omega
  · exact he

theorem one_lt {n : Int} (h : n < 9223372036854775808) : ∀ i, i < 1 → [n].getD i 0 < 9223372036854775808 := by
  intro i hi
  have h0 : i = 0 := by omega
  subst h0
  simpa using h

theorem cell_one (w : World) (n : Int) : ∀ i, i < 1 → (w.alloc (.cells #[.int .i64 n] 3)).cell? ⟨w.heap.size, 0 + i, none⟩ = some (.int .i64 ([n].getD i 0)) := by
  intro i hi
  obtain rfl : i = 0 := by omega
  simp

set_option maxRecDepth 100000 in
set_option maxHeartbeats 400000 in
theorem Put_any (n : Int) (w : World) (h0 : 0 ≤ n) (h63 : n < 9223372036854775808) :
    Calls Try.prog 11 #[.int .i64 n] w fun e w' => e = .returned (.tuple #[.string (S (Pk.enc n.toNat)), .int .i64 0]) ∧ Below w.heap.size w w' := by
  go_enter Try.func11, Try.ntmps11
  go_wp2_with fail
  refine (Numbers_row w.heap.size 0 1 1 [n] _ rfl (by omega) (by simp) (cell_one w n) (one_lt h63)).mono ?_
  rintro e w1 ⟨he, hb⟩
  obtain rfl := one_yes he h0
  have hb' : Below w.heap.size w w1 := ((Below.refl _ _).alloc (Nat.le_refl _) _).trans (hb.mono (by simp))
  clear hb he
  go_wp2_with fail
  go_ret2
  exact ⟨rfl, hb'⟩

set_option maxRecDepth 100000 in
set_option maxHeartbeats 400000 in
theorem Put_neg (n : Int) (w : World) (h0 : n < 0) :
    Calls Try.prog 11 #[.int .i64 n] w fun e w' => e = .returned (.tuple #[.string { data := #[] }, .int .i64 1]) ∧ Below w.heap.size w w' := by
  go_enter Try.func11, Try.ntmps11
  go_wp2_with fail
  refine (Numbers_row w.heap.size 0 1 1 [n] _ rfl (by omega) (by simp) (cell_one w n) (one_lt (by omega))).mono ?_
  rintro e w1 ⟨he, hb⟩
  obtain rfl := one_no he h0
  have hb' : Below w.heap.size w w1 := ((Below.refl _ _).alloc (Nat.le_refl _) _).trans (hb.mono (by simp))
  clear hb he
  go_wp2_with fail
  go_ret2
  exact ⟨rfl, hb'⟩

end Go.Proofs.Ytcgmagoieanloaa
