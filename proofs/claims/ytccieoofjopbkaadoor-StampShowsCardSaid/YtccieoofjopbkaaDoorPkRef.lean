/-
  Contracts of the document's answers for package pack (digits, Put, Take), and of pack.Take.
-/
import Derived.Test.YtccieoofjopbkaaDoorPkWalks
namespace Go.Proofs.YtccieoofjopbkaaDoor
open Go.RowKit

/-! ### The document's digits -/
def dg (l : List UInt8) : List Nat := l.map fun b => b.toNat % 128
def rest (m : Nat) : List Nat := if m = 0 then [] else dg (Pk.enc m)
theorem rest_zero : rest 0 = [] := rfl
theorem dg_enc (n : Nat) : dg (Pk.enc n) = n % 128 :: rest (n / 128) := by
  by_cases h : n < 128
  · have e : n / 128 = 0 := by omega
    rw [Pk.enc_small h, e, rest_zero]; simp [dg]
  · have e : ¬ n / 128 = 0 := by omega
    rw [Pk.enc_big h, rest, if_neg e]; simp [dg]
theorem rest_pos {m : Nat} (h : 0 < m) : rest m = m % 128 :: rest (m / 128) := by
  rw [rest, if_neg (by omega), dg_enc]

def intsV (l : List Nat) : List Value := l.map fun (d : Nat) => .int .i64 (d : Int)
theorem intsV_snoc (l : List Nat) (n : Nat) : intsV l ++ [.int .i64 (n : Int)] = intsV (l ++ [n]) := by simp [intsV]
theorem intsV_len (l : List Nat) : (intsV l).length = l.length := by simp [intsV]
theorem info_int : (Tryd.prog.info? 3).map (fun i => (i.zero, i.size, i.bytes)) = some (some (.int .i64 0), 1, 8) := by kernel_rfl
/-- A slice value that owns numbers. -/
def OwnsI (w : World) (base : Nat) (v : Value) (l : List Nat) : Prop := w.ownsRow base 3 1 v l.length (intsV l)

theorem ownsI_lit (w : World) (B : Nat) (h : B ≤ w.heap.size) (n : Nat) : OwnsI (w.alloc (.cells #[.int .i64 (n : Int)] 3)) B (.slice (some ⟨w.heap.size, 0, none⟩) 1 1) [n] := by
  have := World.ownsRow_lit (base := B) (e := 3) (size := 1) w #[.int .i64 (n : Int)] 1 h (by unfold maxLen; omega) (by simp)
  simpa [OwnsI, intsV] using this

set_option maxRecDepth 100000 in
set_option maxHeartbeats 400000 in
theorem digits_any (n : Nat) (w : World) (hn : n < 9223372036854775808) :
    Calls Tryd.prog 42 #[.int .i64 n] w fun e w' => ∃ v, e = .returned v ∧ OwnsI w' w.heap.size v (dg (Pk.enc n)) ∧ Below w.heap.size w w' := by
  obtain ⟨i0, hi, hz0, hz1, hz2⟩ := info_parts info_int
  have hl9 := Pk.enc_len9 hn
  obtain ⟨T, hT⟩ : ∃ T, T = dg (Pk.enc n) := ⟨_, rfl⟩
  rw [← hT]
  have hTl : T.length ≤ 9 := by rw [hT]; simp [dg]; omega
  have HT := Lib.hid (hT.trans (dg_enc n))
  clear hT hl9
  have hl0 := ownsI_lit w w.heap.size (Nat.le_refl _) (n % 128)
  have e0 : ((n % 128 : Nat) : Int) = (n : Int) % 128 := by omega
  rw [e0] at hl0
  have HL0 := Lib.hid hl0
  clear hl0 e0
  go_enter Tryd.func42, Tryd.ntmps42
  go_wp2
  go_loopw [0, 3] (fun i v wr => ∃ (m : Nat) (l : List Nat), i = .int .i64 m ∧ m < 9223372036854775808 ∧ Hid (l ++ rest m = T) ∧ OwnsI wr w.heap.size v l ∧ Below w.heap.size w wr) (fun i _ _ => (intOf i).toNat)
  case atStart => exact ⟨n / 128, [n % 128], by go_num, by omega, HT.out.symm, HL0.out, (Below.refl _ _).alloc (Nat.le_refl _) _⟩
  case round =>
    obtain ⟨m, l, rfl, hm, hl, ho, hb⟩ := hrel
    have hsz := hb.size
    by_cases hm0 : 0 < m
    · have hll : l.length + 1 ≤ 9 := by
        have h1 := hl.out
        rw [rest_pos hm0] at h1
        have : (l ++ m % 128 :: rest (m / 128)).length = T.length := by rw [h1]
        simp at this; omega
      have ho' : wr.ownsRow w.heap.size 3 1 u3 l.length (intsV l) := ho
      go_wp2_with (at_builtin; refine wpList_append_own _ rfl (.tmp 11) (.tmp 14) 57 rfl w.heap.size 3 i0 (.int .i64 0) 1 8 Tryd.underlying57 hi hz0 hz1 hz2 rfl (by decide) _ _ _ rfl (ho'.alloc _) ⟨wr.heap.size, 0, none⟩ 1 1 [.int .i64 ((m : Int) % 128)] rfl rfl (cell_one_new _ _ _) (ints_oneCell .i64 [((m : Int) % 128)]) (by unfold maxLen; omega) (by omega) (by simp; omega) ?_; intro v' w1 hown1 hgrow1 _)
      have hb1 := (hb.alloc (by omega) _).grown hgrow1 (by simp; omega) (fun k hk => (ho'.lt k hk).1)
      have ho1 := hown1
      have e1 : ((m : Int) % 128) = ((m % 128 : Nat) : Int) := by omega
      rw [e1, intsV_snoc l (m % 128)] at ho1
      have HT2 : Hid (l ++ [m % 128] ++ rest (m / 128) = T) := by
        show _ = _
        rw [← hl.out, rest_pos hm0]; simp
      have HO1 : OwnsI w1 w.heap.size v' (l ++ [m % 128]) := by simpa [OwnsI] using ho1
      clear ho1 hown1 hgrow1 e1 ho'
      go_wp2
      go_roundw
      case rel => exact ⟨m / 128, _, by go_num, by omega, HT2, HO1, hb1⟩
      case measure => simp [intOf]; omega
    · have h0 : m = 0 := by omega
      subst h0
      go_wp2
      go_ret
      have h1 := hl.out
      rw [rest_zero, List.append_nil] at h1
      exact ⟨u3, rfl, h1 ▸ ho, hb⟩

/-! ### The document's Put -/
theorem dg_len (l : List UInt8) : (dg l).length = l.length := by simp [dg]
theorem dg_at (n i : Nat) (h : i < (Pk.enc n).length) : (dg (Pk.enc n)).getD i 0 = ((Pk.enc n)[i]).toNat % 128 := by
  simp [dg, List.getD, h]
theorem enc_high (n i : Nat) (h : i + 1 < (Pk.enc n).length) : ((Pk.enc n)[i]'(by omega)).toNat % 128 + 128 = ((Pk.enc n)[i]'(by omega)).toNat := by
  have hs : Pk.stop (Pk.enc n) + 1 = (Pk.enc n).length := by simpa using Pk.stop_enc n []
  have := Pk.stop_big (Pk.enc n) i (by omega) (by omega)
  have h2 := ((Pk.enc n)[i]'(by omega)).toNat_lt
  omega
theorem enc_low (n i : Nat) (h : i + 1 = (Pk.enc n).length) : ((Pk.enc n)[i]'(by omega)).toNat % 128 = ((Pk.enc n)[i]'(by omega)).toNat := by
  have hs : Pk.stop (Pk.enc n) + 1 = (Pk.enc n).length := by simpa using Pk.stop_enc n []
  have hi : i = Pk.stop (Pk.enc n) := by omega
  have := Pk.stop_small (Pk.enc n) (by omega)
  subst hi
  omega

theorem add_S (a b : List UInt8) (h : a.length + b.length ≤ 9223372036854775807) (w : World) : (Op.stringOp .add (S a) (S b)).run Tryd.prog w = .ok (.string (S (a ++ b))) w := by
  rw [run_string_add_sum w _ _ (by rw [S_size, S_size]; exact h), S_append]

theorem convert_one (w : World) (b : UInt8) : (convert 60 9 (.slice (some ⟨w.heap.size, 0, none⟩) 1 1)).run Tryd.prog (w.alloc (.cells #[.int .u8 (b.toNat : Int)] 5)) = .ok (.string (S [b])) (w.alloc (.cells #[.int .u8 (b.toNat : Int)] 5)) := by
  refine run_convert_bytes_back (P := Tryd.prog) _ 60 9 5 ⟨w.heap.size, 0, none⟩ 1 [b] Tryd.underlying60 Tryd.underlying5 Tryd.underlying9 (fun j hj => ?_)
  have h0 : j = 0 := by simp at hj; omega
  subst h0
  simp [Addr.add]

theorem ownsI_form {w : World} {B : Nat} {v : Value} {l : List Nat} (h : OwnsI w B v l) (hp : 0 < l.length) : ∃ g cap, v = .slice (some ⟨g, 0, none⟩) l.length cap := by
  have h' : w.ownsRow B 3 1 v l.length (intsV l) := h
  exact Joins.ownsRow_form h' hp

set_option maxRecDepth 100000 in
set_option maxHeartbeats 400000 in
theorem refPut_any (n : Nat) (w : World) (hn : n < 9223372036854775808) :
    Calls Tryd.prog 32 #[.int .i64 n] w fun e w' => e = .returned (.tuple #[.string (S (Pk.enc n)), .int .i64 0]) ∧ Below w.heap.size w w' := by
  have hp := Pk.enc_pos n
  have hl9 := Pk.enc_len9 hn
  go_enter Tryd.func32, Tryd.ntmps32
  go_wp2_with fail
  refine (digits_any n _ hn).mono ?_
  rintro e w1 ⟨v1, rfl, ho1, hb1⟩
  obtain ⟨g, cap, rfl⟩ := ownsI_form ho1 (by rw [dg_len]; exact hp)
  obtain ⟨len, hlen⟩ : ∃ len, len = (dg (Pk.enc n)).length := ⟨_, rfl⟩
  have hlen2 : (Pk.enc n).length = len := by rw [hlen, dg_len]
  have ho2 : w1.ownsRow w.heap.size 3 1 (.slice (some ⟨g, 0, none⟩) len cap) len (intsV (dg (Pk.enc n))) := by rw [hlen]; exact ho1
  rw [← hlen]
  rw [hlen2] at hp hl9
  have HL := Lib.hid hlen2
  clear hlen hlen2 ho1
  have HO := Lib.hid ho2
  have hgl : g < w1.heap.size := (ho2.lt g rfl).2
  clear ho2
  go_wp2_with fail
  go_loopw [5, 6, 7] (fun s i _ wr => ∃ k : Nat, k ≤ len ∧ i = .int .i64 k ∧ s = .string (S ((Pk.enc n).take k)) ∧ Hid (wr.ownsRow w.heap.size 3 1 (.slice (some ⟨g, 0, none⟩) len cap) len (intsV (dg (Pk.enc n)))) ∧ Below w.heap.size w wr) (fun _ i _ _ => len - (intOf i).toNat)
  case atStart => exact ⟨0, Nat.zero_le _, rfl, rfl, HO.out, hb1⟩
  case round =>
    obtain ⟨k, hk, rfl, rfl, hor, hb⟩ := hrel
    have hsz := hb.size
    by_cases hlt : k < len
    · have hkl : k < (Pk.enc n).length := by rw [HL.out]; exact hlt
      obtain ⟨b, hbd⟩ : ∃ b, b = (Pk.enc n)[k] := ⟨_, rfl⟩
      have hb256 := b.toNat_lt
      have hcx : wr.cell? ⟨g, k, none⟩ = some (.int .i64 ((b.toNat : Int) % 128)) := by
        rw [hor.out.cellAt k (by omega)]
        have : (dg (Pk.enc n))[k]? = some (b.toNat % 128) := by simp [dg, hkl, hbd]
        simp [intsV, this]
      have hcv := convert_one wr b
      have hadd := add_S ((Pk.enc n).take k) [b] (by simp; omega)
      have htk : (Pk.enc n).take (k + 1) = (Pk.enc n).take k ++ [b] := by
        rw [List.take_succ_eq_append_getElem hkl, hbd]
      by_cases hlast : k + 1 < len
      · have hv : b.toNat % 128 + 128 = b.toNat := by rw [hbd]; exact enc_high n k (by rw [HL.out]; exact hlast)
        have hge : 128 ≤ (b.toNat : Int) := by omega
        have ev : (b.toNat : Int) = (b.toNat : Int) % 128 + 128 := by omega
        rw [ev] at hcv
        have HT := Lib.hid htk
        clear htk hv ev hbd
        have hor2 := hor.out.alloc (.cells #[.int .u8 ((b.toNat : Int) % 128 + 128)] 5)
        have HO2 := Lib.hid hor2
        clear hor2
        have HB2 := hb.alloc (by omega) (.cells #[.int .u8 ((b.toNat : Int) % 128 + 128)] 5)
        go_wp2_with fail
        go_roundw
        case rel => exact ⟨k + 1, by omega, by go_num, by rw [HT.out], HO2.out, HB2⟩
        case measure => simp [intOf]; omega
      · have hv : b.toNat % 128 = b.toNat := by rw [hbd]; exact enc_low n k (by rw [HL.out]; omega)
        have ev : (b.toNat : Int) = (b.toNat : Int) % 128 := by omega
        rw [ev] at hcv
        have HT := Lib.hid htk
        clear htk hv ev hbd
        have hor2 := hor.out.alloc (.cells #[.int .u8 ((b.toNat : Int) % 128)] 5)
        have HO2 := Lib.hid hor2
        clear hor2
        have HB2 := hb.alloc (by omega) (.cells #[.int .u8 ((b.toNat : Int) % 128)] 5)
        go_wp2_with fail
        go_roundw
        case rel => exact ⟨k + 1, by omega, by go_num, by rw [HT.out], HO2.out, HB2⟩
        case measure => simp [intOf]; omega
    · go_wp2_with fail
      go_ret2
      have h1 := HL.out
      rw [List.take_of_length_le (by omega)]
      exact ⟨rfl, hb⟩

set_option maxRecDepth 100000 in
set_option maxHeartbeats 400000 in
theorem refPut_neg (n : Int) (w : World) (hn : n < 0) :
    Calls Tryd.prog 32 #[.int .i64 n] w fun e w' => e = .returned (.tuple #[.string { data := #[] }, .int .i64 1]) ∧ Below w.heap.size w w' := by
  go_enter Tryd.func32, Tryd.ntmps32
  go_wp2_with fail
  go_ret2
  exact ⟨rfl, Below.refl _ _⟩

/-! ### Taking -/
/-- What is taken of a string. -/
def tk (s : ByteArray) : Nat × List UInt8 × Nat := Pk.take s.data.toList

theorem tk_short {s : ByteArray} (h : ¬ stopS s < s.size) : tk s = (0, [], 2) := Pk.take_short (by have := stopS_le s; have e : Pk.stop s.data.toList = stopS s := rfl; rw [bytes_len, e]; omega)
theorem last_getD (s : ByteArray) (h : stopS s < s.size) : (s.data.toList.getD (Pk.stop s.data.toList) 0) = s[stopS s] := by
  rw [Pk.getD_at (by rw [bytes_len]; exact h)]; rfl
theorem tk_form {s : ByteArray} (h : stopS s < s.size) (h2 : 8 < stopS s ∨ (0 < stopS s ∧ (s[stopS s]).toNat = 0)) : tk s = (0, [], 3) :=
  Pk.take_form (by rw [bytes_len]; exact Nat.ne_of_lt h) (by rw [last_getD s h]; exact h2)
theorem tk_good {s : ByteArray} (h : stopS s < s.size) (h1 : ¬ 8 < stopS s) (h2 : ¬ (0 < stopS s ∧ (s[stopS s]).toNat = 0)) :
    tk s = (Pk.val (s.data.toList.take (stopS s + 1)), s.data.toList.drop (stopS s + 1), 0) :=
  Pk.take_good (by rw [bytes_len]; exact Nat.ne_of_lt h) (by rw [last_getD s h]; rintro (h' | h'); exact h1 h'; exact h2 h')

theorem number_same (s : ByteArray) (w : World) (hs : s.size ≤ 9) :
    Calls Tryd.prog 41 #[.string s] w fun e w' => e = .returned (.int .i64 (Pk.val s.data.toList)) ∧ w' = w :=
  (number_any s w hs).mono fun _ _ ⟨h, k⟩ => ⟨h, k.symm⟩

/-- What a call that takes a number answers. -/
def TakePost (s : ByteArray) (w : World) (e : Ending) (w' : World) : Prop :=
  e = .returned (.tuple #[.int .i64 ((tk s).1 : Int), .string (S (tk s).2.1), .int .i64 ((tk s).2.2 : Int)]) ∧ Below w.heap.size w w'

set_option maxRecDepth 100000 in
set_option maxHeartbeats 400000 in
theorem take_short_any (s : ByteArray) (w : World) (hs : s.size ≤ 9223372036854775807) (h : ¬ stopS s < s.size) :
    Calls Tryd.prog 30 #[.string s] w (TakePost s w) := by
  have HT := Lib.hid (tk_short h)
  go_enter Tryd.func30, Tryd.ntmps30
  go_wp2_with fail
  refine (lastDigit_none s _ hs h).mono ?_
  rintro e w1 ⟨rfl, rfl⟩
  go_wp2_with fail
  go_ret3
  exact ⟨by rw [HT.out]; rfl, Below.refl _ _⟩

set_option maxRecDepth 100000 in
set_option maxHeartbeats 400000 in
theorem take_long_any (s : ByteArray) (w : World) (hs : s.size ≤ 9223372036854775807) (h : stopS s < s.size) (h8 : 8 < stopS s) :
    Calls Tryd.prog 30 #[.string s] w (TakePost s w) := by
  have HT := Lib.hid (tk_form h (.inl h8))
  go_enter Tryd.func30, Tryd.ntmps30
  go_wp2_with fail
  refine (lastDigit_at s _ hs h).mono ?_
  rintro e w1 ⟨rfl, rfl⟩
  go_wp2_with fail
  go_ret3
  exact ⟨by rw [HT.out]; rfl, Below.refl _ _⟩

set_option maxRecDepth 100000 in
set_option maxHeartbeats 400000 in
theorem take_zero_any (s : ByteArray) (w : World) (hs : s.size ≤ 9223372036854775807) (h : stopS s < s.size) (h8 : ¬ 8 < stopS s) (h0 : 0 < stopS s) (hz : (s[stopS s]).toNat = 0) :
    Calls Tryd.prog 30 #[.string s] w (TakePost s w) := by
  have HT := Lib.hid (tk_form h (.inr ⟨h0, hz⟩))
  have hzi : ((s[stopS s].toNat : Int) == 0) = true := by rw [beq_iff_eq]; omega
  clear hz
  go_enter Tryd.func30, Tryd.ntmps30
  go_wp2_with fail
  refine (lastDigit_at s _ hs h).mono ?_
  rintro e w1 ⟨rfl, rfl⟩
  go_wp2_with fail
  go_ret3
  exact ⟨by rw [HT.out]; rfl, Below.refl _ _⟩

end Go.Proofs.YtccieoofjopbkaaDoor
