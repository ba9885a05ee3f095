/-
  The walk of PackNumbers: the call returns true, whatever slice it is handed, and writes nothing that was there.
-/
import Derived.Test.YtcgmagoieanloaaPackAwake
namespace Go.Proofs.Ytcgmagoieanloaa
open Go.RowKit

/-- What the walk is told of a slice of integers that came in: it is nil; or it leads to a row of 'cap' cells, the numbers 'zs', each fitting its kind; where there is a cell the row lies in a block that was there. -/
def IsRow (k : IntKind) (w : World) (a : Option Addr) (len cap : Nat) (zs : List Int) : Prop :=
  (a = none ∧ len = 0 ∧ cap = 0 ∧ zs = []) ∨
  ∃ x, a = some x ∧ len ≤ cap ∧ cap ≤ maxLen ∧ zs.length = cap ∧ (∀ i, i < zs.length → w.cell? (x.add i) = some (.int k (zs.getD i 0))) ∧ (∀ n ∈ zs, (Lit.int k n).wf = true) ∧
    (0 < cap → ∃ b off, x = ⟨b, off, none⟩ ∧ b < w.heap.size)

theorem wf_bounds {n : Int} (h : (Lit.int .i64 n).wf = true) : -9223372036854775808 ≤ n ∧ n ≤ 9223372036854775807 := by
  have x1 : IntKind.i64.min = -9223372036854775808 := rfl
  have x2 : IntKind.i64.max = 9223372036854775807 := rfl
  simp only [Lit.wf, Bool.and_eq_true, decide_eq_true_eq] at h
  omega

/-- The bytes that are wanted, a refused number giving none; whether one is refused. -/
def wantL (zs : List Int) : List UInt8 := zs.flatMap fun z => if z < 0 then [] else Pk.enc z.toNat
def badB (zs : List Int) : Bool := zs.any fun z => decide (z < 0)

theorem take_snoc (zs : List Int) (k : Nat) (h : k < zs.length) : zs.take (k + 1) = zs.take k ++ [zs.getD k 0] := by
  rw [List.take_succ_eq_append_getElem h]; simp [List.getD, h]
theorem want_neg (zs : List Int) (k : Nat) (h : k < zs.length) (hn : zs.getD k 0 < 0) : wantL (zs.take (k + 1)) = wantL (zs.take k) := by
  rw [take_snoc zs k h]; simp only [wantL, List.flatMap_append, List.flatMap_cons, List.flatMap_nil]; rw [if_pos hn]; simp
theorem want_pos (zs : List Int) (k : Nat) (h : k < zs.length) (hn : ¬ zs.getD k 0 < 0) : wantL (zs.take (k + 1)) = wantL (zs.take k) ++ Pk.enc (zs.getD k 0).toNat := by
  rw [take_snoc zs k h]; simp only [wantL, List.flatMap_append, List.flatMap_cons, List.flatMap_nil]; rw [if_neg hn]; simp
theorem bad_neg (zs : List Int) (k : Nat) (h : k < zs.length) (hn : zs.getD k 0 < 0) : badB (zs.take (k + 1)) = true := by
  rw [take_snoc zs k h]; generalize zs.getD k 0 = z at *; simp only [badB, List.any_append, List.any_cons, List.any_nil]; simp [hn]
theorem bad_pos (zs : List Int) (k : Nat) (h : k < zs.length) (hn : ¬ zs.getD k 0 < 0) : badB (zs.take (k + 1)) = badB (zs.take k) := by
  rw [take_snoc zs k h]; generalize zs.getD k 0 = z at *; simp only [badB, List.any_append, List.any_cons, List.any_nil]; simp [hn]

theorem nums_bad {zs : List Int} {e : Ending} (h : NumsPost zs e) (hb : badB zs = true) : e = .returned (.tuple #[.string { data := #[] }, .int .i64 1]) := by
  rcases h with ⟨hn, _⟩ | ⟨_, he⟩
  · simp only [badB, List.any_eq_true] at hb
    obtain ⟨z, hz, hd⟩ := hb
    obtain ⟨i, hi, he⟩ := List.getElem_of_mem hz
    have := hn i hi
    simp [List.getD, hi, he] at this
    simp at hd; omega
  · exact he
theorem encs_want : ∀ (zs : List Int), (∀ z ∈ zs, ¬ z < 0) → encs zs = wantL zs
  | [], _ => rfl
  | z :: r, h => by
    have ih := encs_want r (fun y hy => h y (List.mem_cons_of_mem _ hy))
    have hz := h z (List.mem_cons_self ..)
    unfold encs wantL at ih ⊢
    rw [List.flatMap_cons, List.flatMap_cons, if_neg hz, ih]
theorem nums_good {zs : List Int} {e : Ending} (h : NumsPost zs e) (hb : badB zs = false) : e = .returned (.tuple #[.string (S (wantL zs)), .int .i64 0]) := by
  rcases h with ⟨hn, he⟩ | ⟨⟨i, hi, hn⟩, _⟩
  · rw [he]
    have : encs zs = wantL zs := encs_want zs (fun z hz => by
      obtain ⟨i, hi, he⟩ := List.getElem_of_mem hz
      have := hn i hi
      simp [List.getD, hi, he] at this
      omega)
    rw [this]
  · simp only [badB, List.any_eq_false] at hb
    have := hb (zs[i]) (List.getElem_mem hi)
    simp [List.getD, hi] at hn
    simp at this; omega

theorem want_len : ∀ (zs : List Int), (∀ z ∈ zs, z < 9223372036854775808) → (wantL zs).length ≤ 9 * zs.length
  | [], _ => by simp [wantL]
  | z :: r, h => by
    have ih := want_len r (fun y hy => h y (List.mem_cons_of_mem _ hy))
    have hz := h z (List.mem_cons_self ..)
    unfold wantL at ih ⊢
    rw [List.flatMap_cons, List.length_append, List.length_cons]
    by_cases hn : z < 0
    · rw [if_pos hn, List.length_nil]; omega
    · rw [if_neg hn]
      have := Pk.enc_len9 (n := z.toNat) (by omega)
      omega

theorem S_nil_add (a : List UInt8) (w : World) (h : a.length ≤ 9223372036854775807) : (Op.stringOp .add (S a) { data := #[] }).run Try.prog w = .ok (.string (S a)) w := by
  have := add_S a [] (by simpa using h) w
  rw [List.append_nil] at this
  exact this

set_option maxRecDepth 100000 in
set_option maxHeartbeats 1000000 in
theorem packNumbers_row (w : World) (b off len cap : Nat) (zs : List Int) (hlen : zs.length = len) (h100 : len ≤ 100) (hb : b < w.heap.size)
    (hcell : ∀ i, i < len → w.cell? ⟨b, off + i, none⟩ = some (.int .i64 (zs.getD i 0))) (hr : ∀ z ∈ zs, -9223372036854775808 ≤ z ∧ z ≤ 9223372036854775807) :
    Calls Try.prog 6 #[.slice (some ⟨b, off, none⟩) len cap] w fun e w' => e = .returned (.bool true) ∧ Below w.heap.size w w' := by
  have hwl : ∀ k, (wantL (zs.take k)).length ≤ 900 := fun k => by
    have := want_len (zs.take k) (fun z hz => by have := hr z (List.mem_of_mem_take hz); omega)
    have h2 : (zs.take k).length ≤ zs.length := by simp; omega
    omega
  have HWL := Lib.hid hwl
  have HC := Lib.hid hcell
  have HR := Lib.hid hr
  have HL := Lib.hid hlen
  clear hcell hr hlen hwl
  go_enter Try.func6, Try.ntmps6
  go_wp2_with fail
  go_loopw [3, 4, 6, 7, 8, 17] (fun s bad _ _ _ i wr => ∃ k : Nat, k ≤ len ∧ i = .int .i64 k ∧ s = .string (S (wantL (zs.take k))) ∧ bad = .bool (badB (zs.take k)) ∧ Below w.heap.size w wr) (fun _ _ _ _ _ i _ => len - (intOf i).toNat)
  case atStart => exact ⟨0, Nat.zero_le _, rfl, rfl, rfl, Below.refl _ _⟩
  case round =>
    obtain ⟨k, hk, rfl, rfl, rfl, hbel⟩ := hrel
    by_cases hlt : k < len
    · have hkz : k < zs.length := by rw [HL.out]; exact hlt
      have hcx : wr.cell? ⟨b, off + k, none⟩ = some (.int .i64 (zs.getD k 0)) := (hbel.cell (p := ⟨b, off + k, none⟩) hb).trans (HC.out k hlt)
      have hrk : -9223372036854775808 ≤ zs.getD k 0 ∧ zs.getD k 0 ≤ 9223372036854775807 := by
        have e : zs.getD k 0 = zs[k] := by simp [List.getD, hkz]
        rw [e]; exact HR.out _ (List.getElem_mem hkz)
      have hw1 := HWL.out k
      by_cases hneg : zs.getD k 0 < 0
      · have HW := Lib.hid (want_neg zs k hkz hneg)
        have HB := Lib.hid (bad_neg zs k hkz hneg)
        generalize zs.getD k 0 = z at *
        have hadd := fun W => S_nil_add (wantL (zs.take k)) W (by omega)
        generalize badB (zs.take k) = bb at *
        go_wp2_with fail
        refine (refPut_neg _ _ hneg).mono ?_
        rintro e w1 ⟨rfl, hb1⟩
        have hb2 := hbel.trans (hb1.mono hbel.size)
        clear hb1 hbel
        cases bb
        all_goals
          go_wp2_with fail
          go_roundw
          case rel => exact ⟨k + 1, by omega, by go_num, by rw [HW.out], by rw [HB.out], hb2⟩
          case measure => simp [intOf]; omega
      · have HW := Lib.hid (want_pos zs k hkz hneg)
        have HB := Lib.hid (bad_pos zs k hkz hneg)
        generalize zs.getD k 0 = z at *
        obtain ⟨m, rfl⟩ := Int.eq_ofNat_of_zero_le (show 0 ≤ z by omega)
        rw [Int.toNat_natCast] at HW
        have hm9 := Pk.enc_len9 (n := m) (by omega)
        have hadd := fun W => add_S (wantL (zs.take k)) (Pk.enc m) (by omega) W
        generalize badB (zs.take k) = bb at *
        go_wp2_with fail
        refine (refPut_any _ _ (by omega)).mono ?_
        rintro e w1 ⟨rfl, hb1⟩
        have hb2 := hbel.trans (hb1.mono hbel.size)
        clear hb1 hbel
        cases bb
        all_goals
          go_wp2_with fail
          go_roundw
          case rel => exact ⟨k + 1, by omega, by go_num, by rw [HW.out], by rw [HB.out], hb2⟩
          case measure => simp [intOf]; omega
    · obtain rfl : k = len := by omega
      have hall : zs.take k = zs := List.take_of_length_le (by have := HL.out; omega)
      rw [hall]
      clear hall
      go_wp2_with fail
      refine (Numbers_row b off k cap zs _ HL.out h100 (Nat.lt_of_lt_of_le hb hbel.size) (fun i hi => (hbel.cell (p := ⟨b, off + i, none⟩) hb).trans (HC.out i hi)) (fun i hi => by
        have hiz : i < zs.length := by rw [HL.out]; exact hi
        have e : zs.getD i 0 = zs[i] := by simp [List.getD, hiz]
        rw [e]; have := HR.out _ (List.getElem_mem hiz); omega)).mono ?_
      rintro e w1 ⟨he, hb1⟩
      have hb2 := hbel.trans (hb1.mono hbel.size)
      clear hb1 hbel
      cases hbad : badB zs
      · obtain rfl := nums_good he hbad
        clear he hbad
        generalize S (wantL zs) = x
        go_wp2_with fail
        refine (awake_any _).mono ?_
        rintro e w3 ⟨rfl, hb3⟩
        have hb6 := hb2.trans (hb3.mono hb2.size)
        clear hb2 hb3
        go_wp2_with fail
        go_ret
        exact ⟨rfl, hb6⟩
      · obtain rfl := nums_bad he hbad
        clear he hbad
        generalize S (wantL zs) = x
        go_wp2_with fail
        refine (awake_any _).mono ?_
        rintro e w3 ⟨rfl, hb3⟩
        have hb6 := hb2.trans (hb3.mono hb2.size)
        clear hb2 hb3
        go_wp2_with fail
        go_ret
        exact ⟨rfl, hb6⟩

set_option maxRecDepth 100000 in
set_option maxHeartbeats 400000 in
theorem packNumbers_long (w : World) (ao : Option Addr) (len cap : Nat) (h100 : ¬ len ≤ 100) :
    Calls Try.prog 6 #[.slice ao len cap] w fun e w' => e = .returned (.bool true) ∧ Below w.heap.size w w' := by
  go_enter Try.func6, Try.ntmps6
  go_wp2_with fail
  refine (awake_any _).mono ?_
  rintro e w3 ⟨rfl, hb3⟩
  go_wp2_with fail
  go_ret
  exact ⟨rfl, hb3⟩

set_option maxRecDepth 100000 in
set_option maxHeartbeats 400000 in
theorem packNumbers_empty (w : World) (ao : Option Addr) (cap : Nat) :
    Calls Try.prog 6 #[.slice ao 0 cap] w fun e w' => e = .returned (.bool true) ∧ Below w.heap.size w w' := by
  go_enter Try.func6, Try.ntmps6
  go_wp2_with fail
  refine wp_loop_rounds 1 ?_
  rw [rounds_succ]
  go_wp2_with fail
  refine (Numbers_empty _ _ _).mono ?_
  rintro e w1 ⟨rfl, hb1⟩
  go_wp2_with fail
  refine (awake_any _).mono ?_
  rintro e w3 ⟨rfl, hb3⟩
  have hb6 := hb1.trans (hb3.mono hb1.size)
  clear hb1 hb3
  go_wp2_with fail
  go_ret
  exact ⟨rfl, hb6⟩

theorem packNumbers_walk (w : World) (ao : Option Addr) (len cap : Nat) (zs : List Int) (h : IsRow .i64 w ao len cap zs) :
    Calls Try.prog 6 #[.slice ao len cap] w fun e w' => e = .returned (.bool true) ∧ Below w.heap.size w w' := by
  by_cases h100 : len ≤ 100
  · by_cases h0 : len = 0
    · subst h0; exact packNumbers_empty w ao cap
    · rcases h with ⟨_, hl, _⟩ | ⟨x, rfl, hlc, hcm, hz, hcell, hwf, hblock⟩
      · exact absurd hl h0
      · obtain ⟨b, off, rfl, hb⟩ := hblock (by omega)
        refine packNumbers_row w b off len cap (zs.take len) (by simp; omega) h100 hb (fun i hi => ?_) (fun z hz => wf_bounds (hwf z (List.mem_of_mem_take hz)))
        have := hcell i (by omega)
        rw [Addr.add_lit] at this
        rw [this]
        simp [List.getD, hi]
  · exact packNumbers_long w ao len cap h100

end Go.Proofs.Ytcgmagoieanloaa
