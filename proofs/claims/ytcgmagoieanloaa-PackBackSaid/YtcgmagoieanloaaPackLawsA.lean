/-
  The walks of PackPuts, PackTakes, PackOnce, PackApart, PackShort: each call returns true, whatever it is handed, and writes nothing that was there.
-/
import Derived.Test.YtcgmagoieanloaaPackAwake
namespace Go.Proofs.Ytcgmagoieanloaa
open Go.RowKit

set_option maxRecDepth 100000 in
set_option maxHeartbeats 400000 in
theorem packPuts_walk (w : World) (n : Int) (h : -9223372036854775808 ≤ n ∧ n ≤ 9223372036854775807) :
    Calls Try.prog 3 #[.int .i64 n] w fun e w' => e = .returned (.bool true) ∧ Below w.heap.size w w' := by
  by_cases h0 : 0 ≤ n
  · obtain ⟨m, rfl⟩ := Int.eq_ofNat_of_zero_le h0
    go_enter Try.func3, Try.ntmps3
    go_wp2_with fail
    refine (Put_any _ _ h0 (by omega)).mono ?_
    rintro e w1 ⟨rfl, hb1⟩
    rw [Int.toNat_natCast]
    go_wp2_with fail
    refine (refPut_any m _ (by omega)).mono ?_
    rintro e w2 ⟨rfl, hb2⟩
    go_wp2_with fail
    refine (awake_any _).mono ?_
    rintro e w3 ⟨rfl, hb3⟩
    have hb := hb1.trans ((hb2.trans (hb3.mono hb2.size)).mono hb1.size)
    clear hb1 hb2 hb3
    go_wp2_with fail
    go_ret
    exact ⟨rfl, hb⟩
  · go_enter Try.func3, Try.ntmps3
    go_wp2_with fail
    refine (Put_neg _ _ (by omega)).mono ?_
    rintro e w1 ⟨rfl, hb1⟩
    go_wp2_with fail
    refine (refPut_neg _ _ (by omega)).mono ?_
    rintro e w2 ⟨rfl, hb2⟩
    go_wp2_with fail
    refine (awake_any _).mono ?_
    rintro e w3 ⟨rfl, hb3⟩
    have hb := hb1.trans ((hb2.trans (hb3.mono hb2.size)).mono hb1.size)
    clear hb1 hb2 hb3
    go_wp2_with fail
    go_ret
    exact ⟨rfl, hb⟩

set_option maxRecDepth 100000 in
set_option maxHeartbeats 400000 in
theorem packTakes_walk (w : World) (s : ByteArray) (hs : s.size ≤ 140737488351232) :
    Calls Try.prog 4 #[.string s] w fun e w' => e = .returned (.bool true) ∧ Below w.heap.size w w' := by
  go_enter Try.func4, Try.ntmps4
  go_wp2_with fail
  refine (Take_any _ _ (by omega)).mono ?_
  rintro e w1 ⟨rfl, hb1⟩
  go_wp2_with fail
  refine (refTake_any _ _ (by omega)).mono ?_
  rintro e w2 ⟨rfl, hb2⟩
  generalize S (tk s).2.1 = a
  generalize (tk s).1 = n
  generalize (tk s).2.2 = q
  go_wp2_with fail
  refine (awake_any _).mono ?_
  rintro e w3 ⟨rfl, hb3⟩
  have hb := hb1.trans ((hb2.trans (hb3.mono hb2.size)).mono hb1.size)
  clear hb1 hb2 hb3
  go_wp2_with fail
  go_ret
  exact ⟨rfl, hb⟩

theorem once {s : ByteArray} (h : (tk s).2.2 = 0) : S (Pk.enc (tk s).1) ++ S (tk s).2.1 = s := by
  rw [S_append]
  exact (congrArg S (Pk.take_ok h).1).trans (S_of s)
theorem once_lt {s : ByteArray} (h : (tk s).2.2 = 0) : (tk s).1 < 9223372036854775808 := (Pk.take_ok h).2

set_option maxRecDepth 100000 in
set_option maxHeartbeats 400000 in
theorem packOnce_walk (w : World) (s : ByteArray) (hs : s.size ≤ 140737488351232) :
    Calls Try.prog 9 #[.string s] w fun e w' => e = .returned (.bool true) ∧ Below w.heap.size w w' := by
  by_cases h : (tk s).2.2 = 0
  · have h1 := Lib.hid (once h)
    have h2 := once_lt h
    have h3 : (S (Pk.enc (tk s).1)).size + (S (tk s).2.1).size ≤ 9223372036854775807 := by
      have := congrArg ByteArray.size h1.out
      rw [ByteArray.size_append] at this
      omega
    have hq := Lib.hid h
    clear h
    go_enter Try.func9, Try.ntmps9
    go_wp2_with fail
    refine (Take_any _ _ (by omega)).mono ?_
    rintro e w1 ⟨rfl, hb1⟩
    rw [hq.out]
    go_wp2_with fail
    refine (Put_any _ _ (by omega) (by omega)).mono ?_
    rintro e w2 ⟨rfl, hb2⟩
    rw [Int.toNat_natCast]
    have h4 := h1.out
    generalize S (Pk.enc (tk s).1) = x at *
    generalize S (tk s).2.1 = y at *
    subst h4
    clear h1 hs
    have h5 : ¬ (x.size + y.size > 9223372036854775807) := by omega
    go_wp2_with fail
    refine (awake_any _).mono ?_
    rintro e w3 ⟨rfl, hb3⟩
    have hb := hb1.trans ((hb2.trans (hb3.mono hb2.size)).mono hb1.size)
    clear hb1 hb2 hb3
    go_wp2_with fail
    go_ret
    exact ⟨rfl, hb⟩
  · have h1 := Pk.take_err h
    have h2 : tk s = (0, [], (tk s).2.2) := by
      have e1 : (tk s).1 = 0 := h1.1
      have e2 : (tk s).2.1 = [] := h1.2
      rw [← e1, ← e2]
    have h3 : ((((tk s).2.2 : Nat) : Int) == 0) = false := by rw [beq_eq_false_iff_ne]; omega
    have H1 := Lib.hid h1
    clear h1 h2
    go_enter Try.func9, Try.ntmps9
    go_wp2_with fail
    refine (Take_any _ _ (by omega)).mono ?_
    rintro e w1 ⟨rfl, hb1⟩
    have e1 : (tk s).1 = 0 := H1.out.1
    have e2 : (tk s).2.1 = [] := H1.out.2
    rw [e1, e2, S_nil]
    clear e1 e2
    go_wp2_with fail
    refine (awake_any _).mono ?_
    rintro e w3 ⟨rfl, hb3⟩
    have hb := hb1.trans (hb3.mono hb1.size)
    clear hb1 hb3
    go_wp2_with fail
    go_ret
    exact ⟨rfl, hb⟩

theorem S_front (n k : Nat) : (S (Pk.enc n)).extract 0 k = S ((Pk.enc n).take k) := extract_front _ _

/-- Whether the first number's bytes begin the second one's. -/
theorem apart_same (n : Nat) : ((S (Pk.enc n)).extract 0 (S (Pk.enc n)).size) = S (Pk.enc n) := by
  rw [S_front, S_size, List.take_of_length_le (Nat.le_refl _)]
theorem apart_other {a b : Nat} (h : a ≠ b) : ((S (Pk.enc b)).extract 0 (S (Pk.enc a)).size) ≠ S (Pk.enc a) := by
  rw [S_front, S_size]
  intro e
  have e2 : (Pk.enc b).take (Pk.enc a).length = Pk.enc a := congrArg (fun x : ByteArray => x.data.toList) e
  apply h
  exact Pk.enc_prefix (more := (Pk.enc b).drop (Pk.enc a).length) (by
    conv => lhs; rw [← List.take_append_drop (Pk.enc a).length (Pk.enc b)]
    rw [e2])
theorem toList_ne {a b : ByteArray} (h : a ≠ b) : (a.toList == b.toList) = false := by
  rw [beq_eq_false_iff_ne]
  intro e
  apply h
  rw [ByteArray.toList_eq, ByteArray.toList_eq] at e
  exact ByteArray.ext (Array.toList_inj.1 e)

set_option maxRecDepth 100000 in
set_option maxHeartbeats 400000 in
theorem packApart_walk (w : World) (a : Int) (ha : -9223372036854775808 ≤ a ∧ a ≤ 9223372036854775807) (b : Int) (hb : -9223372036854775808 ≤ b ∧ b ≤ 9223372036854775807) :
    Calls Try.prog 8 #[.int .i64 a, .int .i64 b] w fun e w' => e = .returned (.bool true) ∧ Below w.heap.size w w' := by
  by_cases ha0 : 0 ≤ a
  · by_cases hb0 : 0 ≤ b
    · obtain ⟨m, rfl⟩ := Int.eq_ofNat_of_zero_le ha0
      obtain ⟨n, rfl⟩ := Int.eq_ofNat_of_zero_le hb0
      have la := Pk.enc_len9 (n := m) (by omega)
      have lb := Pk.enc_len9 (n := n) (by omega)
      rw [← S_size] at la lb
      by_cases hmn : m = n
      · subst hmn
        have hs := Lib.hid (apart_same m)
        go_enter Try.func8, Try.ntmps8
        go_wp2_with fail
        refine (Put_any _ _ ha0 (by omega)).mono ?_
        rintro e w1 ⟨rfl, hb1⟩
        rw [Int.toNat_natCast]
        go_wp2_with fail
        refine (Put_any _ _ ha0 (by omega)).mono ?_
        rintro e w2 ⟨rfl, hb2⟩
        rw [Int.toNat_natCast]
        have hx := hs.out
        generalize S (Pk.enc m) = x at *
        clear hs
        go_wp2_with fail
        refine (awake_any _).mono ?_
        rintro e w3 ⟨rfl, hb3⟩
        have hb := hb1.trans ((hb2.trans (hb3.mono hb2.size)).mono hb1.size)
        clear hb1 hb2 hb3
        go_wp2_with fail
        go_ret
        exact ⟨rfl, hb⟩
      · have hs := Lib.hid (toList_ne (apart_other hmn))
        have hne : ((m : Int) == (n : Int)) = false := by rw [beq_eq_false_iff_ne]; omega
        clear hmn
        go_enter Try.func8, Try.ntmps8
        go_wp2_with fail
        refine (Put_any _ _ ha0 (by omega)).mono ?_
        rintro e w1 ⟨rfl, hb1⟩
        rw [Int.toNat_natCast]
        go_wp2_with fail
        refine (Put_any _ _ hb0 (by omega)).mono ?_
        rintro e w2 ⟨rfl, hb2⟩
        rw [Int.toNat_natCast]
        have hx := hs.out
        generalize S (Pk.enc m) = x at *
        generalize S (Pk.enc n) = y at *
        clear hs
        by_cases hxy : x.size ≤ y.size
        · go_wp2_with fail
          refine (awake_any _).mono ?_
          rintro e w3 ⟨rfl, hb3⟩
          have hb := hb1.trans ((hb2.trans (hb3.mono hb2.size)).mono hb1.size)
          clear hb1 hb2 hb3
          go_wp2_with fail
          go_ret
          exact ⟨rfl, hb⟩
        · go_wp2_with fail
          refine (awake_any _).mono ?_
          rintro e w3 ⟨rfl, hb3⟩
          have hb := hb1.trans ((hb2.trans (hb3.mono hb2.size)).mono hb1.size)
          clear hb1 hb2 hb3
          go_wp2_with fail
          go_ret
          exact ⟨rfl, hb⟩
    · go_enter Try.func8, Try.ntmps8
      go_wp2_with fail
      refine (Put_any _ _ ha0 (by omega)).mono ?_
      rintro e w1 ⟨rfl, hb1⟩
      go_wp2_with fail
      refine (Put_neg _ _ (by omega)).mono ?_
      rintro e w2 ⟨rfl, hb2⟩
      go_wp2_with fail
      refine (awake_any _).mono ?_
      rintro e w3 ⟨rfl, hb3⟩
      have hb := hb1.trans ((hb2.trans (hb3.mono hb2.size)).mono hb1.size)
      clear hb1 hb2 hb3
      go_wp2_with fail
      go_ret
      exact ⟨rfl, hb⟩
  · by_cases hb0 : 0 ≤ b
    · go_enter Try.func8, Try.ntmps8
      go_wp2_with fail
      refine (Put_neg _ _ (by omega)).mono ?_
      rintro e w1 ⟨rfl, hb1⟩
      go_wp2_with fail
      refine (Put_any _ _ hb0 (by omega)).mono ?_
      rintro e w2 ⟨rfl, hb2⟩
      go_wp2_with fail
      refine (awake_any _).mono ?_
      rintro e w3 ⟨rfl, hb3⟩
      have hb := hb1.trans ((hb2.trans (hb3.mono hb2.size)).mono hb1.size)
      clear hb1 hb2 hb3
      go_wp2_with fail
      go_ret
      exact ⟨rfl, hb⟩
    · go_enter Try.func8, Try.ntmps8
      go_wp2_with fail
      refine (Put_neg _ _ (by omega)).mono ?_
      rintro e w1 ⟨rfl, hb1⟩
      go_wp2_with fail
      refine (Put_neg _ _ (by omega)).mono ?_
      rintro e w2 ⟨rfl, hb2⟩
      go_wp2_with fail
      refine (awake_any _).mono ?_
      rintro e w3 ⟨rfl, hb3⟩
      have hb := hb1.trans ((hb2.trans (hb3.mono hb2.size)).mono hb1.size)
      clear hb1 hb2 hb3
      go_wp2_with fail
      go_ret
      exact ⟨rfl, hb⟩

theorem short_tk {n k : Nat} (h : k < (S (Pk.enc n)).size) : tk ((S (Pk.enc n)).extract 0 k) = (0, [], 2) := by
  rw [S_front]
  exact Pk.take_cut (by rw [S_size] at h; exact h)
theorem S_front_size (n k : Nat) : ((S (Pk.enc n)).extract 0 k).size ≤ (S (Pk.enc n)).size := by
  rw [S_front, S_size, S_size, List.length_take]; omega

set_option maxRecDepth 100000 in
set_option maxHeartbeats 400000 in
theorem packShort_walk (w : World) (n : Int) (hn : -9223372036854775808 ≤ n ∧ n ≤ 9223372036854775807) (k : Int) (hk : -9223372036854775808 ≤ k ∧ k ≤ 9223372036854775807) :
    Calls Try.prog 10 #[.int .i64 n, .int .i64 k] w fun e w' => e = .returned (.bool true) ∧ Below w.heap.size w w' := by
  by_cases h0 : 0 ≤ n
  · obtain ⟨m, rfl⟩ := Int.eq_ofNat_of_zero_le h0
    have lm := Pk.enc_len9 (n := m) (by omega)
    rw [← S_size] at lm
    by_cases hk0 : k < 0
    · go_enter Try.func10, Try.ntmps10
      go_wp2_with fail
      refine (Put_any _ _ h0 (by omega)).mono ?_
      rintro e w1 ⟨rfl, hb1⟩
      rw [Int.toNat_natCast]
      generalize S (Pk.enc m) = x at *
      go_wp2_with fail
      refine (awake_any _).mono ?_
      rintro e w3 ⟨rfl, hb3⟩
      have hb := hb1.trans (hb3.mono hb1.size)
      clear hb1 hb3
      go_wp2_with fail
      go_ret
      exact ⟨rfl, hb⟩
    · obtain ⟨j, rfl⟩ := Int.eq_ofNat_of_zero_le (show 0 ≤ k by omega)
      by_cases hj : j < (S (Pk.enc m)).size
      · have h1 := Lib.hid (short_tk hj)
        have h2 := S_front_size m j
        go_enter Try.func10, Try.ntmps10
        go_wp2_with fail
        refine (Put_any _ _ h0 (by omega)).mono ?_
        rintro e w1 ⟨rfl, hb1⟩
        rw [Int.toNat_natCast]
        generalize S (Pk.enc m) = x at *
        go_wp2_with fail
        refine (Take_any _ _ (by omega)).mono ?_
        rintro e w2 ⟨rfl, hb2⟩
        rw [h1.out]
        simp only [S_nil]
        go_wp2_with fail
        refine (awake_any _).mono ?_
        rintro e w3 ⟨rfl, hb3⟩
        have hb := hb1.trans ((hb2.trans (hb3.mono hb2.size)).mono hb1.size)
        clear hb1 hb2 hb3
        go_wp2_with fail
        go_ret
        exact ⟨rfl, hb⟩
      · go_enter Try.func10, Try.ntmps10
        go_wp2_with fail
        refine (Put_any _ _ h0 (by omega)).mono ?_
        rintro e w1 ⟨rfl, hb1⟩
        rw [Int.toNat_natCast]
        generalize S (Pk.enc m) = x at *
        go_wp2_with fail
        refine (awake_any _).mono ?_
        rintro e w3 ⟨rfl, hb3⟩
        have hb := hb1.trans (hb3.mono hb1.size)
        clear hb1 hb3
        go_wp2_with fail
        go_ret
        exact ⟨rfl, hb⟩
  · go_enter Try.func10, Try.ntmps10
    go_wp2_with fail
    refine (Put_neg _ _ (by omega)).mono ?_
    rintro e w1 ⟨rfl, hb1⟩
    go_wp2_with fail
    refine (awake_any _).mono ?_
    rintro e w3 ⟨rfl, hb3⟩
    have hb := hb1.trans (hb3.mono hb1.size)
    clear hb1 hb3
    go_wp2_with fail
    go_ret
    exact ⟨rfl, hb⟩

end Go.Proofs.Ytcgmagoieanloaa
