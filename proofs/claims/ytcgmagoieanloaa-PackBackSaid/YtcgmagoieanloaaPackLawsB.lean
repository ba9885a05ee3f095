/-
  The walks of PackTexts and PackBack: each call returns true, whatever it is handed, and writes nothing that was there.
-/
import Derived.Test.YtcgmagoieanloaaPackLawsA
namespace Go.Proofs.Ytcgmagoieanloaa
open Go.RowKit

/-! ### Texts and flags -/
/-- A text's bytes. -/
def textS (s : ByteArray) : ByteArray := S (Pk.enc s.size) ++ s

set_option maxRecDepth 100000 in
set_option maxHeartbeats 400000 in
theorem Text_any (s : ByteArray) (w : World) (hs : s.size ≤ 140737488351232) :
    Calls Try.prog 20 #[.string s] w fun e w' => e = .returned (.string (textS s)) ∧ Below w.heap.size w w' := by
  have hl := Pk.enc_len9 (n := s.size) (by omega)
  rw [← S_size] at hl
  go_enter Try.func20, Try.ntmps20
  go_wp2_with fail
  refine (appendNumber_any w.heap.size (.slice none 0 0) [] s.size w (Nat.le_refl _) (by omega) (by simp) (World.ownsRow_nil _ _ _ _)).mono ?_
  rintro e w1 ⟨v1, rfl, ho, hb⟩
  have hcv := convert_owns ho
  rw [List.nil_append] at hcv
  clear ho
  go_wp2_with fail
  go_ret
  exact ⟨rfl, hb⟩

set_option maxRecDepth 100000 in
set_option maxHeartbeats 400000 in
theorem refText_any (s : ByteArray) (w : World) (hs : s.size ≤ 140737488351232) :
    Calls Try.prog 21 #[.string s] w fun e w' => e = .returned (.string (textS s)) ∧ Below w.heap.size w w' := by
  have hl := Pk.enc_len9 (n := s.size) (by omega)
  rw [← S_size] at hl
  go_enter Try.func21, Try.ntmps21
  go_wp2_with fail
  refine (refPut_any s.size w (by omega)).mono ?_
  rintro e w1 ⟨rfl, hb⟩
  go_wp2_with fail
  go_ret
  exact ⟨rfl, hb⟩

/-- A flag's byte. -/
def flagS (b : Bool) : ByteArray := S [if b then 1 else 0]

set_option maxRecDepth 100000 in
set_option maxHeartbeats 400000 in
theorem Flag_any (b : Bool) (w : World) :
    Calls Try.prog 22 #[.bool b] w fun e w' => e = .returned (.string (flagS b)) ∧ Below w.heap.size w w' := by
  cases b
  · go_enter Try.func22, Try.ntmps22
    go_wp2_with fail
    go_ret
    exact ⟨rfl, Below.refl _ _⟩
  · go_enter Try.func22, Try.ntmps22
    go_wp2_with fail
    go_ret
    exact ⟨rfl, Below.refl _ _⟩

set_option maxRecDepth 100000 in
set_option maxHeartbeats 400000 in
theorem refFlag_any (b : Bool) (w : World) :
    Calls Try.prog 23 #[.bool b] w fun e w' => e = .returned (.string (flagS b)) ∧ Below w.heap.size w w' := by
  cases b
  · have hcv := convert_one w 0
    simp only [show ((0 : UInt8).toNat : Int) = 0 from rfl] at hcv
    go_enter Try.func23, Try.ntmps23
    go_wp2_with fail
    go_ret
    exact ⟨rfl, (Below.refl _ _).alloc (Nat.le_refl _) _⟩
  · have hcv := convert_one w 1
    simp only [show ((1 : UInt8).toNat : Int) = 1 from rfl] at hcv
    go_enter Try.func23, Try.ntmps23
    go_wp2_with fail
    go_ret
    exact ⟨rfl, (Below.refl _ _).alloc (Nat.le_refl _) _⟩

/-- What is taken as a flag: whether it is on, what stands behind it, the error's number. -/
def tf (s : ByteArray) : Bool × ByteArray × Nat :=
  if h : 0 < s.size then (if 1 < s[0].toNat then (false, { data := #[] }, 3) else (s[0].toNat == 1, s.extract 1 s.size, 0)) else (false, { data := #[] }, 2)

theorem tf_short {s : ByteArray} (h : ¬ 0 < s.size) : tf s = (false, { data := #[] }, 2) := by unfold tf; rw [dif_neg h]
theorem tf_form {s : ByteArray} (h : 0 < s.size) (h1 : 1 < s[0].toNat) : tf s = (false, { data := #[] }, 3) := by unfold tf; rw [dif_pos h, if_pos h1]
theorem tf_good {s : ByteArray} (h : 0 < s.size) (h1 : ¬ 1 < s[0].toNat) : tf s = (s[0].toNat == 1, s.extract 1 s.size, 0) := by unfold tf; rw [dif_pos h, if_neg h1]

def FlagPost (s : ByteArray) (w : World) (e : Ending) (w' : World) : Prop :=
  e = .returned (.tuple #[.bool (tf s).1, .string (tf s).2.1, .int .i64 ((tf s).2.2 : Int)]) ∧ Below w.heap.size w w'

theorem empty_list {s : ByteArray} (h : ¬ 0 < s.size) : s.toList = [] := by
  rw [ByteArray.toList_eq]
  exact List.length_eq_zero_iff.1 (by rw [bytes_len]; omega)
theorem nonempty_list {s : ByteArray} (h : 0 < s.size) : s.toList.isEmpty = false := by
  rw [ByteArray.toList_eq]
  cases hl : s.data.toList with
  | nil => have := bytes_len s; rw [hl] at this; simp at this; omega
  | cons a l => rfl
theorem nonempty_ne {s : ByteArray} (h : 0 < s.size) : ¬ s.toList = [] := by
  intro e
  have := nonempty_list h
  rw [e] at this
  cases this

set_option maxRecDepth 100000 in
set_option maxHeartbeats 400000 in
theorem TakeFlag_any (s : ByteArray) (w : World) (hs : s.size ≤ 9223372036854775807) :
    Calls Try.prog 18 #[.string s] w (FlagPost s w) := by
  by_cases h : 0 < s.size
  · have hne := nonempty_list h
    have hnb := nonempty_ne h
    by_cases h1 : 1 < s[0].toNat
    · have HT := Lib.hid (tf_form h h1)
      have h1i : (1 : Int) < (s[0].toNat : Int) := by omega
      go_enter Try.func18, Try.ntmps18
      go_wp2_with fail
      go_ret3
      exact ⟨by rw [HT.out]; rfl, Below.refl _ _⟩
    · have HT := Lib.hid (tf_good h h1)
      have h1i : ¬ (1 : Int) < (s[0].toNat : Int) := by omega
      have hbb : (s[0].toNat == 1) = ((s[0].toNat : Int) == 1) := by
        rw [Bool.eq_iff_iff, beq_iff_eq, beq_iff_eq]; omega
      have HBB := Lib.hid hbb
      have hi : (0 : Int) < (s.size : Int) := by omega
      have hi1 : (1 : Int) ≤ (s.size : Int) := by omega
      clear h1 hbb
      go_enter Try.func18, Try.ntmps18
      go_wp2_with fail
      go_quiet (fail)
      go_wp2_with fail
      go_ret3
      exact ⟨by rw [HT.out, HBB.out]; rfl, Joins.below_draws _ _ _⟩
  · have HT := Lib.hid (tf_short h)
    have he := empty_list h
    go_enter Try.func18, Try.ntmps18
    go_wp2_with fail
    go_ret3
    exact ⟨by rw [HT.out]; rfl, Below.refl _ _⟩

set_option maxRecDepth 100000 in
set_option maxHeartbeats 400000 in
theorem refTakeFlag_any (s : ByteArray) (w : World) (hs : s.size ≤ 9223372036854775807) :
    Calls Try.prog 19 #[.string s] w (FlagPost s w) := by
  by_cases h : 0 < s.size
  · have hz : ((s.size : Int) == 0) = false := by rw [beq_eq_false_iff_ne]; omega
    by_cases h1 : 1 < s[0].toNat
    · have HT := Lib.hid (tf_form h h1)
      have h1i : (1 : Int) < (s[0].toNat : Int) := by omega
      go_enter Try.func19, Try.ntmps19
      go_wp2_with fail
      go_ret3
      exact ⟨by rw [HT.out]; rfl, Below.refl _ _⟩
    · have HT := Lib.hid (tf_good h h1)
      have h1i : ¬ (1 : Int) < (s[0].toNat : Int) := by omega
      have hbb : (s[0].toNat == 1) = ((s[0].toNat : Int) == 1) := by
        rw [Bool.eq_iff_iff, beq_iff_eq, beq_iff_eq]; omega
      have HBB := Lib.hid hbb
      have hi : (0 : Int) < (s.size : Int) := by omega
      have hi1 : (1 : Int) ≤ (s.size : Int) := by omega
      clear h1 hbb
      go_enter Try.func19, Try.ntmps19
      go_wp2_with fail
      go_quiet (fail)
      go_wp2_with fail
      go_ret3
      exact ⟨by rw [HT.out, HBB.out]; rfl, Joins.below_draws _ _ _⟩
  · have HT := Lib.hid (tf_short h)
    have hz : ((s.size : Int) == 0) = true := by rw [beq_iff_eq]; omega
    go_enter Try.func19, Try.ntmps19
    go_wp2_with fail
    go_ret3
    exact ⟨by rw [HT.out]; rfl, Below.refl _ _⟩

/-- What is taken as a text: the text, what stands behind it, the error's number. -/
def tt (s : ByteArray) : ByteArray × ByteArray × Nat :=
  if (tk s).2.2 ≠ 0 then ({ data := #[] }, { data := #[] }, (tk s).2.2)
  else if (S (tk s).2.1).size < (tk s).1 then ({ data := #[] }, { data := #[] }, 2)
  else ((S (tk s).2.1).extract 0 (tk s).1, (S (tk s).2.1).extract (tk s).1 (S (tk s).2.1).size, 0)

theorem tt_err {s : ByteArray} (h : (tk s).2.2 ≠ 0) : tt s = ({ data := #[] }, { data := #[] }, (tk s).2.2) := by unfold tt; rw [if_pos h]
theorem tt_short {s : ByteArray} (h : ¬ (tk s).2.2 ≠ 0) (h1 : (S (tk s).2.1).size < (tk s).1) : tt s = ({ data := #[] }, { data := #[] }, 2) := by unfold tt; rw [if_neg h, if_pos h1]
theorem tt_good {s : ByteArray} (h : ¬ (tk s).2.2 ≠ 0) (h1 : ¬ (S (tk s).2.1).size < (tk s).1) :
    tt s = ((S (tk s).2.1).extract 0 (tk s).1, (S (tk s).2.1).extract (tk s).1 (S (tk s).2.1).size, 0) := by unfold tt; rw [if_neg h, if_neg h1]

def TextPost (s : ByteArray) (w : World) (e : Ending) (w' : World) : Prop :=
  e = .returned (.tuple #[.string (tt s).1, .string (tt s).2.1, .int .i64 ((tt s).2.2 : Int)]) ∧ Below w.heap.size w w'

set_option maxRecDepth 100000 in
set_option maxHeartbeats 400000 in
theorem TakeText_any (s : ByteArray) (w : World) (hs : s.size ≤ 9223372036854775807) :
    Calls Try.prog 16 #[.string s] w (TextPost s w) := by
  by_cases h : (tk s).2.2 ≠ 0
  · have HT := Lib.hid (tt_err h)
    have h3 : ((((tk s).2.2 : Nat) : Int) == 0) = false := by rw [beq_eq_false_iff_ne]; omega
    generalize hq : (tk s).2.2 = q at *
    have HQ := Lib.hid hq
    clear hq h
    go_enter Try.func16, Try.ntmps16
    go_wp2_with fail
    refine (Take_any _ _ hs).mono ?_
    rintro e w1 ⟨rfl, hb1⟩
    rw [HQ.out]
    go_wp2_with fail
    go_ret3
    exact ⟨by rw [HT.out]; rfl, hb1⟩
  · have h0 : (tk s).2.2 = 0 := by omega
    have hlt := once_lt h0
    have H0 := Lib.hid h0
    by_cases h1 : (S (tk s).2.1).size < (tk s).1
    · have HT := Lib.hid (tt_short h h1)
      clear h h0
      go_enter Try.func16, Try.ntmps16
      go_wp2_with fail
      refine (Take_any _ _ hs).mono ?_
      rintro e w1 ⟨rfl, hb1⟩
      rw [H0.out]
      generalize S (tk s).2.1 = r at *
      generalize (tk s).1 = n at *
      go_wp2_with fail
      go_ret3
      exact ⟨by rw [HT.out]; rfl, hb1⟩
    · have HT := Lib.hid (tt_good h h1)
      clear h h0
      go_enter Try.func16, Try.ntmps16
      go_wp2_with fail
      refine (Take_any _ _ hs).mono ?_
      rintro e w1 ⟨rfl, hb1⟩
      rw [H0.out]
      generalize S (tk s).2.1 = r at *
      generalize (tk s).1 = n at *
      have q4 : (n : Int) ≤ (r.size : Int) := by omega
      go_wp2_with fail
      go_quiet (fail)
      go_wp2_with fail
      go_ret3
      exact ⟨by rw [HT.out]; rfl, hb1.trans (Joins.below_draws _ _ _)⟩

set_option maxRecDepth 100000 in
set_option maxHeartbeats 400000 in
theorem refTakeText_any (s : ByteArray) (w : World) (hs : s.size ≤ 9223372036854775807) :
    Calls Try.prog 17 #[.string s] w (TextPost s w) := by
  by_cases h : (tk s).2.2 ≠ 0
  · have HT := Lib.hid (tt_err h)
    have h3 : ((((tk s).2.2 : Nat) : Int) == 0) = false := by rw [beq_eq_false_iff_ne]; omega
    generalize hq : (tk s).2.2 = q at *
    have HQ := Lib.hid hq
    clear hq h
    go_enter Try.func17, Try.ntmps17
    go_wp2_with fail
    refine (refTake_any _ _ hs).mono ?_
    rintro e w1 ⟨rfl, hb1⟩
    rw [HQ.out]
    go_wp2_with fail
    go_ret3
    exact ⟨by rw [HT.out]; rfl, hb1⟩
  · have h0 : (tk s).2.2 = 0 := by omega
    have hlt := once_lt h0
    have H0 := Lib.hid h0
    by_cases h1 : (S (tk s).2.1).size < (tk s).1
    · have HT := Lib.hid (tt_short h h1)
      clear h h0
      go_enter Try.func17, Try.ntmps17
      go_wp2_with fail
      refine (refTake_any _ _ hs).mono ?_
      rintro e w1 ⟨rfl, hb1⟩
      rw [H0.out]
      generalize S (tk s).2.1 = r at *
      generalize (tk s).1 = n at *
      go_wp2_with fail
      go_ret3
      exact ⟨by rw [HT.out]; rfl, hb1⟩
    · have HT := Lib.hid (tt_good h h1)
      clear h h0
      go_enter Try.func17, Try.ntmps17
      go_wp2_with fail
      refine (refTake_any _ _ hs).mono ?_
      rintro e w1 ⟨rfl, hb1⟩
      rw [H0.out]
      generalize S (tk s).2.1 = r at *
      generalize (tk s).1 = n at *
      have q4 : (n : Int) ≤ (r.size : Int) := by omega
      go_wp2_with fail
      go_quiet (fail)
      go_wp2_with fail
      go_ret3
      exact ⟨by rw [HT.out]; rfl, hb1.trans (Joins.below_draws _ _ _)⟩

set_option maxRecDepth 100000 in
set_option maxHeartbeats 1000000 in
theorem packTexts_walk (w : World) (s : ByteArray) (hs : s.size ≤ 140737488351232) (b : Bool) :
    Calls Try.prog 5 #[.string s, .bool b] w fun e w' => e = .returned (.bool true) ∧ Below w.heap.size w w' := by
  go_enter Try.func5, Try.ntmps5
  go_wp2_with fail
  refine (TakeText_any _ _ (by omega)).mono ?_
  rintro e w1 ⟨rfl, hb1⟩
  go_wp2_with fail
  refine (refTakeText_any _ _ (by omega)).mono ?_
  rintro e w2 ⟨rfl, hb2⟩
  have hb := hb1.trans (hb2.mono hb1.size)
  clear hb1 hb2
  generalize (tt s).1 = x
  generalize (tt s).2.1 = y
  generalize (tt s).2.2 = z
  go_wp2_with fail
  refine (TakeFlag_any _ _ (by omega)).mono ?_
  rintro e w1 ⟨rfl, hb1⟩
  go_wp2_with fail
  refine (refTakeFlag_any _ _ (by omega)).mono ?_
  rintro e w2 ⟨rfl, hb2⟩
  have hb3 := hb.trans ((hb1.trans (hb2.mono hb1.size)).mono hb.size)
  clear hb1 hb2 hb
  generalize (tf s).1 = x1
  generalize (tf s).2.1 = y1
  generalize (tf s).2.2 = z1
  go_wp2_with fail
  refine (Text_any _ _ hs).mono ?_
  rintro e w1 ⟨rfl, hb1⟩
  go_wp2_with fail
  refine (refText_any _ _ hs).mono ?_
  rintro e w2 ⟨rfl, hb2⟩
  have hb4 := hb3.trans ((hb1.trans (hb2.mono hb1.size)).mono hb3.size)
  clear hb1 hb2 hb3
  go_wp2_with fail
  refine (Flag_any _ _).mono ?_
  rintro e w1 ⟨rfl, hb1⟩
  go_wp2_with fail
  refine (refFlag_any _ _).mono ?_
  rintro e w2 ⟨rfl, hb2⟩
  have hb5 := hb4.trans ((hb1.trans (hb2.mono hb1.size)).mono hb4.size)
  clear hb1 hb2 hb4
  go_wp2_with fail
  refine (awake_any _).mono ?_
  rintro e w3 ⟨rfl, hb3⟩
  have hb6 := hb5.trans (hb3.mono hb5.size)
  clear hb5 hb3
  go_wp2_with fail
  go_ret
  exact ⟨rfl, hb6⟩

/-! ### What is written is taken back -/
theorem app_list (a b : ByteArray) : (a ++ b).data.toList = a.data.toList ++ b.data.toList := by rw [ByteArray.data_append]; simp
theorem tk_back {m : Nat} (h : m < 9223372036854775808) (more : ByteArray) : tk (S (Pk.enc m) ++ more) = (m, more.data.toList, 0) := by
  unfold tk
  rw [app_list]
  exact Pk.take_back h _

theorem extract_app_front (a b : ByteArray) : (a ++ b).extract 0 a.size = a := by
  rw [extract_front, app_list]
  have : (a.data.toList ++ b.data.toList).take a.size = a.data.toList := by
    rw [← bytes_len a]; exact List.take_left
  rw [this]; rfl
theorem extract_app_back (a b : ByteArray) : (a ++ b).extract a.size (a ++ b).size = b := by
  rw [extract_back, app_list]
  have : (a.data.toList ++ b.data.toList).drop a.size = b.data.toList := by
    rw [← bytes_len a]; exact List.drop_left
  rw [this]; rfl

theorem tt_back (s more : ByteArray) (h : s.size < 9223372036854775808) : tt (textS s ++ more) = (s, more, 0) := by
  have h1 : textS s ++ more = S (Pk.enc s.size) ++ (s ++ more) := by
    unfold textS
    apply ByteArray.ext
    simp [ByteArray.data_append]
  have h2 := tk_back h (s ++ more)
  rw [h1]
  have h3 : S (s ++ more).data.toList = s ++ more := S_of _
  have h4 : (s ++ more).size = s.size + more.size := ByteArray.size_append
  rw [tt_good (by rw [h2]; simp) (by rw [h2]; show ¬ (S (s ++ more).data.toList).size < s.size; rw [h3, h4]; omega)]
  rw [h2]
  show ((S (s ++ more).data.toList).extract 0 s.size, (S (s ++ more).data.toList).extract s.size (S (s ++ more).data.toList).size, 0) = _
  rw [h3, extract_app_front, extract_app_back]

theorem tf_back (b : Bool) (more : ByteArray) : tf (flagS b ++ more) = (b, more, 0) := by
  have h4 : (flagS b ++ more).size = 1 + more.size := by
    rw [ByteArray.size_append]; unfold flagS; rw [S_size]; rfl
  have h0 : 0 < (flagS b ++ more).size := by omega
  have h5 : (flagS b ++ more)[0] = if b then 1 else 0 := by
    have e1 := bytes_at (flagS b ++ more) 0 h0
    have e2 : (flagS b ++ more).data.toList = (if b then 1 else 0) :: more.data.toList := by rw [app_list]; rfl
    rw [← e1]
    simp only [e2]
    rfl
  have h6 : (flagS b).size = 1 := by unfold flagS; rw [S_size]; rfl
  have h7 := extract_app_back (flagS b) more
  rw [h6] at h7
  rw [tf_good h0 (by rw [h5]; cases b <;> decide), h7, h5]
  cases b <;> rfl

theorem textS_size (s : ByteArray) (h : s.size ≤ 140737488351232) : (textS s).size ≤ s.size + 9 := by
  have hl := Pk.enc_len9 (n := s.size) (by omega)
  unfold textS
  rw [ByteArray.size_append, S_size]; omega
theorem flagS_size (b : Bool) : (flagS b).size = 1 := by unfold flagS; rw [S_size]; rfl

set_option maxRecDepth 100000 in
set_option maxHeartbeats 1000000 in
theorem packBack_walk (w : World) (n : Int) (hn : -9223372036854775808 ≤ n ∧ n ≤ 9223372036854775807) (s : ByteArray) (hs : s.size ≤ 140737488351232) (b : Bool) (more : ByteArray) (hm : more.size ≤ 140737488351232) :
    Calls Try.prog 7 #[.int .i64 n, .string s, .bool b, .string more] w fun e w' => e = .returned (.bool true) ∧ Below w.heap.size w w' := by
  have HTT := Lib.hid (tt_back s more (by omega))
  have HTF := Lib.hid (tf_back b more)
  have hts := textS_size s hs
  have hfs : (flagS b).size ≤ 1 := by rw [flagS_size]; omega
  by_cases h0 : 0 ≤ n
  · obtain ⟨m, rfl⟩ := Int.eq_ofNat_of_zero_le h0
    have lm := Pk.enc_len9 (n := m) (by omega)
    rw [← S_size] at lm
    have HTK := Lib.hid (tk_back (m := m) (by omega) more)
    go_enter Try.func7, Try.ntmps7
    go_wp2_with fail
    refine (Put_any _ _ h0 (by omega)).mono ?_
    rintro e w1 ⟨rfl, hb1⟩
    rw [Int.toNat_natCast]
    generalize S (Pk.enc m) = x at *
    have hx : ¬ (x.size + more.size > 9223372036854775807) := by omega
    go_wp2_with fail
    refine (Take_any _ _ (by rw [ByteArray.size_append]; omega)).mono ?_
    rintro e w2 ⟨rfl, hb2⟩
    rw [HTK.out, S_of]
    have hb := hb1.trans (hb2.mono hb1.size)
    clear hb1 hb2 hx
    go_wp2_with fail
    refine (Text_any _ _ hs).mono ?_
    rintro e w1 ⟨rfl, hb1⟩
    generalize textS s = y at *
    have hx : ¬ (y.size + more.size > 9223372036854775807) := by omega
    go_wp2_with fail
    refine (TakeText_any _ _ (by rw [ByteArray.size_append]; omega)).mono ?_
    rintro e w2 ⟨rfl, hb2⟩
    rw [HTT.out]
    have hb3 := hb.trans ((hb1.trans (hb2.mono hb1.size)).mono hb.size)
    clear hb1 hb2 hb hx
    go_wp2_with fail
    refine (Flag_any _ _).mono ?_
    rintro e w1 ⟨rfl, hb1⟩
    generalize flagS b = z at *
    have hx : ¬ (z.size + more.size > 9223372036854775807) := by omega
    go_wp2_with fail
    refine (TakeFlag_any _ _ (by rw [ByteArray.size_append]; omega)).mono ?_
    rintro e w2 ⟨rfl, hb2⟩
    rw [HTF.out]
    have hb4 := hb3.trans ((hb1.trans (hb2.mono hb1.size)).mono hb3.size)
    clear hb1 hb2 hb3 hx
    go_wp2_with fail
    refine (awake_any _).mono ?_
    rintro e w3 ⟨rfl, hb3⟩
    have hb6 := hb4.trans (hb3.mono hb4.size)
    clear hb4 hb3
    go_wp2_with fail
    go_ret
    exact ⟨rfl, hb6⟩
  · go_enter Try.func7, Try.ntmps7
    go_wp2_with fail
    refine (Put_neg _ _ (by omega)).mono ?_
    rintro e w1 ⟨rfl, hb⟩
    go_wp2_with fail
    refine (Text_any _ _ hs).mono ?_
    rintro e w1 ⟨rfl, hb1⟩
    generalize textS s = y at *
    have hx : ¬ (y.size + more.size > 9223372036854775807) := by omega
    go_wp2_with fail
    refine (TakeText_any _ _ (by rw [ByteArray.size_append]; omega)).mono ?_
    rintro e w2 ⟨rfl, hb2⟩
    rw [HTT.out]
    have hb3 := hb.trans ((hb1.trans (hb2.mono hb1.size)).mono hb.size)
    clear hb1 hb2 hb hx
    go_wp2_with fail
    refine (Flag_any _ _).mono ?_
    rintro e w1 ⟨rfl, hb1⟩
    generalize flagS b = z at *
    have hx : ¬ (z.size + more.size > 9223372036854775807) := by omega
    go_wp2_with fail
    refine (TakeFlag_any _ _ (by rw [ByteArray.size_append]; omega)).mono ?_
    rintro e w2 ⟨rfl, hb2⟩
    rw [HTF.out]
    have hb4 := hb3.trans ((hb1.trans (hb2.mono hb1.size)).mono hb3.size)
    clear hb1 hb2 hb3 hx
    go_wp2_with fail
    refine (awake_any _).mono ?_
    rintro e w3 ⟨rfl, hb3⟩
    have hb6 := hb4.trans (hb3.mono hb4.size)
    clear hb4 hb3
    go_wp2_with fail
    go_ret
    exact ⟨rfl, hb6⟩

end Go.Proofs.Ytcgmagoieanloaa
