/-
  Contracts of frame.Wrap, frame.Take and of the document's answers for them.
-/
import Derived.Test.YthllpiohdkcecaaDoorFramePlain
import Derived.Test.YthllpiohdkcecaaDoorPkText
import Derived.Test.YthllpiohdkcecaaDoorPkRefTake
import Derived.Test.YthllpiohdkcecaaDoorCkOpen
namespace Go.Proofs.YthllpiohdkcecaaDoor
open Go.RowKit

/-- A body's frame. -/
def frS (b : ByteArray) : ByteArray := sealS (textS b)
theorem textS_list (b : ByteArray) : (textS b).data.toList = Fm.head b.data.toList := by
  unfold textS Fm.head
  rw [app_list, S_list, bytes_len]
theorem sealS_list (s : ByteArray) : (sealS s).data.toList = s.data.toList ++ Ck.four (Ck.sum s.data.toList) := by
  unfold sealS sumS sumN
  rw [app_list, S_list]
theorem frS_list (b : ByteArray) : (frS b).data.toList = Fm.fr b.data.toList := by
  unfold frS Fm.fr
  rw [sealS_list, textS_list]
theorem frS_S (l : List UInt8) : frS (S l) = S (Fm.fr l) := by
  apply bytes_inj
  rw [frS_list, S_list, S_list]
theorem frS_size (b : ByteArray) : (frS b).size = (Pk.enc b.size).length + b.size + 4 := by
  rw [← bytes_len (frS b), frS_list, Fm.fr_len, bytes_len]

set_option maxRecDepth 100000 in
set_option maxHeartbeats 400000 in
theorem Wrap_any (b : ByteArray) (w : World) (hb : b.size ≤ 1048576) (hT : TabAt w) :
    Calls Tryd.prog 11 #[.string b] w fun e w' => e = .returned (.tuple #[.string (frS b), .int .i64 0]) ∧ Below w.heap.size w w' := by
  have HT := Lib.hid hT
  clear hT
  have hs := textS_size b (by omega)
  have HF : Hid (frS b = sealS (textS b)) := rfl
  go_enter Tryd.func11, Tryd.ntmps11
  go_wp2_with fail
  refine (Text_any b _ (by omega)).mono ?_
  rintro e w1 ⟨rfl, hb1⟩
  generalize textS b = t at *
  go_wp2_with fail
  refine (Seal_any t _ (by omega) (HT.out.next hb1)).mono ?_
  rintro e w2 ⟨rfl, hb2⟩
  have hbb := hb1.trans (hb2.mono hb1.size)
  clear hb1 hb2
  go_wp2_with fail
  go_ret2
  exact ⟨by rw [HF.out]; rfl, hbb⟩

set_option maxRecDepth 100000 in
set_option maxHeartbeats 400000 in
theorem Wrap_long (b : ByteArray) (w : World) (hs : b.size ≤ 9223372036854775807) (hb : 1048576 < b.size) :
    Calls Tryd.prog 11 #[.string b] w fun e w' => e = .returned (.tuple #[.string { data := #[] }, .int .i64 5]) ∧ Below w.heap.size w w' := by
  go_enter Tryd.func11, Tryd.ntmps11
  go_wp2_with fail
  go_ret2
  exact ⟨rfl, Below.refl _ _⟩

set_option maxRecDepth 100000 in
set_option maxHeartbeats 400000 in
theorem refWrap_any (b : ByteArray) (w : World) (hb : b.size ≤ 140737488351232) :
    Calls Tryd.prog 12 #[.string b] w fun e w' => e = .returned (.string (frS b)) ∧ Below w.heap.size w w' := by
  have hs := textS_size b hb
  have HF : Hid (frS b = sealS (textS b)) := rfl
  go_enter Tryd.func12, Tryd.ntmps12
  go_wp2_with fail
  refine (refText_any b _ hb).mono ?_
  rintro e w1 ⟨rfl, hb1⟩
  generalize textS b = t at *
  go_wp2_with fail
  refine (refOf_any t _ (by omega)).mono ?_
  rintro e w2 ⟨rfl, rfl⟩
  have hl := sumN_lt t
  have HE : Hid (sealS t = t ++ S (Ck.four (sumN t))) := rfl
  have h4 : (S (Ck.four (sumN t))).size = 4 := by rw [S_size, Ck.four_length]
  generalize sumN t = n at *
  go_wp2_with fail
  refine (refFour_any n _ hl).mono ?_
  rintro e w2 ⟨rfl, hb2⟩
  generalize S (Ck.four n) = x at *
  have h5 : ¬ (t.size + x.size > 9223372036854775807) := by omega
  have hbb := hb1.trans (hb2.mono hb1.size)
  clear hb1 hb2 h4
  go_wp2_with fail
  go_ret
  exact ⟨by rw [HF.out, HE.out]; rfl, hbb⟩

/-! ### Taking a frame -/
/-- The frame at the beginning of s: its body, what stands behind it, the error's number. -/
def tkF (s : ByteArray) : ByteArray × ByteArray × Nat := (S (Fm.takeF s.data.toList).1, S (Fm.takeF s.data.toList).2.1, (Fm.takeF s.data.toList).2.2)

theorem tkF_err {s : ByteArray} (h : (tk s).2.2 ≠ 0) : tkF s = ({ data := #[] }, { data := #[] }, (tk s).2.2) := by
  unfold tkF; rw [Fm.takeF_err h]; rfl
theorem tkF_long {s : ByteArray} {n : Nat} {r : List UInt8} (h : tk s = (n, r, 0)) (h1 : 1048576 < n) : tkF s = ({ data := #[] }, { data := #[] }, 3) := by
  unfold tkF; rw [Fm.takeF_long h h1]; rfl
theorem tkF_short {s : ByteArray} {n : Nat} {r : List UInt8} (h : tk s = (n, r, 0)) (h1 : ¬ 1048576 < n) (h2 : r.length < n + 4) : tkF s = ({ data := #[] }, { data := #[] }, 2) := by
  unfold tkF; rw [Fm.takeF_short h h1 h2]; rfl

/-- Where the number ends: the whole is its digits and the rest. -/
theorem tk_whole {s : ByteArray} {n : Nat} {r : List UInt8} (h : tk s = (n, r, 0)) : s.data.toList = Pk.enc n ++ r ∧ n < 9223372036854775808 := by
  have h0 : (Pk.take s.data.toList).2.2 = 0 := by show (tk s).2.2 = 0; rw [h]
  have h1 := Pk.take_ok h0
  have h2 : Pk.take s.data.toList = (n, r, 0) := h
  rw [h2] at h1
  exact ⟨h1.1.symm, h1.2⟩
theorem tk_size {s : ByteArray} {n : Nat} {r : List UInt8} (h : tk s = (n, r, 0)) : s.size = (Pk.enc n).length + r.length := by
  rw [← bytes_len s, (tk_whole h).1, List.length_append]

/-- The document's way: the body wrapped again. -/
theorem tkF_ref_good {s : ByteArray} {n : Nat} {r : List UInt8} (h : tk s = (n, r, 0)) (h1 : ¬ 1048576 < n) (h2 : ¬ r.length < n + 4)
    (h3 : frS (S (r.take n)) = s.extract 0 (frS (S (r.take n))).size) : tkF s = (S (r.take n), s.extract (frS (S (r.take n))).size s.size, 0) := by
  rw [frS_S, S_size, extract_front] at h3
  unfold tkF
  rw [Fm.takeF_good h h1 h2 (S_inj h3), frS_S, S_size, extract_back]
theorem tkF_ref_bad {s : ByteArray} {n : Nat} {r : List UInt8} (h : tk s = (n, r, 0)) (h1 : ¬ 1048576 < n) (h2 : ¬ r.length < n + 4)
    (h3 : ¬ frS (S (r.take n)) = s.extract 0 (frS (S (r.take n))).size) : tkF s = ({ data := #[] }, { data := #[] }, 4) := by
  rw [frS_S, S_size, extract_front] at h3
  unfold tkF
  rw [Fm.takeF_sum h h1 h2 (fun e => h3 (congrArg S e))]; rfl

/-- The program's way: what stands there opened. -/
theorem op_whole {s : ByteArray} {n : Nat} {r : List UInt8} (h : tk s = (n, r, 0)) (h2 : ¬ r.length < n + 4) (fin : Nat) (hf : fin = (Pk.enc n).length + n + 4) :
    (s.extract 0 fin).size = fin ∧ ((s.extract 0 fin).extract 0 ((s.extract 0 fin).size - 4)) = textS (S (r.take n)) ∧
    (frS (S (r.take n)) = s.extract 0 (frS (S (r.take n))).size ↔ (s.extract 0 fin).extract ((s.extract 0 fin).size - 4) (s.extract 0 fin).size = sumS ((s.extract 0 fin).extract 0 ((s.extract 0 fin).size - 4))) := by
  have hs := tk_size h
  have hw := (tk_whole h).1
  have h0 : (s.extract 0 fin).size = fin := by rw [ByteArray.size_extract]; omega
  have hrn : (r.take n).length = n := by rw [List.length_take]; omega
  have ht : (s.extract 0 fin).extract 0 (fin - 4) = textS (S (r.take n)) := by
    apply bytes_inj
    rw [textS_list, extract_list, extract_list, hw, S_list]
    simp only [List.drop_zero, Nat.sub_zero]
    rw [List.take_take, show min (fin - 4) fin = (Pk.enc n).length + n by omega, List.take_length_add_append]
    unfold Fm.head
    rw [hrn]
  have hfs : (frS (S (r.take n))).size = fin := by rw [frS_size, S_size, hrn]; omega
  refine ⟨h0, by rw [h0]; exact ht, ?_⟩
  rw [h0, ht, hfs]
  have hsplit : s.extract 0 fin = textS (S (r.take n)) ++ (s.extract 0 fin).extract (fin - 4) fin := by
    apply bytes_inj
    rw [app_list, ← ht, extract_list _ 0 (fin - 4), extract_list _ (fin - 4) fin]
    simp only [List.drop_zero, Nat.sub_zero]
    have : ((s.extract 0 fin).data.toList.drop (fin - 4)).length ≤ fin - (fin - 4) := by rw [List.length_drop, bytes_len, h0]; omega
    rw [List.take_of_length_le this, List.take_append_drop]
  constructor
  · intro e
    rw [← e] at hsplit ⊢
    unfold frS sealS at hsplit
    have := congrArg (fun b : ByteArray => b.data.toList) hsplit
    simp only [app_list] at this
    apply bytes_inj
    exact (List.append_cancel_left this).symm
  · intro e
    rw [hsplit, e]; rfl
theorem tkF_good {s : ByteArray} {n : Nat} {r : List UInt8} (h : tk s = (n, r, 0)) (h1 : ¬ 1048576 < n) (h2 : ¬ r.length < n + 4) (fin : Nat) (hf : fin = (Pk.enc n).length + n + 4)
    (h3 : (op (s.extract 0 fin)).2 = 0) :
    (op (s.extract 0 fin)).1.size = fin - 4 ∧ tkF s = ((op (s.extract 0 fin)).1.extract (Pk.enc n).length (op (s.extract 0 fin)).1.size, s.extract fin s.size, 0) := by
  obtain ⟨h0, ht, hi⟩ := op_whole h h2 fin hf
  have h4 : ¬ (s.extract 0 fin).size < 4 := by omega
  have hrn : (r.take n).length = n := by rw [List.length_take]; omega
  have hfs : (frS (S (r.take n))).size = fin := by rw [frS_size, S_size, hrn]; omega
  by_cases he : (s.extract 0 fin).extract ((s.extract 0 fin).size - 4) (s.extract 0 fin).size = sumS ((s.extract 0 fin).extract 0 ((s.extract 0 fin).size - 4))
  · rw [op_good h4 he, ht]
    have hz : (textS (S (r.take n))).size = fin - 4 := by
      unfold textS; rw [ByteArray.size_append, S_size, S_size, hrn]; omega
    have hE : (textS (S (r.take n))).extract (Pk.enc n).length (textS (S (r.take n))).size = S (r.take n) := by
      apply bytes_inj
      rw [extract_back, textS_list, S_list, S_list]
      unfold Fm.head
      rw [hrn, List.drop_left]
    have hR := tkF_ref_good h h1 h2 (hi.2 he)
    rw [hfs] at hR
    generalize textS (S (r.take n)) = t at *
    generalize S (r.take n) = b at *
    refine ⟨hz, ?_⟩
    rw [hR]
    dsimp only
    rw [hE]
  · rw [op_bad h4 he] at h3
    exact absurd h3 (by simp)
theorem tkF_bad {s : ByteArray} {n : Nat} {r : List UInt8} (h : tk s = (n, r, 0)) (h1 : ¬ 1048576 < n) (h2 : ¬ r.length < n + 4) (fin : Nat) (hf : fin = (Pk.enc n).length + n + 4)
    (h3 : (op (s.extract 0 fin)).2 ≠ 0) : tkF s = ({ data := #[] }, { data := #[] }, (op (s.extract 0 fin)).2) := by
  obtain ⟨h0, ht, hi⟩ := op_whole h h2 fin hf
  have h4 : ¬ (s.extract 0 fin).size < 4 := by omega
  by_cases he : (s.extract 0 fin).extract ((s.extract 0 fin).size - 4) (s.extract 0 fin).size = sumS ((s.extract 0 fin).extract 0 ((s.extract 0 fin).size - 4))
  · rw [op_good h4 he] at h3
    exact absurd rfl h3
  · rw [op_bad h4 he, tkF_ref_bad h h1 h2 (fun e => he (hi.1 e))]

def FTakePost (s : ByteArray) (w : World) (e : Ending) (w' : World) : Prop :=
  e = .returned (.tuple #[.string (tkF s).1, .string (tkF s).2.1, .int .i64 ((tkF s).2.2 : Int)]) ∧ Below w.heap.size w w'

/-- What layer 1's Take answers, told by its parts. -/
theorem Take_is {s : ByteArray} {w : World} {n q : Nat} {r : List UInt8} (hs : s.size ≤ 9223372036854775807) (h : tk s = (n, r, q)) :
    Calls Tryd.prog 24 #[.string s] w fun e w' => e = .returned (.tuple #[.int .i64 (n : Int), .string (S r), .int .i64 (q : Int)]) ∧ Below w.heap.size w w' := by
  have := Take_any s w hs
  unfold TakePost at this
  rw [h] at this
  exact this
theorem refTake_is {s : ByteArray} {w : World} {n q : Nat} {r : List UInt8} (hs : s.size ≤ 9223372036854775807) (h : tk s = (n, r, q)) :
    Calls Tryd.prog 26 #[.string s] w fun e w' => e = .returned (.tuple #[.int .i64 (n : Int), .string (S r), .int .i64 (q : Int)]) ∧ Below w.heap.size w w' := by
  have := refTake_any s w hs
  unfold TakePost at this
  rw [h] at this
  exact this

set_option maxRecDepth 100000 in
set_option maxHeartbeats 1000000 in
theorem FTake_any (s : ByteArray) (w : World) (hs : s.size ≤ 9223372036854775807) (hT : TabAt w) :
    Calls Tryd.prog 13 #[.string s] w (FTakePost s w) := by
  have HT := Lib.hid hT
  clear hT
  rcases htk : tk s with ⟨n, r, q⟩
  by_cases h0 : q = 0
  · subst h0
    have hsz := tk_size htk
    have hn63 := (tk_whole htk).2
    have hl9 := Pk.enc_len9 hn63
    have hS : (S r).size = r.length := S_size r
    by_cases h1 : 1048576 < n
    · have HK := Lib.hid (tkF_long htk h1)
      have HC := Lib.hid htk
      clear htk
      go_enter Tryd.func13, Tryd.ntmps13
      go_wp2_with fail
      refine (Take_is hs HC.out).mono ?_
      rintro e w1 ⟨rfl, hb1⟩
      generalize S r = x at *
      go_wp2_with fail
      go_ret3
      exact ⟨by rw [HK.out]; rfl, hb1⟩
    · by_cases h2 : r.length < n + 4
      · have HK := Lib.hid (tkF_short htk h1 h2)
        have HC := Lib.hid htk
        clear htk
        generalize Pk.enc n = d at *
        go_enter Tryd.func13, Tryd.ntmps13
        go_wp2_with fail
        refine (Take_is hs HC.out).mono ?_
        rintro e w1 ⟨rfl, hb1⟩
        generalize S r = x at *
        go_wp2_with fail
        go_ret3
        exact ⟨by rw [HK.out]; rfl, hb1⟩
      · have HG := Lib.hid (fun h3 => tkF_good htk h1 h2 ((Pk.enc n).length + n + 4) rfl h3)
        have HB := Lib.hid (fun h3 => tkF_bad htk h1 h2 ((Pk.enc n).length + n + 4) rfl h3)
        have HC := Lib.hid htk
        clear htk
        have hxs : (s.extract 0 ((Pk.enc n).length + n + 4)).size ≤ s.size := by rw [ByteArray.size_extract]; omega
        generalize Pk.enc n = d at *
        go_enter Tryd.func13, Tryd.ntmps13
        go_wp2_with fail
        refine (Take_is hs HC.out).mono ?_
        rintro e w1 ⟨rfl, hb1⟩
        generalize S r = x at *
        have e1 : (s.size : Int) - (x.size : Int) = (d.length : Int) := by omega
        have hfin : d.length + n + 4 ≤ s.size := by omega
        have e2 : ((d.length : Int) + (n : Int) + 4) = ((d.length + n + 4 : Nat) : Int) := by omega
        obtain ⟨fin, hfd⟩ : ∃ fin, fin = d.length + n + 4 := ⟨_, rfl⟩
        rw [← hfd] at HG HB hxs hfin e2
        have HFD := Lib.hid hfd
        clear hfd
        clear hS hsz
        go_wp2_with fail
        have hO := Open_any (s.extract 0 fin) w1 (by omega) (HT.out.next hb1)
        unfold OpenPost at hO
        generalize s.extract 0 fin = y at *
        rcases hop : op y with ⟨o, k⟩
        rw [hop] at hO
        by_cases hk : k = 0
        · subst hk
          have hg := HG.out (by rw [hop])
          rw [hop] at hg
          obtain ⟨hg1, hg2⟩ := hg
          replace hg1 : o.size = fin - 4 := hg1
          have HK := Lib.hid hg2
          have q1 : (d.length : Int) ≤ (o.size : Int) := by have := HFD.out; omega
          have q2 : (fin : Int) ≤ (s.size : Int) := by omega
          clear hg1 hg2 hop
          refine hO.mono ?_
          rintro e w2 ⟨rfl, hb2⟩
          have hbb := hb1.trans (hb2.mono hb1.size)
          clear hb1 hb2 hO
          go_wp2_with fail
          go_quiet (fail)
          go_wp2_with fail
          go_ret3
          exact ⟨by rw [HK.out]; rfl, hbb.trans (Joins.below_draws _ _ _)⟩
        · have hg := HB.out (by rw [hop]; exact hk)
          rw [hop] at hg
          have HK := Lib.hid hg
          have h3 : ((k : Int) == 0) = false := by rw [beq_eq_false_iff_ne]; omega
          clear hg hop
          refine hO.mono ?_
          rintro e w2 ⟨rfl, hb2⟩
          have hbb := hb1.trans (hb2.mono hb1.size)
          clear hb1 hb2 hO
          go_wp2_with fail
          go_ret3
          exact ⟨by rw [HK.out]; rfl, hbb⟩
  · have hq : (tk s).2.2 ≠ 0 := by rw [htk]; exact h0
    have HK := Lib.hid (tkF_err hq)
    have HC := Lib.hid htk
    have h3 : ((q : Int) == 0) = false := by rw [beq_eq_false_iff_ne]; omega
    clear hq h0 htk
    go_enter Tryd.func13, Tryd.ntmps13
    go_wp2_with fail
    refine (Take_is hs HC.out).mono ?_
    rintro e w1 ⟨rfl, hb1⟩
    go_wp2_with fail
    go_ret3
    exact ⟨by rw [HK.out, HC.out]; rfl, hb1⟩

end Go.Proofs.YthllpiohdkcecaaDoor
