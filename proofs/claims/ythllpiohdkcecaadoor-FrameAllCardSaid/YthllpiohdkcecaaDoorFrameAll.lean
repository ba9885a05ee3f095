/-
  Contracts of frame.All and of the document's All, and the walk of FrameAll.
-/
import Derived.Test.YthllpiohdkcecaaDoorFrameRows
namespace Go.Proofs.YthllpiohdkcecaaDoor
open Go.RowKit

/-- The bodies of all frames at the beginning, and how many bytes these frames have. -/
def allS (s : ByteArray) : List ByteArray := (Fm.all s.data.toList).map S
def usedN (s : ByteArray) : Nat := s.size - (Fm.last s.data.toList).length

theorem last_len (l : List UInt8) : (Fm.last l).length ≤ l.length := by
  have : ∀ (f : Nat) (l : List UInt8), (Fm.lastN f l).length ≤ l.length := by
    intro f
    induction f with
    | zero => intro l; exact Nat.le_refl _
    | succ f ih =>
      intro l
      unfold Fm.lastN
      by_cases h : (Fm.takeF l).2.2 = 0
      · rw [if_pos h]
        have h1 := ih (Fm.takeF l).2.1
        have h2 := Fm.takeF_lt h
        omega
      · rw [if_neg h]; exact Nat.le_refl _
  exact this _ l

/-- What the walk knows behind some frames: the bodies l, the rest r. -/
def AllRel (s : ByteArray) (l : List (List UInt8)) (r : List UInt8) : Prop :=
  l ++ Fm.all r = Fm.all s.data.toList ∧ Fm.last r = Fm.last s.data.toList ∧ r.length + 5 * l.length ≤ s.size
theorem allRel_start (s : ByteArray) : AllRel s [] s.data.toList := ⟨rfl, rfl, by simp⟩
theorem allRel_next {s : ByteArray} {l : List (List UInt8)} {r b t : List UInt8} (h : AllRel s l r) (ht : Fm.takeF r = (b, t, 0)) : AllRel s (l ++ [b]) t := by
  obtain ⟨h1, h2, h3⟩ := h
  have h4 := Fm.takeF_lt (l := r) (by rw [ht])
  rw [ht] at h4
  refine ⟨by rw [← h1, Fm.all_yes ht]; simp, by rw [← h2, Fm.last_yes ht], ?_⟩
  simp at h4 ⊢
  omega
theorem allRel_end {s : ByteArray} {l : List (List UInt8)} {r : List UInt8} (h : AllRel s l r) (ht : (Fm.takeF r).2.2 ≠ 0) : l.map S = allS s ∧ usedN s = s.size - r.length ∧ r.length ≤ s.size := by
  obtain ⟨h1, h2, h3⟩ := h
  rw [Fm.all_no ht, List.append_nil] at h1
  rw [Fm.last_no ht] at h2
  exact ⟨by unfold allS; rw [h1], by unfold usedN; rw [← h2], by omega⟩

/-- A text's size, where a value is one. -/
def strLen : Value → Nat
  | .string s => s.size
  | _ => 0

theorem FTake_is {s : ByteArray} {w : World} {b r : ByteArray} {q : Nat} (hs : s.size ≤ 9223372036854775807) (hT : TabAt w) (h : tkF s = (b, r, q)) :
    Calls Tryd.prog 13 #[.string s] w fun e w' => e = .returned (.tuple #[.string b, .string r, .int .i64 (q : Int)]) ∧ Below w.heap.size w w' := by
  have := FTake_any s w hs hT
  unfold FTakePost at this
  rw [h] at this
  exact this
theorem refFTake_is {s : ByteArray} {w : World} {b r : ByteArray} {q : Nat} (hs : s.size ≤ 9223372036854775807) (h : tkF s = (b, r, q)) :
    Calls Tryd.prog 14 #[.string s] w fun e w' => e = .returned (.tuple #[.string b, .string r, .int .i64 (q : Int)]) ∧ Below w.heap.size w w' := by
  have := refFTake_any s w hs
  unfold FTakePost at this
  rw [h] at this
  exact this

theorem strs_oneCell (b : ByteArray) : ∀ u ∈ [Value.string b], u.oneCell' = true := by
  intro u hu
  rw [List.mem_singleton] at hu
  subst hu
  rfl

set_option maxRecDepth 100000 in
set_option maxHeartbeats 1000000 in
theorem All_any (s : ByteArray) (w : World) (hs : s.size ≤ 100000) (hT : TabAt w) :
    Calls Tryd.prog 15 #[.string s] w fun e w' => ∃ v, e = .returned (.tuple #[v, .int .i64 (usedN s : Nat)]) ∧ OwnsS w' w.heap.size v (allS s) ∧ Below w.heap.size w w' := by
  have HT := Lib.hid hT
  clear hT
  obtain ⟨i0, hi, hz0, hz1, hz2⟩ := info_parts info_string
  go_enter Tryd.func15, Tryd.ntmps15
  go_wp2_with fail
  go_loopw [4, 5, 6, 7, 8] (fun v i _ _ _ wr => ∃ (l : List (List UInt8)) (r : ByteArray), i = .string r ∧ Hid (AllRel s l r.data.toList) ∧ OwnsS wr w.heap.size v (l.map S) ∧ Below w.heap.size w wr) (fun _ i _ _ _ _ => strLen i)
  case atStart => exact ⟨[], s, rfl, allRel_start s, World.ownsRow_nil _ _ _ _, Below.refl _ _⟩
  case round =>
    obtain ⟨l, r, rfl, hrel, ho, hb⟩ := hrel
    have hrl : r.size + 5 * l.length ≤ s.size := by have := hrel.out.2.2; rw [bytes_len] at this; exact this
    have HT1 := Lib.hid (HT.out.next hb)
    rcases ht : Fm.takeF r.data.toList with ⟨b, t, q⟩
    have hk : tkF r = (S b, S t, q) := by unfold tkF; rw [ht]
    have HK := Lib.hid hk
    clear hk
    by_cases hq : q = 0
    · subst hq
      have hlt := Fm.takeF_lt (l := r.data.toList) (by rw [ht])
      rw [ht, bytes_len] at hlt
      replace hlt : t.length + 5 ≤ r.size := hlt
      have HN := Lib.hid (allRel_next hrel.out ht)
      have hts : (S t).size = t.length := S_size t
      clear ht hrel
      go_wp2_with fail
      refine (FTake_is (by omega) HT1.out HK.out).mono ?_
      rintro e w1 ⟨rfl, hb1⟩
      have hbb := hb.trans (hb1.mono hb.size)
      have ho1 : OwnsS w1 w.heap.size u4 (l.map S) := owns_next ho hb1
      have ho' : w1.ownsRow w.heap.size 9 1 u4 l.length (strsV (l.map S)) := by have := ho1; unfold OwnsS at this; rw [List.length_map] at this; exact this
      have hsz := hbb.size
      clear hb hb1 ho
      generalize hbd : S b = bs at *
      generalize htd : S t = ts at *
      have HB := Lib.hid hbd
      have HTD := Lib.hid htd
      clear hbd htd
      go_wp2_with (at_builtin; refine wpList_append_own _ rfl (.tmp 24) (.tmp 26) 35 rfl w.heap.size 9 i0 (.string { data := #[] }) 1 16 Tryd.underlying35 hi hz0 hz1 hz2 rfl (by decide) _ _ _ rfl (ho'.alloc _) ⟨w1.heap.size, 0, none⟩ 1 1 [.string bs] rfl rfl (cell_one_new _ _ _) (strs_oneCell bs) (by unfold maxLen; omega) (by omega) (by simp; omega) ?_; intro v' w2 hown1 hgrow1 _)
      have hb1 := (hbb.alloc (by omega) _).grown hgrow1 (by simp; omega) (fun k hk => (ho'.lt k hk).1)
      have ho2 := hown1
      rw [strsV_snoc] at ho2
      have HO : OwnsS w2 w.heap.size v' ((l ++ [b]).map S) := by
        rw [← HB.out] at ho2
        simpa [OwnsS] using ho2
      clear ho2 hown1 hgrow1
      refine ⟨⟨l ++ [b], ts, rfl, ?_, HO, hb1⟩, ?_⟩
      · show AllRel s (l ++ [b]) ts.data.toList
        rw [← HTD.out]
        exact HN.out
      · show ts.size < r.size
        omega
    · have hqi : ((q : Int) == 0) = false := by rw [beq_eq_false_iff_ne]; omega
      obtain ⟨h1, h2, h3⟩ := allRel_end hrel.out (by rw [ht]; exact hq)
      rw [bytes_len] at h2 h3
      have HE := Lib.hid h2
      have h4 : ((s.size - r.size : Nat) : Int) = (s.size : Int) - (r.size : Int) := by omega
      have HE2 := Lib.hid h4
      have HL := Lib.hid h1
      clear ht hrel h1 h2 h4
      go_wp2_with fail
      refine (FTake_is (by omega) HT1.out HK.out).mono ?_
      rintro e w1 ⟨rfl, hb1⟩
      have hbb := hb.trans (hb1.mono hb.size)
      have ho1 : OwnsS w1 w.heap.size u4 (l.map S) := owns_next ho hb1
      rw [HL.out] at ho1
      clear hb hb1 ho
      go_wp2_with fail
      go_ret2
      exact ⟨u4, by rw [HE.out, HE2.out]; rfl, ho1, hbb⟩

theorem drop_list (s : ByteArray) (k : Nat) : (s.extract k s.size).data.toList = s.data.toList.drop k := by
  rw [extract_back, S_list]

set_option maxRecDepth 100000 in
set_option maxHeartbeats 1000000 in
theorem refAll_any (s : ByteArray) (w : World) (hs : s.size ≤ 100000) :
    Calls Tryd.prog 16 #[.string s] w fun e w' => ∃ v, e = .returned (.tuple #[v, .int .i64 (usedN s : Nat)]) ∧ OwnsS w' w.heap.size v (allS s) ∧ Below w.heap.size w w' := by
  obtain ⟨i0, hi, hz0, hz1, hz2⟩ := info_parts info_string
  go_enter Tryd.func16, Tryd.ntmps16
  go_wp2_with fail
  go_loopw [4, 5, 6, 7, 8] (fun v i _ _ _ wr => ∃ (l : List (List UInt8)) (k : Nat), k ≤ s.size ∧ i = .int .i64 k ∧ Hid (AllRel s l (s.data.toList.drop k)) ∧ OwnsS wr w.heap.size v (l.map S) ∧ Below w.heap.size w wr) (fun _ i _ _ _ _ => s.size - (intOf i).toNat)
  case atStart => exact ⟨[], 0, Nat.zero_le _, rfl, allRel_start s, World.ownsRow_nil _ _ _ _, Below.refl _ _⟩
  case round =>
    obtain ⟨l, k, hks, rfl, hrel, ho, hb⟩ := hrel
    have hrs : (s.extract k s.size).size = s.size - k := by rw [ByteArray.size_extract]; omega
    have hrd := drop_list s k
    have hx : s.extract k s.size = s.extract k s.size := rfl
    generalize hr : s.extract k s.size = r at *
    have HR := Lib.hid hr
    rw [← hrd] at hrel
    have HRD := Lib.hid hrd
    clear hr hrd hx
    have hrl : r.size + 5 * l.length ≤ s.size := by have := hrel.out.2.2; rw [bytes_len] at this; exact this
    have hki : (k : Int) ≤ (s.size : Int) := by omega
    rcases ht : Fm.takeF r.data.toList with ⟨b, t, q⟩
    have hk : tkF r = (S b, S t, q) := by unfold tkF; rw [ht]
    have HK := Lib.hid hk
    clear hk
    by_cases hq : q = 0
    · subst hq
      obtain ⟨hfk, hfl⟩ := Fm.takeF_ok (l := r.data.toList) (by rw [ht])
      rw [ht] at hfk hfl
      replace hfk : r.data.toList = Fm.fr b ++ t := hfk
      have hlen := congrArg List.length hfk
      rw [List.length_append, bytes_len] at hlen
      have hp := Fm.fr_pos b
      have hfs : (frS (S b)).size = (Fm.fr b).length := by rw [frS_S, S_size]
      have hnext := allRel_next hrel.out ht
      have hd2 : t = s.data.toList.drop (k + (Fm.fr b).length) := by
        have e1 := HRD.out
        rw [hfk] at e1
        rw [← List.drop_drop, ← e1, List.drop_left]
      rw [hd2] at hnext
      have HN := Lib.hid hnext
      clear hnext hd2 ht hrel hfk
      have hbz : (S b).size ≤ 140737488351232 := by rw [S_size]; have : b.length ≤ 1048576 := hfl; omega
      clear hfl
      generalize hfd : (Fm.fr b).length = f at *
      have HFD := Lib.hid hfd
      clear hfd
      go_wp2_with fail
      rw [HR.out]
      refine (refFTake_is (by omega) HK.out).mono ?_
      rintro e w1 ⟨rfl, hb1⟩
      have hbb := hb.trans (hb1.mono hb.size)
      have ho1 : OwnsS w1 w.heap.size u4 (l.map S) := owns_next ho hb1
      have ho' : w1.ownsRow w.heap.size 9 1 u4 l.length (strsV (l.map S)) := by have := ho1; unfold OwnsS at this; rw [List.length_map] at this; exact this
      have hsz := hbb.size
      clear hb hb1 ho
      generalize hbd : S b = bs at *
      have HB := Lib.hid hbd
      clear hbd
      generalize S t = ts at *
      go_wp2_with (at_builtin; refine wpList_append_own _ rfl (.tmp 21) (.tmp 23) 35 rfl w.heap.size 9 i0 (.string { data := #[] }) 1 16 Tryd.underlying35 hi hz0 hz1 hz2 rfl (by decide) _ _ _ rfl (ho'.alloc _) ⟨w1.heap.size, 0, none⟩ 1 1 [.string bs] rfl rfl (cell_one_new _ _ _) (strs_oneCell bs) (by unfold maxLen; omega) (by omega) (by simp; omega) ?_; intro v' w2 hown1 hgrow1 _)
      have hb1 := (hbb.alloc (by omega) _).grown hgrow1 (by simp; omega) (fun k hk => (ho'.lt k hk).1)
      have ho2 := hown1
      rw [strsV_snoc] at ho2
      have HO : OwnsS w2 w.heap.size v' ((l ++ [b]).map S) := by
        rw [← HB.out] at ho2
        simpa [OwnsS] using ho2
      clear ho2 hown1 hgrow1 hbb
      refine (refWrap_any bs _ hbz).mono ?_
      rintro e w3 ⟨rfl, hb3⟩
      have HO3 : OwnsS w3 w.heap.size v' ((l ++ [b]).map S) := owns_next HO hb3
      have hb4 := hb1.trans (hb3.mono hb1.size)
      clear hb3 hb1 HO
      generalize frS bs = fs at *
      go_wp2_with fail
      refine ⟨⟨l ++ [b], k + f, by omega, by go_num, HN.out, HO3, hb4⟩, ?_⟩
      simp [intOf]; omega
    · have hqi : ((q : Int) == 0) = false := by rw [beq_eq_false_iff_ne]; omega
      obtain ⟨h1, h2, h3⟩ := allRel_end hrel.out (by rw [ht]; exact hq)
      rw [bytes_len, hrs] at h2
      have h4 : usedN s = k := by omega
      have HE := Lib.hid h4
      have HL := Lib.hid h1
      clear ht hrel h1 h2 h3 h4
      go_wp2_with fail
      rw [HR.out]
      refine (refFTake_is (by omega) HK.out).mono ?_
      rintro e w1 ⟨rfl, hb1⟩
      have hbb := hb.trans (hb1.mono hb.size)
      have ho1 : OwnsS w1 w.heap.size u4 (l.map S) := owns_next ho hb1
      rw [HL.out] at ho1
      clear hb hb1 ho
      go_wp2_with fail
      go_ret2
      exact ⟨u4, by rw [HE.out]; rfl, ho1, hbb⟩

set_option maxRecDepth 100000 in
set_option maxHeartbeats 400000 in
theorem frameAll_walk (w : World) (hT : TabAt w) (s : ByteArray) (hs : s.size ≤ 140737488351232) :
    Calls Tryd.prog 6 #[.string s] w fun e w' => e = .returned (.bool true) ∧ Below w.heap.size w w' := by
  have HT := Lib.hid hT
  clear hT
  by_cases h : 4096 < s.size
  · go_enter Tryd.func6, Tryd.ntmps6
    go_wp2_with fail
    refine (frameAwake_any _ HT.out).mono ?_
    rintro e w1 ⟨rfl, hb1⟩
    go_wp2_with fail
    go_ret
    exact ⟨rfl, hb1⟩
  · go_enter Tryd.func6, Tryd.ntmps6
    go_wp2_with fail
    refine (All_any s _ (by omega) HT.out).mono ?_
    rintro e w1 ⟨v1, rfl, ho1, hb1⟩
    have HT1 := Lib.hid (HT.out.next hb1)
    go_wp2_with fail
    refine (refAll_any s _ (by omega)).mono ?_
    rintro e w2 ⟨v2, rfl, ho2, hb2⟩
    have HT2 := Lib.hid (HT1.out.next hb2)
    have hs1 := ho1.strs.next hb2
    have hs2 := ho2.strs
    have hb := hb1.trans (hb2.mono hb1.size)
    clear hb1 hb2 ho1 ho2
    generalize usedN s = n
    go_wp2_with fail
    refine (Same_any _ _ _ _ _ hs1 hs2).mono ?_
    rintro e w3 ⟨rfl, hb3⟩
    rw [sameB_yes rfl]
    have HT3 := Lib.hid (HT2.out.next hb3)
    have hbb := hb.trans (hb3.mono hb.size)
    clear hb hb3
    go_wp2_with fail
    refine (frameAwake_any _ HT3.out).mono ?_
    rintro e w4 ⟨rfl, hb4⟩
    have hbc := hbb.trans (hb4.mono hbb.size)
    clear hbb hb4
    go_wp2_with fail
    go_ret
    exact ⟨rfl, hbc⟩

end Go.Proofs.YthllpiohdkcecaaDoor
