/-
  The contract of the document's Small, and the walk of FrameRow.
-/
import Derived.Test.YthllpiohdkcecaaDoorFrameAll
namespace Go.Proofs.YthllpiohdkcecaaDoor
open Go.RowKit

/-- How many bytes texts have in all. -/
def tot (l : List ByteArray) : Nat := (l.map ByteArray.size).sum
theorem take_snocB (l : List ByteArray) (k : Nat) (h : k < l.length) : l.take (k + 1) = l.take k ++ [l.getD k ByteArray.empty] := by
  rw [List.take_succ_eq_append_getElem h]; simp [List.getD, h]
theorem tot_snoc (l : List ByteArray) (k : Nat) (h : k < l.length) : tot (l.take (k + 1)) = tot (l.take k) + (l.getD k ByteArray.empty).size := by
  rw [take_snocB l k h]; simp [tot]
theorem tot_append (a b : List ByteArray) : tot (a ++ b) = tot a + tot b := by simp [tot]
theorem tot_le (l : List ByteArray) (k : Nat) : tot (l.take k) ≤ tot l := by
  have := tot_append (l.take k) (l.drop k)
  rw [List.take_append_drop] at this; omega

def smallB (l : List ByteArray) : Bool := decide (l.length ≤ 20 ∧ tot l ≤ 4096)
theorem smallB_yes {l : List ByteArray} (h : l.length ≤ 20) (h2 : tot l ≤ 4096) : smallB l = true := by unfold smallB; exact decide_eq_true ⟨h, h2⟩
theorem smallB_no {l : List ByteArray} (h : ¬ (l.length ≤ 20 ∧ tot l ≤ 4096)) : smallB l = false := by unfold smallB; exact decide_eq_false h

set_option maxRecDepth 100000 in
set_option maxHeartbeats 400000 in
theorem Small_row (w : World) (b off cap n : Nat) (l : List ByteArray) (hl : l.length = n) (hn : n ≤ 20)
    (hc : ∀ i, i < n → w.cell? ⟨b, off + i, none⟩ = some (.string (l.getD i ByteArray.empty))) (hz : ∀ i, i < n → (l.getD i ByteArray.empty).size ≤ 9223372036854775807) :
    Calls Tryd.prog 18 #[.slice (some ⟨b, off, none⟩) n cap, .int .i64 20, .int .i64 4096] w fun e w' => e = .returned (.bool (smallB l)) ∧ w = w' := by
  have HL := Lib.hid hl
  have HC := Lib.hid hc
  have HZ := Lib.hid hz
  clear hl hc hz
  go_enter Tryd.func18, Tryd.ntmps18
  go_wp2_with fail
  go_loop [7, 8] (fun c i => ∃ k : Nat, k ≤ n ∧ i = .int .i64 k ∧ c = .int .i64 (tot (l.take k) : Nat) ∧ tot (l.take k) ≤ 4096) (fun _ i => n - (intOf i).toNat)
  case atStart => exact ⟨0, Nat.zero_le _, rfl, rfl, by simp [tot]⟩
  case round =>
    obtain ⟨k, hk, rfl, rfl, ht⟩ := hrel
    by_cases hlt : k < n
    · have c1 := HC.out k hlt
      have hz := HZ.out k hlt
      have HT := Lib.hid (tot_snoc l k (by rw [HL.out]; exact hlt))
      have HLE := Lib.hid (tot_le l (k + 1))
      obtain ⟨x, hx⟩ : ∃ x, x = l.getD k ByteArray.empty := ⟨_, rfl⟩
      rw [← hx] at c1 hz HT
      clear hx
      generalize hta : tot (l.take k) = a at *
      have HA := Lib.hid hta
      clear hta
      by_cases hx : 4096 < x.size
      · have HN := Lib.hid (smallB_no (l := l) (fun h => by have := HT.out; have := HLE.out; omega))
        go_wp2_with fail
        go_ret
        exact ⟨by rw [HN.out]; rfl, rfl⟩
      · by_cases hs : 4096 < a + x.size
        · have HN := Lib.hid (smallB_no (l := l) (fun h => by have := HT.out; have := HLE.out; omega))
          have hsi : (4096 : Int) < (a : Int) + (x.size : Int) := by omega
          go_wp2_with fail
          go_ret
          exact ⟨by rw [HN.out]; rfl, rfl⟩
        · have hsi : ¬ (4096 : Int) < (a : Int) + (x.size : Int) := by omega
          go_wp2_with fail
          go_round
          case rel => exact ⟨k + 1, by omega, by go_num, by rw [HT.out]; go_num, by rw [HT.out]; omega⟩
          case measure => simp [intOf]; omega
    · have HN := Lib.hid (smallB_yes (l := l) (by rw [HL.out]; exact hn) (by rw [List.take_of_length_le (by have := HL.out; omega)] at ht; exact ht))
      go_wp2_with fail
      go_ret
      exact ⟨by rw [HN.out]; rfl, rfl⟩

set_option maxRecDepth 100000 in
set_option maxHeartbeats 400000 in
theorem Small_none (w : World) (ao : Option Addr) (cap : Nat) :
    Calls Tryd.prog 18 #[.slice ao 0 cap, .int .i64 20, .int .i64 4096] w fun e w' => e = .returned (.bool true) ∧ w = w' := by
  go_enter Tryd.func18, Tryd.ntmps18
  go_wp2_with fail
  refine wp_loop_rounds 1 ?_
  rw [rounds_succ]
  go_wp2_with fail
  go_ret
  exact ⟨rfl, rfl⟩

set_option maxRecDepth 100000 in
set_option maxHeartbeats 400000 in
theorem Small_many (w : World) (ao : Option Addr) (n cap : Nat) (h : 20 < n) :
    Calls Tryd.prog 18 #[.slice ao n cap, .int .i64 20, .int .i64 4096] w fun e w' => e = .returned (.bool false) ∧ w = w' := by
  go_enter Tryd.func18, Tryd.ntmps18
  go_wp2_with fail
  go_ret
  exact ⟨rfl, rfl⟩

/-- Frames of texts, one behind the other. -/
def rowB (l : List ByteArray) : List UInt8 := Fm.row (l.map fun b => b.data.toList)
theorem rowB_append (a b : List ByteArray) : rowB (a ++ b) = rowB a ++ rowB b := by simp [rowB, Fm.row_append]
theorem rowB_snoc (l : List ByteArray) (k : Nat) (h : k < l.length) : rowB (l.take (k + 1)) = rowB (l.take k) ++ Fm.fr (l.getD k ByteArray.empty).data.toList := by
  rw [take_snocB l k h, rowB_append]
  simp [rowB, Fm.row]
theorem rowB_mono (l : List ByteArray) {a b : Nat} (h : a ≤ b) : (rowB (l.take a)).length ≤ (rowB (l.take b)).length := by
  have e : l.take b = l.take a ++ (l.take b).drop a := by
    have h1 := List.take_append_drop a (l.take b)
    rw [List.take_take, Nat.min_eq_left h] at h1
    exact h1.symm
  rw [e, rowB_append, List.length_append]; omega
theorem rowB_len : ∀ (l : List ByteArray), tot l ≤ 4096 → (rowB l).length ≤ tot l + 7 * l.length
  | [], _ => by simp [rowB, Fm.row]
  | b :: l, h => by
    have h1 : tot (b :: l) = b.size + tot l := by simp [tot]
    have h2 : rowB (b :: l) = Fm.fr b.data.toList ++ rowB l := by simp [rowB, Fm.row]
    have h3 := rowB_len l (by omega)
    have h4 := Fm.fr_le (b := b.data.toList) (by rw [bytes_len]; omega)
    rw [bytes_len] at h4
    rw [h2, List.length_append, h1, List.length_cons]; omega
theorem tot_mem {l : List ByteArray} {b : ByteArray} (h : b ∈ l) : b.size ≤ tot l := by
  induction l with
  | nil => cases h
  | cons a l ih =>
    have h1 : tot (a :: l) = a.size + tot l := by simp [tot]
    rcases List.mem_cons.1 h with e | e
    · subst e; omega
    · have := ih e; omega
theorem map_back (l : List ByteArray) : (l.map fun b => b.data.toList).map S = l := by
  rw [List.map_map]
  have : (S ∘ fun b : ByteArray => b.data.toList) = id := by funext b; rfl
  rw [this, List.map_id]

/-- How many frames are there as a whole ahead of the cut, so far. -/
def CutRel (l : List ByteArray) (cut : Int) (k m : Nat) : Prop :=
  m ≤ k ∧ (0 < m → ((rowB (l.take m)).length : Int) ≤ cut) ∧ (m < k → cut < ((rowB (l.take (m + 1))).length : Int))
theorem cutRel_yes {l : List ByteArray} {cut : Int} {k m : Nat} (h : CutRel l cut k m) (hc : ((rowB (l.take (k + 1))).length : Int) ≤ cut) : m = k ∧ CutRel l cut (k + 1) (k + 1) := by
  obtain ⟨h1, h2, h3⟩ := h
  refine ⟨?_, Nat.le_refl _, fun _ => hc, fun h => absurd h (Nat.lt_irrefl _)⟩
  rcases Nat.lt_or_ge m k with h4 | h4
  · have h5 := h3 h4
    have h6 := rowB_mono l (show m + 1 ≤ k + 1 by omega)
    omega
  · omega
theorem cutRel_no {l : List ByteArray} {cut : Int} {k m : Nat} (h : CutRel l cut k m) (hc : cut < ((rowB (l.take (k + 1))).length : Int)) : CutRel l cut (k + 1) m := by
  obtain ⟨h1, h2, h3⟩ := h
  refine ⟨by omega, h2, fun h4 => ?_⟩
  rcases Nat.lt_or_ge m k with h5 | h5
  · exact h3 h5
  · obtain rfl : m = k := by omega
    exact hc

theorem all_whole {l : List ByteArray} (h : tot l ≤ 4096) : allS (S (rowB l)) = l ∧ usedN (S (rowB l)) = (S (rowB l)).size := by
  have hb : ∀ b ∈ l.map (fun b => b.data.toList), b.length ≤ 1048576 := by
    intro b hb
    obtain ⟨x, hx, rfl⟩ := List.mem_map.1 hb
    have := tot_mem hx
    rw [bytes_len]; omega
  have h1 := Fm.all_row (l.map fun b => b.data.toList) [] hb Fm.takeF_nil
  rw [List.append_nil] at h1
  unfold allS usedN
  rw [S_list]
  unfold rowB
  rw [h1.1, h1.2, map_back]
  exact ⟨rfl, rfl⟩
theorem all_part {l : List ByteArray} {m c : Nat} (h : tot l ≤ 4096) (hr : CutRel l c l.length m) (hc : c ≤ (rowB l).length) :
    allS (S ((rowB l).take c)) = l.take m ∧ usedN (S ((rowB l).take c)) = (rowB (l.take m)).length := by
  obtain ⟨h1, h2, h3⟩ := hr
  have hb : ∀ b ∈ l.map (fun b => b.data.toList), b.length ≤ 1048576 := by
    intro b hb
    obtain ⟨x, hx, rfl⟩ := List.mem_map.1 hb
    have := tot_mem hx
    rw [bytes_len]; omega
  have ht : ∀ k, (l.map fun b => b.data.toList).take k = (l.take k).map fun b => b.data.toList := fun k => by rw [List.map_take]
  have h4 : (rowB (l.take m)).length ≤ c := by
    rcases Nat.eq_zero_or_pos m with h0 | h0
    · subst h0; simp [rowB, Fm.row]
    · have := h2 h0; omega
  have hc' : c ≤ (Fm.row (l.map fun b => b.data.toList)).length := hc
  have h5 := Fm.all_cut (bs := l.map fun b => b.data.toList) (k := m) (c := c) hb (by rw [ht]; exact h4) (fun hm => by
    rw [List.length_map] at hm
    rw [ht]
    have := h3 hm
    unfold rowB at this
    omega) hc'
  rw [ht] at h5
  unfold allS usedN
  rw [S_list, S_size]
  have e : Fm.row (l.map fun b => b.data.toList) = rowB l := rfl
  rw [e] at h5
  rw [h5.1, map_back]
  refine ⟨rfl, ?_⟩
  have h6 := h5.2
  have e2 : Fm.row ((l.take m).map fun b => b.data.toList) = rowB (l.take m) := rfl
  rw [e2] at h6
  rw [List.length_take]; omega

set_option maxRecDepth 100000 in
set_option maxHeartbeats 400000 in
theorem frameRow_big (w : World) (hT : TabAt w) (v : Value) (cut : Int) (hS : ∀ W, TabAt W → Below w.heap.size w W → Calls Tryd.prog 18 #[v, .int .i64 20, .int .i64 4096] W fun e w' => e = .returned (.bool false) ∧ W = w') :
    Calls Tryd.prog 7 #[v, .int .i64 cut] w fun e w' => e = .returned (.bool true) ∧ Below w.heap.size w w' := by
  have HT := Lib.hid hT
  have HS := Lib.hid hS
  clear hT hS
  go_enter Tryd.func7, Tryd.ntmps7
  go_wp2_with fail
  refine (HS.out _ HT.out (Below.refl _ _)).mono ?_
  rintro e w1 ⟨rfl, rfl⟩
  go_wp2_with fail
  refine (frameAwake_any _ HT.out).mono ?_
  rintro e w2 ⟨rfl, hb2⟩
  go_wp2_with fail
  go_ret
  exact ⟨rfl, hb2⟩

/-- A text's frame, as a string of its bytes. -/
theorem Wrap_S (b : ByteArray) (w : World) (hb : b.size ≤ 1048576) (hT : TabAt w) :
    Calls Tryd.prog 11 #[.string b] w fun e w' => e = .returned (.tuple #[.string (S (Fm.fr b.data.toList)), .int .i64 0]) ∧ Below w.heap.size w w' := by
  have h := Wrap_any b w hb hT
  have e : frS b = S (Fm.fr b.data.toList) := by rw [← frS_S]; rfl
  rw [e] at h
  exact h

set_option maxRecDepth 100000 in
set_option maxHeartbeats 2000000 in
theorem frameRow_row (w : World) (hT : TabAt w) (b off cap n : Nat) (l : List ByteArray) (hl : l.length = n) (hn : n ≤ 20) (ht : tot l ≤ 4096) (hb : b < w.heap.size) (hcap : n ≤ cap) (hcm : cap ≤ maxLen)
    (hc : ∀ i, i < n → w.cell? ⟨b, off + i, none⟩ = some (.string (l.getD i ByteArray.empty))) (hz : ∀ i, i < n → (l.getD i ByteArray.empty).size ≤ 4096) (cut : Int) (hcut : -9223372036854775808 ≤ cut ∧ cut ≤ 9223372036854775807) :
    Calls Tryd.prog 7 #[.slice (some ⟨b, off, none⟩) n cap, .int .i64 cut] w fun e w' => e = .returned (.bool true) ∧ Below w.heap.size w w' := by
  have HS := Lib.hid (Small_row w b off cap n l hl hn hc (fun i hi => Nat.le_trans (hz i hi) (by omega)))
  have hsm : smallB l = true := smallB_yes (by omega) ht
  rw [hsm] at HS
  have HT := Lib.hid hT
  have HL := Lib.hid hl
  have HC := Lib.hid hc
  have HZ := Lib.hid hz
  have hrl : ∀ k, (rowB (l.take k)).length ≤ 4236 := fun k => by
    have h1 := rowB_len (l.take k) (Nat.le_trans (tot_le l k) ht)
    have h2 := tot_le l k
    have h3 : (l.take k).length ≤ n := by rw [← hl, List.length_take]; omega
    omega
  have HRL := Lib.hid hrl
  have hts : Strs w (.slice (some ⟨b, off, none⟩) n cap) l := ⟨_, _, by rw [hl], by omega, hcm, fun _ => ⟨b, off, rfl, hb, fun i hi => hc i (by omega)⟩⟩
  have htk : ∀ m, m ≤ n → Strs w (.slice (some ⟨b, off, none⟩) m cap) (l.take m) := fun m hm => by
    have h1 : (l.take m).length = m := by rw [List.length_take]; omega
    refine ⟨_, _, by rw [h1], by omega, hcm, fun _ => ⟨b, off, rfl, hb, fun i hi => ?_⟩⟩
    rw [h1] at hi
    rw [hc i (by omega)]
    have : (l.take m)[i]? = l[i]? := by rw [List.getElem?_take, if_pos hi]
    simp [List.getD, this]
  have HTS := Lib.hid hts
  have HTK := Lib.hid htk
  clear hT hl hc hz hrl hts htk hsm
  go_enter Tryd.func7, Tryd.ntmps7
  go_wp2_with fail
  refine HS.out.mono ?_
  rintro e w1 ⟨rfl, rfl⟩
  go_wp2_with fail
  go_loopw [5, 6, 7, 9, 10, 11, 20] (fun s m e _ _ _ i wr => ∃ (k j : Nat), k ≤ n ∧ i = .int .i64 k ∧ s = .string (S (rowB (l.take k))) ∧ m = .int .i64 j ∧ e = .int .i64 ((rowB (l.take j)).length : Nat) ∧ CutRel l cut k j ∧ Below w.heap.size w wr) (fun _ _ _ _ _ _ i _ => n - (intOf i).toNat)
  case atStart => exact ⟨0, 0, Nat.zero_le _, rfl, rfl, rfl, rfl, ⟨Nat.le_refl _, fun h => absurd h (Nat.lt_irrefl _), fun h => absurd h (Nat.lt_irrefl _)⟩, Below.refl _ _⟩
  case round =>
    obtain ⟨k, j, hk, rfl, rfl, rfl, rfl, hcr, hbel⟩ := hrel
    have hjk : j ≤ k := hcr.1
    have HT1 := Lib.hid (HT.out.next hbel)
    by_cases hlt : k < n
    · have c1 := (hbel.cell (p := ⟨b, off + k, none⟩) hb).trans (HC.out k hlt)
      have hzk := HZ.out k hlt
      have HSN := Lib.hid (rowB_snoc l k (by rw [HL.out]; exact hlt))
      have hl1 := HRL.out (k + 1)
      have hlk := HRL.out k
      obtain ⟨x, hx⟩ : ∃ x, x = l.getD k ByteArray.empty := ⟨_, rfl⟩
      rw [← hx] at c1 hzk HSN
      clear hx
      have hl2 := congrArg List.length HSN.out
      rw [List.length_append] at hl2
      have hadd := fun W => add_S (rowB (l.take k)) (Fm.fr x.data.toList) (by omega) W
      have HW : Hid (∀ W, TabAt W → Calls Tryd.prog 11 #[.string x] W fun e w' => e = .returned (.tuple #[.string (S (Fm.fr x.data.toList)), .int .i64 0]) ∧ Below W.heap.size W w') := fun W h => Wrap_S x W (by omega) h
      have HSZ := Lib.hid (S_size (rowB (l.take (k + 1))))
      by_cases hcc : ((rowB (l.take (k + 1))).length : Int) ≤ cut
      · obtain ⟨rfl, hcn⟩ := cutRel_yes hcr hcc
        have HCN := Lib.hid hcn
        clear hcr hcn
        generalize hrd : rowB (l.take j) = r at *
        generalize hrd1 : rowB (l.take (j + 1)) = r1 at *
        rw [← HSN.out] at hadd
        have HADD := Lib.hid hadd
        have HRD1 := Lib.hid hrd1
        clear hadd hl2 hrd hrd1
        generalize Fm.fr x.data.toList = f at *
        generalize S f = fs at *
        go_wp2_with fail
        refine (HW.out _ HT1.out).mono ?_
        rintro e w1 ⟨rfl, hb1⟩
        have hb2 := hbel.trans (hb1.mono hbel.size)
        clear hb1 hbel
        have hadd := HADD.out w1
        have hsz := HSZ.out
        go_wp2_with fail
        refine ⟨⟨j + 1, j + 1, by omega, by go_num, by rw [HRD1.out], by go_num, by rw [HRD1.out], HCN.out, hb2⟩, ?_⟩
        simp [intOf]; omega
      · have hcn := cutRel_no hcr (by omega)
        have HCN := Lib.hid hcn
        clear hcr hcn
        generalize hrd : rowB (l.take k) = r at *
        generalize hrd1 : rowB (l.take (k + 1)) = r1 at *
        rw [← HSN.out] at hadd
        have HADD := Lib.hid hadd
        have HRD1 := Lib.hid hrd1
        clear hadd hl2 hrd hrd1
        generalize Fm.fr x.data.toList = f at *
        generalize S f = fs at *
        go_wp2_with fail
        refine (HW.out _ HT1.out).mono ?_
        rintro e w1 ⟨rfl, hb1⟩
        have hb2 := hbel.trans (hb1.mono hbel.size)
        clear hb1 hbel
        have hadd := HADD.out w1
        have hsz := HSZ.out
        go_wp2_with fail
        refine ⟨⟨k + 1, j, by omega, by go_num, by rw [HRD1.out], rfl, rfl, HCN.out, hb2⟩, ?_⟩
        simp [intOf]; omega
    · obtain rfl : k = n := by omega
      have hlk := HRL.out k
      have htake : l.take k = l := List.take_of_length_le (by have := HL.out; omega)
      rw [htake] at hlk ⊢
      have hw := all_whole ht
      have hsz := S_size (rowB l)
      have HP : Hid (∀ c : Nat, (c : Int) = cut → c ≤ (rowB l).length → allS (S ((rowB l).take c)) = l.take j ∧ usedN (S ((rowB l).take c)) = (rowB (l.take j)).length) := by
        intro c hc hcl
        refine all_part ht ?_ hcl
        rw [HL.out, hc]; exact hcr
      have hfront : ∀ c : Nat, c ≤ (rowB l).length → (S (rowB l)).extract 0 c = S ((rowB l).take c) := fun c _ => by rw [extract_front, S_list]
      generalize hsd : S (rowB l) = s at *
      have hs5 : s.size ≤ 100000 := by omega
      obtain ⟨hw1, hw2⟩ := hw
      have HW1 := Lib.hid hw1
      have HW2 := Lib.hid hw2
      have HSZ := Lib.hid hsz
      have HF := Lib.hid hfront
      have HTK' := Lib.hid (HTK.out j hjk)
      clear htake hw1 hw2 hsd hfront hcr
      go_wp2_with fail
      refine (All_any s _ hs5 HT1.out).mono ?_
      rintro e w1 ⟨v1, rfl, ho1, hb1⟩
      rw [HW2.out]
      rw [HW1.out] at ho1
      have hs1 := (HTS.out.next hbel).next hb1
      have HT2 := Lib.hid (HT1.out.next hb1)
      have hb2 := hbel.trans (hb1.mono hbel.size)
      clear hbel hb1
      go_wp2_with fail
      refine (Same_any _ _ _ _ _ ho1.strs hs1).mono ?_
      rintro e w2 ⟨rfl, hb3⟩
      rw [sameB_yes rfl]
      have HT3 := Lib.hid (HT2.out.next hb3)
      have hb4 := hb2.trans (hb3.mono hb2.size)
      clear hb2 hb3 hs1 ho1
      by_cases hneg : cut < 0
      · go_wp2_with fail
        refine (frameAwake_any _ HT3.out).mono ?_
        rintro e w3 ⟨rfl, hb5⟩
        have hb6 := hb4.trans (hb5.mono hb4.size)
        clear hb4 hb5
        go_wp2_with fail
        go_ret
        exact ⟨rfl, hb6⟩
      · by_cases hbig : (s.size : Int) < cut
        · go_wp2_with fail
          refine (frameAwake_any _ HT3.out).mono ?_
          rintro e w3 ⟨rfl, hb5⟩
          have hb6 := hb4.trans (hb5.mono hb4.size)
          clear hb4 hb5
          go_wp2_with fail
          go_ret
          exact ⟨rfl, hb6⟩
        · obtain ⟨c, rfl⟩ := Int.eq_ofNat_of_zero_le (show 0 ≤ cut by omega)
          have hcl : c ≤ (rowB l).length := by have := HSZ.out; omega
          obtain ⟨hp1, hp2⟩ := HP.out c rfl hcl
          have hf := HF.out c hcl
          have hcs : c ≤ s.size := by have := HSZ.out; omega
          have hus : (S ((rowB l).take c)).size ≤ 100000 := by rw [S_size, List.length_take]; omega
          generalize S ((rowB l).take c) = u at *
          have HP1 := Lib.hid hp1
          have HP2 := Lib.hid hp2
          have HF2 := Lib.hid hf
          clear hp1 hp2 hf
          go_wp2_with fail
          rw [HF2.out]
          refine (All_any u _ hus HT3.out).mono ?_
          rintro e w3 ⟨v3, rfl, ho3, hb5⟩
          rw [HP2.out]
          rw [HP1.out] at ho3
          have HT4 := Lib.hid (HT3.out.next hb5)
          have hb6 := hb4.trans (hb5.mono hb4.size)
          have hs2 := HTK'.out.next hb6
          clear hb4 hb5
          generalize (rowB (l.take j)).length = z at *
          go_wp2_with fail
          refine (Same_any _ _ _ _ _ ho3.strs hs2).mono ?_
          rintro e w4 ⟨rfl, hb7⟩
          rw [sameB_yes rfl]
          have HT5 := Lib.hid (HT4.out.next hb7)
          have hb8 := hb6.trans (hb7.mono hb6.size)
          clear hb6 hb7 hs2 ho3
          go_wp2_with fail
          refine (frameAwake_any _ HT5.out).mono ?_
          rintro e w5 ⟨rfl, hb9⟩
          have hb10 := hb8.trans (hb9.mono hb8.size)
          clear hb8 hb9
          go_wp2_with fail
          go_ret
          exact ⟨rfl, hb10⟩

theorem all_empty : allS { data := #[] } = [] ∧ usedN { data := #[] } = 0 := by
  have h := all_whole (l := []) (by simp [tot])
  exact h

set_option maxRecDepth 100000 in
set_option maxHeartbeats 2000000 in
theorem frameRow_none (w : World) (hT : TabAt w) (ao : Option Addr) (cap : Nat) (hcm : cap ≤ maxLen) (cut : Int) (hcut : -9223372036854775808 ≤ cut ∧ cut ≤ 9223372036854775807) :
    Calls Tryd.prog 7 #[.slice ao 0 cap, .int .i64 cut] w fun e w' => e = .returned (.bool true) ∧ Below w.heap.size w w' := by
  have HT := Lib.hid hT
  have hts : Strs w (.slice ao 0 cap) [] := ⟨_, _, rfl, Nat.zero_le _, hcm, fun h => absurd h (Nat.lt_irrefl _)⟩
  have HTS := Lib.hid hts
  have HE1 := Lib.hid all_empty.1
  have HE2 := Lib.hid all_empty.2
  clear hT hts
  go_enter Tryd.func7, Tryd.ntmps7
  go_wp2_with fail
  refine (Small_none _ _ _).mono ?_
  rintro e w1 ⟨rfl, rfl⟩
  go_wp2_with fail
  refine wp_loop_rounds 1 ?_
  rw [rounds_succ]
  go_wp2_with fail
  refine (All_any { data := #[] } _ (by decide) HT.out).mono ?_
  rintro e w1 ⟨v1, rfl, ho1, hb1⟩
  rw [HE2.out]
  rw [HE1.out] at ho1
  have hs1 := HTS.out.next hb1
  have HT2 := Lib.hid (HT.out.next hb1)
  go_wp2_with fail
  refine (Same_any _ _ _ _ _ ho1.strs hs1).mono ?_
  rintro e w2 ⟨rfl, hb3⟩
  rw [sameB_yes rfl]
  have HT3 := Lib.hid (HT2.out.next hb3)
  have hb4 := hb1.trans (hb3.mono hb1.size)
  clear hb1 hb3 hs1 ho1
  by_cases hneg : cut < 0
  · go_wp2_with fail
    refine (frameAwake_any _ HT3.out).mono ?_
    rintro e w3 ⟨rfl, hb5⟩
    have hb6 := hb4.trans (hb5.mono hb4.size)
    clear hb4 hb5
    go_wp2_with fail
    go_ret
    exact ⟨rfl, hb6⟩
  · by_cases hbig : 0 < cut
    · go_wp2_with fail
      refine (frameAwake_any _ HT3.out).mono ?_
      rintro e w3 ⟨rfl, hb5⟩
      have hb6 := hb4.trans (hb5.mono hb4.size)
      clear hb4 hb5
      go_wp2_with fail
      go_ret
      exact ⟨rfl, hb6⟩
    · obtain rfl : cut = 0 := by omega
      go_wp2_with fail
      refine (All_any ByteArray.empty _ (by decide) HT3.out).mono ?_
      rintro e w3 ⟨v3, rfl, ho3, hb5⟩
      have hu : usedN ByteArray.empty = 0 := HE2.out
      have ha : allS ByteArray.empty = [] := HE1.out
      rw [hu]
      rw [ha] at ho3
      have HT4 := Lib.hid (HT3.out.next hb5)
      have hb6 := hb4.trans (hb5.mono hb4.size)
      have hs2 := HTS.out.next hb6
      clear hb4 hb5 hu ha
      rcases ao with _ | ao
      all_goals
        go_wp2_with fail
        refine (Same_any _ _ _ _ _ ho3.strs hs2).mono ?_
        rintro e w4 ⟨rfl, hb7⟩
        rw [sameB_yes rfl]
        have HT5 := Lib.hid (HT4.out.next hb7)
        have hb8 := hb6.trans (hb7.mono hb6.size)
        clear hb6 hb7 hs2 ho3
        go_wp2_with fail
        refine (frameAwake_any _ HT5.out).mono ?_
        rintro e w5 ⟨rfl, hb9⟩
        have hb10 := hb8.trans (hb9.mono hb8.size)
        clear hb8 hb9
        go_wp2_with fail
        go_ret
        exact ⟨rfl, hb10⟩

/-- What the walk is told of a slice of texts that came in: it is nil; or it leads to a row of 'cap' cells, the texts 'ss'; where there is a cell the row lies in a block that was there. -/
def IsStrRow (w : World) (a : Option Addr) (len cap : Nat) (ss : List ByteArray) : Prop :=
  (a = none ∧ len = 0 ∧ cap = 0 ∧ ss = []) ∨
  ∃ x, a = some x ∧ len ≤ cap ∧ cap ≤ maxLen ∧ len ≤ ss.length ∧ ss.length ≤ cap ∧ (∀ i, i < ss.length → w.cell? (x.add i) = some (.string (ss.getD i ByteArray.empty))) ∧ (∀ s ∈ ss, s.size ≤ maxLen) ∧
    (0 < ss.length → ∃ b off, x = ⟨b, off, none⟩ ∧ b < w.heap.size)

theorem getD_mem {l : List ByteArray} {i : Nat} (h : i < l.length) : l.getD i ByteArray.empty ∈ l := by
  have : l.getD i ByteArray.empty = l[i] := by simp [List.getD, h]
  rw [this]; exact List.getElem_mem _

theorem frameRow_walk (w : World) (hT : TabAt w) (ao : Option Addr) (len cap : Nat) (ss : List ByteArray) (h : IsStrRow w ao len cap ss) (cut : Int) (hcut : -9223372036854775808 ≤ cut ∧ cut ≤ 9223372036854775807) :
    Calls Tryd.prog 7 #[.slice ao len cap, .int .i64 cut] w fun e w' => e = .returned (.bool true) ∧ Below w.heap.size w w' := by
  rcases h with ⟨rfl, rfl, rfl, rfl⟩ | ⟨x, rfl, hlc, hcm, hls, hsc, hcell, hsz, hpos⟩
  · exact frameRow_none w hT none 0 (by unfold maxLen; omega) cut hcut
  · by_cases h0 : len = 0
    · subst h0
      exact frameRow_none w hT _ cap hcm cut hcut
    · obtain ⟨b, off, rfl, hb⟩ := hpos (by omega)
      by_cases h20 : 20 < len
      · exact frameRow_big w hT _ cut (fun W _ _ => Small_many W _ len cap h20)
      · have hl : (ss.take len).length = len := by rw [List.length_take]; omega
        have hg : ∀ i, i < len → (ss.take len).getD i ByteArray.empty = ss.getD i ByteArray.empty := fun i hi => by
          have : (ss.take len)[i]? = ss[i]? := by rw [List.getElem?_take, if_pos hi]
          simp [List.getD, this]
        have hc : ∀ i, i < len → w.cell? ⟨b, off + i, none⟩ = some (.string ((ss.take len).getD i ByteArray.empty)) := fun i hi => by
          have := hcell i (by omega)
          rw [Addr.add_lit] at this
          rw [this, hg i hi]
        have hm : ∀ i, i < len → (ss.take len).getD i ByteArray.empty ∈ ss.take len := fun i hi => getD_mem (by omega)
        by_cases ht : tot (ss.take len) ≤ 4096
        · exact frameRow_row w hT b off cap len (ss.take len) hl (by omega) ht hb hlc hcm hc (fun i hi => Nat.le_trans (tot_mem (hm i hi)) ht) cut hcut
        · refine frameRow_big w hT _ cut (fun W _ hbl => ?_)
          have h2 := Small_row W b off cap len (ss.take len) hl (by omega) (fun i hi => (hbl.cell (p := ⟨b, off + i, none⟩) hb).trans (hc i hi)) (fun i hi => by
            have := hsz _ (List.mem_of_mem_take (hm i hi))
            unfold maxLen at this
            omega)
          rw [smallB_no (fun h => ht h.2)] at h2
          exact h2

end Go.Proofs.YthllpiohdkcecaaDoor
