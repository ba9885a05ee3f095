/-
  The letters of a text: package key's function and the document's; the document's order.
-/
import Derived.Test.YtiofjapakaoklaaDoorKyRefShow
import Derived.Laws.Cover4
namespace Go.Proofs.YtiofjapakaoklaaDoor
open Go.RowKit
set_option linter.unusedVariables false

/-- Numbers of one kind, wherever they lie. -/
def NumsAt (k : IntKind) (w : World) (v : Value) (l : List Nat) : Prop :=
  ∃ ao cap, v = .slice ao l.length cap ∧ (0 < l.length → ∃ b, ao = some ⟨b, 0, none⟩ ∧ b < w.heap.size ∧ ∀ i, i < l.length → w.cell? ⟨b, i, none⟩ = some (.int k ((l.getD i 0 : Nat) : Int)))
theorem NumsAt.next {k : IntKind} {w w' : World} {v : Value} {l : List Nat} (h : NumsAt k w v l) (hb : Below w.heap.size w w') : NumsAt k w' v l := by
  obtain ⟨ao, cap, e, h1⟩ := h
  refine ⟨ao, cap, e, fun hp => ?_⟩
  obtain ⟨b, e2, h4, h5⟩ := h1 hp
  exact ⟨b, e2, Nat.lt_of_lt_of_le h4 hb.size, fun i hi => (hb.cell (p := ⟨b, i, none⟩) h4).trans (h5 i hi)⟩

def intsV (l : List Nat) : List Value := l.map fun (c : Nat) => Value.int .i64 (c : Int)
def OwnsI (w : World) (base : Nat) (v : Value) (l : List Nat) : Prop := w.ownsRow base 3 1 v l.length (intsV l)
theorem info_int : (Tryd.prog.info? 3).map (fun i => (i.zero, i.size, i.bytes)) = some (some (.int .i64 0), 1, 8) := by kernel_rfl
theorem block_lt {w : World} {h : Nat} {o : Obj} (e : w.heap[h]? = some o) : h < w.heap.size := by
  rcases Nat.lt_or_ge h w.heap.size with h1 | h1
  · exact h1
  · rw [Array.getElem?_eq_none h1] at e; cases e
theorem OwnsI.nums {w : World} {B : Nat} {v : Value} {l : List Nat} (h : OwnsI w B v l) : NumsAt .i64 w v l := by
  have h' : w.ownsRow B 3 1 v l.length (intsV l) := h
  rcases h'.2 with ⟨e, hn⟩ | ⟨g, cap, cur, e, hB, hg, hc, hm, _, _⟩
  · exact ⟨none, 0, by rw [e, hn], fun hp => by omega⟩
  · refine ⟨some ⟨g, 0, none⟩, cap, e, fun _ => ⟨g, rfl, block_lt hg, fun i hi => ?_⟩⟩
    subst e
    rw [h'.cellAt i (by omega)]
    simp [intsV, hi, List.getD]

/-! ### []rune(k) -/
theorem runes_eq (s : ByteArray) : ∀ f p acc, s.size - p ≤ f → (Conv.runesFrom s f p acc).toList = acc.toList ++ (Ky.codes s p).map fun (c : Nat) => Value.int .i32 (c : Int)
  | 0, p, acc, h => by
    rw [Ky.codes_end s p (by omega)]
    simp [Conv.runesFrom]
  | f + 1, p, acc, h => by
    unfold Conv.runesFrom
    by_cases hp : p < s.size
    · have hw := Ky.width s p hp
      rw [if_pos hp, Ky.codes_step s p hp]
      dsimp only
      rw [runes_eq s f _ _ (by omega)]
      simp
    · rw [if_neg hp, Ky.codes_end s p hp]
      simp

set_option maxRecDepth 100000 in
set_option maxHeartbeats 1000000 in
theorem letters_any (s : ByteArray) (w : World) (hs : s.size ≤ 70368744177664) :
    Calls Tryd.prog 11 #[.string s] w fun e w' => ∃ v, e = .returned v ∧ NumsAt .i32 w' v (Ky.codes s 0) ∧ Below w.heap.size w w' := by
  have hr := runes_eq s s.size 0 #[] (by omega)
  have hcl := Ky.codes_len s 0
  have hsz : (Conv.runesFrom s s.size 0 #[]).size = (Ky.codes s 0).length := by
    rw [← Array.length_toList, hr]; simp
  have hcv := run_runes_of_string (P := Tryd.prog) w 9 22 21 s Tryd.underlying9 Tryd.underlying22 Tryd.underlying21 (by omega)
  have hcell : Hid (∀ (C : Array Value) (i : Nat), i < (Ky.codes s 0).length → ((w.drew.alloc (.cells (Conv.runesFrom s s.size 0 #[] ++ C) 21))).cell? ⟨w.heap.size, i, none⟩ = some (.int .i32 (((Ky.codes s 0).getD i 0 : Nat) : Int))) := by
    intro C i hi
    have h1 := World.cell?_alloc_mark w.drew (Conv.runesFrom s s.size 0 #[] ++ C) 21 (0, 0) i
    refine h1.trans ?_
    rw [Array.getElem?_append_left (by omega), ← Array.getElem?_toList, hr]
    simp [List.getD, hi]
  rw [hsz] at hcv
  have HSZ := Lib.hid hsz
  clear hr hsz
  generalize Conv.runesFrom s s.size 0 #[] = rs at *
  generalize grownCap w (Ky.codes s 0).length 0 21 = cap at *
  generalize Ky.codes s 0 = l at *
  obtain ⟨W, hW⟩ : ∃ W, w.drew.alloc (.cells (rs ++ Array.replicate (cap - l.length) (.int .i32 0)) 21) = W := ⟨_, rfl⟩
  have hbw : Below w.heap.size w W := by
    rw [← hW]
    exact ((Below.refl _ w).drew).alloc (Nat.le_refl _) _
  have hlt : w.heap.size < W.heap.size := by rw [← hW]; simp
  have hc2 := fun i (hi : i < l.length) => hcell.out (Array.replicate (cap - l.length) (.int .i32 0)) i hi
  rw [hW] at hcv hc2
  have HC2 := Lib.hid hc2
  clear hW hc2 hcell
  go_enter Tryd.func11, Tryd.ntmps11
  go_wp2
  go_ret
  exact ⟨_, rfl, ⟨some ⟨w.heap.size, 0, none⟩, cap, rfl, fun _ => ⟨w.heap.size, rfl, hlt, HC2.out⟩⟩, hbw⟩

/-! ### The document's letters -/
set_option maxRecDepth 100000 in
set_option maxHeartbeats 1000000 in
theorem refLetters_any (s : ByteArray) (w : World) (hs : s.size ≤ 1048576) :
    Calls Tryd.prog 12 #[.string s] w fun e w' => ∃ v, e = .returned v ∧ NumsAt .i64 w' v (Ky.codes s 0) ∧ Below w.heap.size w w' := by
  obtain ⟨i0, hi, hz0, hz1, hz2⟩ := info_parts info_int
  obtain ⟨T, hT⟩ : ∃ T, Ky.codes s 0 = T := ⟨_, rfl⟩
  have hTl : T.length ≤ 1048576 := by
    have := Ky.codes_len s 0
    rw [hT] at this; omega
  rw [hT]
  have HT : Hid ([] ++ Ky.codes s 0 = T) := hT
  have HZ := Lib.hid (Ky.rest_zero s)
  clear hT
  have ho0 : OwnsI w w.heap.size (.slice none 0 0) [] := ⟨rfl, .inl ⟨rfl, rfl⟩⟩
  go_enter Tryd.func12, Tryd.ntmps12
  go_wp2
  go_loopw [0, 3, 4, 5] (fun v b _ _ wr => ∃ (p : Nat) (t : ByteArray) (l : List Nat), p ≤ s.size ∧ v = .string t ∧ Hid (t = s.extract p s.size) ∧ OwnsI wr w.heap.size b l ∧ Hid (l ++ Ky.codes s p = T) ∧ Below w.heap.size w wr) (fun v _ _ _ _ => match v with | .string t => t.size | _ => 0)
  case atStart => exact ⟨0, s, [], Nat.zero_le _, rfl, HZ.out.symm, ho0, HT, Below.refl _ _⟩
  case round =>
    obtain ⟨p, t, l, hp, rfl, ht, ho, hl, hb⟩ := hrel
    have hts0 : Hid (t.size = s.size - p) := by show _ = _; rw [ht.out, Ky.rest_size]
    have hsz := hb.size
    have hll : l.length ≤ 1048576 := by
      have := congrArg List.length hl.out
      rw [List.length_append] at this; omega
    have ho' : wr.ownsRow w.heap.size 3 1 u3 l.length (intsV l) := ho
    by_cases hlt : p < s.size
    · obtain ⟨C, c, m, d1, c1, c2, hC, hpl, m1, m4, hpm, hc, hts, hte, HL⟩ := ref_facts s t p hlt (by omega) ht.out
      have htp : (0 : Int) < t.size := by omega
      have hmt : (m : Int) ≤ t.size := by omega
      have htz : t.size ≤ 1048576 := by omega
      have hst : Hid ((l ++ [c]) ++ Ky.codes s (p + m) = T) := by
        show _ = _
        rw [← hl.out, Ky.codes_step s p hlt, d1, List.append_assoc]
        rfl
      have hlc : l.length + 1 ≤ 1048576 := by
        have := congrArg List.length hst.out
        simp at this; omega
      have HTE := Lib.hid hte
      have e1 : Hid (intsV l ++ [.int .i64 (c : Int)] = intsV (l ++ [c])) := by show _ = _; simp [intsV]
      have e2 : Hid ((l ++ [c]).length = l.length + 1) := by show _ = _; simp
      have HM : Hid ((t.extract m t.size).size < t.size) := by
        show _ < _
        rw [hte, Ky.rest_size, hts0.out]; omega
      clear hte d1 hpl hl hts
      by_cases hneg : C < 0
      · obtain ⟨rfl, rfl⟩ : C = -1 ∧ c = 65533 := by
          split at hC
          · rename_i h; exact ⟨hC, h.1⟩
          · omega
        clear hC
        go_wp2_with (first
          | (go_at_call 22; refine (HL.out _).mono ?_; rintro e W2 ⟨rfl, rfl⟩)
          | (at_builtin; refine wpList_append_own _ rfl (.tmp 16) (.tmp 18) 24 rfl w.heap.size 3 i0 (.int .i64 0) 1 8 Tryd.underlying24 hi hz0 hz1 hz2 rfl (by decide) _ _ _ rfl (ho'.alloc _) ⟨wr.heap.size, 0, none⟩ 1 1 [.int .i64 65533] rfl rfl (cell_one_new _ _ _) (ints_oneCell .i64 [65533]) (by unfold maxLen; omega) (by omega) (by simp; omega) ?_; intro v' w1 hown1 hgrow1 _))
        have hb1 := (hb.alloc hsz _).grown hgrow1 (by simp; omega) (fun k hk => (ho'.lt k hk).1)
        have ho1 : OwnsI w1 w.heap.size v' (l ++ [65533]) := by
          show w1.ownsRow w.heap.size 3 1 v' (l ++ [65533]).length (intsV (l ++ [65533]))
          rw [e2.out, ← e1.out]; exact hown1
        clear hown1 hgrow1
        go_wp2
        go_roundw
        case rel => exact ⟨p + m, _, _, hpm, rfl, HTE, ho1, hst, hb1⟩
        case measure => exact HM.out
      · obtain rfl : C = (c : Int) := by
          split at hC
          · omega
          · exact hC
        clear hC c1
        go_wp2_with (first
          | (go_at_call 22; refine (HL.out _).mono ?_; rintro e W2 ⟨rfl, rfl⟩)
          | (at_builtin; refine wpList_append_own _ rfl (.tmp 16) (.tmp 18) 24 rfl w.heap.size 3 i0 (.int .i64 0) 1 8 Tryd.underlying24 hi hz0 hz1 hz2 rfl (by decide) _ _ _ rfl (ho'.alloc _) ⟨wr.heap.size, 0, none⟩ 1 1 [.int .i64 (c : Int)] rfl rfl (cell_one_new _ _ _) (ints_oneCell .i64 [(c : Int)]) (by unfold maxLen; omega) (by omega) (by simp; omega) ?_; intro v' w1 hown1 hgrow1 _))
        have hb1 := (hb.alloc hsz _).grown hgrow1 (by simp; omega) (fun k hk => (ho'.lt k hk).1)
        have ho1 : OwnsI w1 w.heap.size v' (l ++ [c]) := by
          show w1.ownsRow w.heap.size 3 1 v' (l ++ [c]).length (intsV (l ++ [c]))
          rw [e2.out, ← e1.out]; exact hown1
        clear hown1 hgrow1
        go_wp2
        go_roundw
        case rel => exact ⟨p + m, _, _, hpm, rfl, HTE, ho1, hst, hb1⟩
        case measure => exact HM.out
    · have htz : ¬ (0 : Int) < t.size := by have := hts0.out; omega
      have h := hl.out
      rw [Ky.codes_end s p hlt, List.append_nil] at h
      subst h
      clear hl
      go_wp2
      go_ret
      exact ⟨_, rfl, ho.nums, hb⟩

end Go.Proofs.YtiofjapakaoklaaDoor
