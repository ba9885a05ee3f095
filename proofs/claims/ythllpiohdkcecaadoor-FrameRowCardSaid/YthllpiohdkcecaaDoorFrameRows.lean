/-
  Rows of strings: what a walk is told of one; contracts of the document's Same and Small.
-/
import Derived.Test.YthllpiohdkcecaaDoorFrameRef
import Derived.Test.YthllpiohdkcecaaDoorBytes
namespace Go.Proofs.YthllpiohdkcecaaDoor
open Go.RowKit

/-- Texts as cells. -/
def strsV (l : List ByteArray) : List Value := l.map .string
theorem strsV_len (l : List ByteArray) : (strsV l).length = l.length := by simp [strsV]
theorem strsV_snoc (l : List ByteArray) (b : ByteArray) : strsV l ++ [.string b] = strsV (l ++ [b]) := by simp [strsV]
theorem info_string : (Tryd.prog.info? 9).map (fun i => (i.zero, i.size, i.bytes)) = some (some (.string { data := #[] }), 1, 16) := by kernel_rfl

/-- A slice value that owns texts. -/
def OwnsS (w : World) (base : Nat) (v : Value) (l : List ByteArray) : Prop := w.ownsRow base 9 1 v l.length (strsV l)
theorem owns_next {w w' : World} {B : Nat} {e : TypeId} {size : Nat} {v : Value} {n : Nat} {xs : List Value} (h : w.ownsRow B e size v n xs) (hb : Below w.heap.size w w') : w'.ownsRow B e size v n xs := by
  obtain ⟨hl, h2⟩ := h
  refine ⟨hl, ?_⟩
  rcases h2 with h2 | ⟨g, cap, cur, e1, e2, e3, r⟩
  · exact .inl h2
  · exact .inr ⟨g, cap, cur, e1, e2, (hb.block g (lt_of_block e3)).trans e3, r⟩

/-- A slice value that leads to texts, wherever they lie. -/
def Strs (w : World) (v : Value) (l : List ByteArray) : Prop :=
  ∃ ao cap, v = .slice ao l.length cap ∧ l.length ≤ cap ∧ cap ≤ maxLen ∧
    (0 < l.length → ∃ b off, ao = some ⟨b, off, none⟩ ∧ b < w.heap.size ∧ ∀ i, i < l.length → w.cell? ⟨b, off + i, none⟩ = some (.string (l.getD i ByteArray.empty)))
theorem Strs.next {w w' : World} {v : Value} {l : List ByteArray} (h : Strs w v l) (hb : Below w.heap.size w w') : Strs w' v l := by
  obtain ⟨ao, cap, e, h1, h2, h3⟩ := h
  refine ⟨ao, cap, e, h1, h2, fun hp => ?_⟩
  obtain ⟨b, off, e2, h4, h5⟩ := h3 hp
  exact ⟨b, off, e2, Nat.lt_of_lt_of_le h4 hb.size, fun i hi => (hb.cell (p := ⟨b, off + i, none⟩) h4).trans (h5 i hi)⟩
theorem OwnsS.strs {w : World} {B : Nat} {v : Value} {l : List ByteArray} (h : OwnsS w B v l) : Strs w v l := by
  have h' : w.ownsRow B 9 1 v l.length (strsV l) := h
  rcases h'.2 with ⟨e, hn⟩ | ⟨g, cap, cur, e, hB, hg, hc, hm, _, _⟩
  · exact ⟨none, 0, by rw [e, hn], by omega, by unfold maxLen; omega, fun hp => by omega⟩
  · refine ⟨some ⟨g, 0, none⟩, cap, e, hc, hm, fun _ => ⟨g, 0, rfl, lt_of_block hg, fun i hi => ?_⟩⟩
    subst e
    rw [Nat.zero_add, h'.cellAt i (by omega)]
    simp [strsV, hi, List.getD]

/-- Are two lists of texts the same? -/
def sameB (l m : List ByteArray) : Bool := decide (l = m)
theorem sameB_yes {l m : List ByteArray} (h : l = m) : sameB l m = true := by unfold sameB; exact decide_eq_true h
theorem sameB_no {l m : List ByteArray} (h : l ≠ m) : sameB l m = false := by unfold sameB; exact decide_eq_false h
theorem ext_getD {l m : List ByteArray} (hl : l.length = m.length) (h : ∀ i, i < l.length → l.getD i ByteArray.empty = m.getD i ByteArray.empty) : l = m := by
  apply List.ext_getElem hl
  intro i h1 h2
  have := h i h1
  simpa [List.getD, h1, h2] using this

set_option maxRecDepth 100000 in
set_option maxHeartbeats 400000 in
theorem Same_row (w : World) (b off cap b' off' cap' n : Nat) (l m : List ByteArray) (hl : l.length = n) (hm : m.length = n) (hn : n ≤ 9223372036854775807) (hb : b < w.heap.size) (hb' : b' < w.heap.size)
    (hc : ∀ i, i < n → w.cell? ⟨b, off + i, none⟩ = some (.string (l.getD i ByteArray.empty))) (hc' : ∀ i, i < n → w.cell? ⟨b', off' + i, none⟩ = some (.string (m.getD i ByteArray.empty))) :
    Calls Tryd.prog 17 #[.slice (some ⟨b, off, none⟩) n cap, .slice (some ⟨b', off', none⟩) n cap'] w fun e w' => e = .returned (.bool (sameB l m)) ∧ Below w.heap.size w w' := by
  have HL := Lib.hid hl
  have HM := Lib.hid hm
  have HC := Lib.hid hc
  have HC' := Lib.hid hc'
  clear hl hm hc hc'
  go_enter Tryd.func17, Tryd.ntmps17
  go_wp2_with fail
  go_loopw [5] (fun i wr => ∃ k : Nat, k ≤ n ∧ i = .int .i64 k ∧ Hid (∀ j, j < k → l.getD j ByteArray.empty = m.getD j ByteArray.empty) ∧ Below w.heap.size w wr) (fun i _ => n - (intOf i).toNat)
  case atStart => exact ⟨0, Nat.zero_le _, rfl, fun j hj => absurd hj (Nat.not_lt_zero _), Below.refl _ _⟩
  case round =>
    obtain ⟨k, hk, rfl, hsame, hbel⟩ := hrel
    by_cases hlt : k < n
    · have c1 := (hbel.cell (p := ⟨b, off + k, none⟩) hb).trans (HC.out k hlt)
      have c2 := (hbel.cell (p := ⟨b', off' + k, none⟩) hb').trans (HC'.out k hlt)
      obtain ⟨x, hx⟩ : ∃ x, x = l.getD k ByteArray.empty := ⟨_, rfl⟩
      obtain ⟨y, hy⟩ : ∃ y, y = m.getD k ByteArray.empty := ⟨_, rfl⟩
      rw [← hx] at c1
      rw [← hy] at c2
      have HX := Lib.hid hx
      have HY := Lib.hid hy
      clear hx hy
      by_cases he : x = y
      · subst he
        have HS : Hid (∀ j, j < k + 1 → l.getD j ByteArray.empty = m.getD j ByteArray.empty) := by
          intro j hj
          by_cases hjk : j < k
          · exact hsame.out j hjk
          · obtain rfl : j = k := by omega
            rw [← HX.out]; exact HY.out
        clear hsame
        go_wp2_with fail
        go_quiet (fail)
        go_wp2_with fail
        go_roundw
        case rel => exact ⟨k + 1, by omega, by go_num, HS, hbel.trans (Joins.below_draws _ _ _)⟩
        case measure => simp [intOf]; omega
      · have h1 : (x.toList == y.toList) = false := by rw [beq_eq_false_iff_ne]; intro e; exact he (list_inj e)
        have h2 : ¬ x.toList = y.toList := fun e => he (list_inj e)
        have HN := Lib.hid (sameB_no (l := l) (m := m) (fun e => he (by rw [HX.out, HY.out, e])))
        clear he
        go_wp2_with fail
        go_quiet (fail)
        go_wp2_with fail
        go_ret
        exact ⟨by rw [HN.out]; rfl, hbel.trans (Joins.below_draws _ _ _)⟩
    · have HN := Lib.hid (sameB_yes (ext_getD (l := l) (m := m) (by rw [HL.out, HM.out]) (fun i hi => hsame.out i (by have := HL.out; omega))))
      go_wp2_with fail
      go_ret
      exact ⟨by rw [HN.out]; rfl, hbel⟩

set_option maxRecDepth 100000 in
set_option maxHeartbeats 400000 in
theorem Same_none (w : World) (ao ao' : Option Addr) (cap cap' : Nat) :
    Calls Tryd.prog 17 #[.slice ao 0 cap, .slice ao' 0 cap'] w fun e w' => e = .returned (.bool true) ∧ Below w.heap.size w w' := by
  go_enter Tryd.func17, Tryd.ntmps17
  go_wp2_with fail
  refine wp_loop_rounds 1 ?_
  rw [rounds_succ]
  go_wp2_with fail
  go_ret
  exact ⟨rfl, Below.refl _ _⟩

set_option maxRecDepth 100000 in
set_option maxHeartbeats 400000 in
theorem Same_len (w : World) (ao ao' : Option Addr) (n n' cap cap' : Nat) (h : n ≠ n') :
    Calls Tryd.prog 17 #[.slice ao n cap, .slice ao' n' cap'] w fun e w' => e = .returned (.bool false) ∧ Below w.heap.size w w' := by
  have hb : ((n : Int) == (n' : Int)) = false := by rw [beq_eq_false_iff_ne]; omega
  go_enter Tryd.func17, Tryd.ntmps17
  go_wp2_with fail
  go_ret
  exact ⟨rfl, Below.refl _ _⟩

theorem Same_any (w : World) (v v' : Value) (l m : List ByteArray) (h : Strs w v l) (h' : Strs w v' m) :
    Calls Tryd.prog 17 #[v, v'] w fun e w' => e = .returned (.bool (sameB l m)) ∧ Below w.heap.size w w' := by
  obtain ⟨ao, cap, rfl, hc, hm, hp⟩ := h
  obtain ⟨ao', cap', rfl, hc', hm', hp'⟩ := h'
  by_cases hn : l.length = m.length
  · by_cases h0 : 0 < l.length
    · obtain ⟨b, off, rfl, hb, hcell⟩ := hp h0
      obtain ⟨b', off', rfl, hb', hcell'⟩ := hp' (by omega)
      rw [← hn] at hcell' ⊢
      exact Same_row w b off cap b' off' cap' l.length l m rfl hn.symm (by unfold maxLen at hm; omega) hb hb' hcell hcell'
    · have e1 : l = [] := List.length_eq_zero_iff.1 (by omega)
      have e2 : m = [] := List.length_eq_zero_iff.1 (by omega)
      subst e1
      subst e2
      rw [sameB_yes rfl]
      exact Same_none w ao ao' cap cap'
  · rw [sameB_no (fun e => hn (by rw [e]))]
    exact Same_len w ao ao' l.length m.length cap cap' hn

end Go.Proofs.YthllpiohdkcecaaDoor
