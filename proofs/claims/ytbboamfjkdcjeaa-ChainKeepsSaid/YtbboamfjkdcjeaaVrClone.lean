/-
  The contract of slices.Clone at versions; chain.Prune.
-/
import Derived.Test.YtbboamfjkdcjeaaVrAt
import Derived.Lib.SliceRun
import Derived.Lib.BufferMore
import Derived.OwnWalk
import Derived.Laws.AppendOwn
set_option linter.unusedVariables false
namespace Go.Proofs.Ytbboamfjkdcjeaa
open Go.RowKit

/-- The cells of a row of versions, as an append wants them. -/
theorem vers_news {w : World} {b off n : Nat} {l : List Ver} (hl : l.length = n) (h : ∀ i, i < n → VerAt w b (off + i * 5) (vat l i)) : ∀ j u, (versC l)[j]? = some u → w.cell? ((⟨b, off, none⟩ : Addr).add j) = some u := by
  intro j u hj
  have hlt : j < l.length * 5 := by rw [← versC_len]; exact (List.getElem?_eq_some_iff.1 hj).1
  have e : j = j / 5 * 5 + j % 5 := by omega
  rw [e, versC_at l (j / 5) (j % 5) (by omega) (by omega)] at hj
  obtain ⟨h0, h1, h2, h3, h4⟩ := h (j / 5) (by omega)
  have ha : (⟨b, off, none⟩ : Addr).add j = ⟨b, off + j / 5 * 5 + j % 5, none⟩ := by
    rw [Addr.add_lit, show off + j = off + j / 5 * 5 + j % 5 by omega]
  rw [ha]
  have hs : j % 5 = 0 ∨ j % 5 = 1 ∨ j % 5 = 2 ∨ j % 5 = 3 ∨ j % 5 = 4 := by omega
  rcases hs with e | e | e | e | e <;> rw [e] at hj ⊢ <;> simp [verC] at hj <;> subst hj <;> assumption
theorem versC_one (l : List Ver) : ∀ u ∈ versC l, u.oneCell' = true := by
  intro u hu
  obtain ⟨v, _, hv⟩ := List.mem_flatMap.1 hu
  simp only [verC, List.mem_cons, List.not_mem_nil, or_false] at hv
  rcases hv with rfl | rfl | rfl | rfl | rfl <;> rfl

set_option maxRecDepth 100000 in
set_option maxHeartbeats 1000000 in
theorem Clone_some (w : World) (ad : Addr) (n cap : Nat) (l : List Ver) (hl : l.length = n) (h64 : n ≤ 64) (hcell : ∀ j u, (versC l)[j]? = some u → w.cell? (ad.add j) = some u) :
    Calls Try.prog 29 #[.slice (some ad) n cap] w fun e w' => ∃ v, e = .returned v ∧ OwnsV w' w.heap.size v l ∧ Below w.heap.size w w' := by
  obtain ⟨i0, hi, hz0, hz1, hz2⟩ := info_parts info_ver
  have q22 : ∀ (w : World) (a : Option Addr) (n c n' c' : Nat), (binOp .eql 22 (.slice a n c) (.slice none n' c')).run Try.prog w = .ok (.bool a.isNone) w := fun w a n c n' c' => Lib.run_eql_slice_nil w _ _ a n c n' c' Try.underlying22
  have HC := Lib.hid hcell
  have HL := Lib.hid hl
  have hmul : (versC l).length = n * 5 := by rw [versC_len, hl]
  have HM := Lib.hid hmul
  clear hcell hl hmul
  go_enter Try.func29, Try.ntmps29
  go_wp2_with (at_builtin; refine wpList_append_own _ rfl _ _ 22 rfl w.heap.size 26 i0 _ 5 48 Try.underlying22 hi hz0 hz1 hz2 rfl (by decide) _ _ _ rfl (World.ownsRow_made w #[] 0 (Nat.le_refl _) (Nat.zero_le _) rfl) ad n cap (versC l) rfl HM.out ?qc2 (versC_one l) ?qc4 ?qc5 ?qc6 ?_)
  case qc2 => exact fun j u hj => Lib.cell?_alloc_some _ (HC.out j u hj)
  case qc4 => unfold maxLen; omega
  case qc5 => omega
  case qc6 => simp
  intro v' w1 hown hgrow hnil
  have HB : Hid (Below w.heap.size w w1) := ((Below.refl _ w).alloc (Nat.le_refl _) _).grown hgrow (by simp) (by intro k hk; simp [Value.ownBlock] at hk; omega)
  have HO : Hid (OwnsV w1 w.heap.size v' l) := by
    show OwnsV _ _ _ _
    unfold OwnsV
    rw [HL.out]
    simpa using hown
  clear hown hgrow hnil
  go_wp2_with fail
  go_ret
  exact ⟨v', rfl, HO.out, HB.out⟩

set_option maxRecDepth 100000 in
set_option maxHeartbeats 400000 in
theorem Clone_nil (w : World) (n cap : Nat) :
    Calls Try.prog 29 #[.slice none n cap] w fun e w' => ∃ v, e = .returned v ∧ OwnsV w' w.heap.size v [] ∧ Below w.heap.size w w' := by
  have q22 : ∀ (w : World) (a : Option Addr) (n c n' c' : Nat), (binOp .eql 22 (.slice a n c) (.slice none n' c')).run Try.prog w = .ok (.bool a.isNone) w := fun w a n c n' c' => Lib.run_eql_slice_nil w _ _ a n c n' c' Try.underlying22
  go_enter Try.func29, Try.ntmps29
  go_wp2_with fail
  go_ret
  exact ⟨_, rfl, World.ownsRow_nil _ _ _ _, Below.refl _ _⟩

/-- The rest of a slice of versions, as slicing gives it: cloned. -/
theorem Clone_any {w : World} {v : Value} {l : List Ver} (h : Vers w v l) (h64 : l.length ≤ 64) :
    Calls Try.prog 29 #[v] w fun e w' => ∃ v', e = .returned v' ∧ OwnsV w' w.heap.size v' l ∧ Below w.heap.size w w' := by
  obtain ⟨ao, cap, rfl, h1, h2, h3⟩ := h
  cases ao with
  | none =>
    have : l = [] := by
      rcases Nat.eq_zero_or_pos l.length with h | h
      · exact List.length_eq_zero_iff.1 h
      · obtain ⟨b, off, e, _⟩ := h3 h; cases e
    subst this
    exact Clone_nil w _ cap
  | some ad =>
    refine Clone_some w ad _ cap l rfl h64 ?_
    rcases Nat.eq_zero_or_pos l.length with h | h
    · intro j u hj
      have : l = [] := List.length_eq_zero_iff.1 h
      subst this
      simp [versC] at hj
    · obtain ⟨b, off, e, hb, hcl⟩ := h3 h
      obtain rfl : ad = ⟨b, off, none⟩ := Option.some.inj e
      exact vers_news rfl hcl

end Go.Proofs.Ytbboamfjkdcjeaa
