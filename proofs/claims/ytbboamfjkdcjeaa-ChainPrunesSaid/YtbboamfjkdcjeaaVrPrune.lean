/-
  The contract of chain.Prune.
-/
import Derived.Test.YtbboamfjkdcjeaaVrClone
set_option linter.unusedVariables false
namespace Go.Proofs.Ytbboamfjkdcjeaa
open Go.RowKit

/-- The rest of a row. -/
theorem Vers.rest {w : World} {b off n cap k : Nat} {l : List Ver} (hl : l.length = n) (h1 : n ≤ cap) (h2 : cap ≤ maxLen) (hb : b < w.heap.size) (hcl : ∀ i, i < n → VerAt w b (off + i * 5) (vat l i)) (hk : k ≤ n) (ao : Option Addr) (c : Nat) (hc : n - k ≤ c) (hc2 : c ≤ maxLen) (hao : k < n → ao = some ⟨b, off + k * 5, none⟩) : Vers w (.slice ao (n - k) c) (l.drop k) :=
  ⟨ao, c, by rw [List.length_drop, hl], by rw [List.length_drop, hl]; omega, hc2, fun hp => ⟨b, off + k * 5, hao (by rw [List.length_drop] at hp; omega), hb, fun i hi => by
    rw [List.length_drop] at hi
    rw [vat_drop, show off + k * 5 + i * 5 = off + (k + i) * 5 by omega]
    exact hcl (k + i) (by omega)⟩⟩

set_option maxRecDepth 100000 in
set_option maxHeartbeats 1000000 in
theorem Prune_row (w : World) (x y z : Int) (b off len cap n : Nat) (g : Bool) (l : List Ver) (k : Nat) (hl : l.length = len) (h64 : len ≤ 64) (hle : len ≤ cap) (hmx : cap ≤ maxLen) (hb : b < w.heap.size) (hcl : ∀ i, i < len → VerAt w b (off + i * 5) (vat l i))
    (hr : rightC l = true) (hn : IsCnt l x y z n) (hk : (n = 0 ∧ k = 0) ∨ (0 < n ∧ (vat l (n - 1)).2.2.2.1 = true ∧ k = n) ∨ (0 < n ∧ (vat l (n - 1)).2.2.2.1 = false ∧ k = n - 1)) :
    Calls Try.prog 20 #[.slice (some ⟨b, off, none⟩) len cap, (Go.Value.agg #[Go.Value.int Go.IntKind.i64 x, Go.Value.int Go.IntKind.i64 y, Go.Value.int Go.IntKind.i64 z])] w fun e w' => ∃ v', e = .returned v' ∧ OwnsV w' w.heap.size v' (l.drop k) ∧ Below w.heap.size w w' := by
  have HVS : ∀ W, Below w.heap.size w W → Vers W (.slice (some ⟨b, off, none⟩) len cap) l := fun W hW => ⟨_, cap, by rw [hl], by omega, hmx, fun hp =>
    ⟨b, off, rfl, Nat.lt_of_lt_of_le hb hW.size, fun i hi => (hcl i (by omega)).next hW hb⟩⟩
  have HR : Hid (∀ W, Below w.heap.size w W → Calls Try.prog 14 #[.slice (some ⟨b, off, none⟩) len cap] W fun e w' => e = .returned (.bool true) ∧ Below W.heap.size W w') := by
    intro W hW
    rw [← hr]
    exact CRight_any (HVS W hW)
  have HU : Hid (∀ W, Below w.heap.size w W → Calls Try.prog 28 #[.slice (some ⟨b, off, none⟩) len cap, (Go.Value.agg #[Go.Value.int Go.IntKind.i64 x, Go.Value.int Go.IntKind.i64 y, Go.Value.int Go.IntKind.i64 z])] W fun e w' => e = .returned (.int .i64 n) ∧ Below W.heap.size W w') := by
    intro W hW
    exact upTo_any (HVS W hW) (rightC_spec hr).1 hn
  have hnl : n ≤ len := by rw [← hl]; exact hn.1
  have hkl : k ≤ len := by omega
  have HCLO : Hid (∀ W (ao : Option Addr) c, Below w.heap.size w W → len - k ≤ c → c ≤ maxLen → (k < len → ao = some ⟨b, off + k * 5, none⟩) → Calls Try.prog 29 #[.slice ao (len - k) c] W fun e w' => ∃ v', e = .returned v' ∧ OwnsV w' W.heap.size v' (l.drop k) ∧ Below W.heap.size W w') := by
    intro W ao c hW hc hc2 hao
    exact Clone_any (Vers.rest hl hle hmx (Nat.lt_of_lt_of_le hb hW.size) (fun i hi => (hcl i hi).next hW hb) hkl ao c hc hc2 hao) (by rw [List.length_drop]; omega)
  have HCELL : Hid (∀ W i, Below w.heap.size w W → i < len → W.cell? ⟨b, off + i * 5 + 3, none⟩ = some (.bool (vat l i).2.2.2.1)) := fun W i hW hi => ((hcl i hi).next hW hb).2.2.2.1
  have HLE := Lib.hid hle
  have HMX := Lib.hid hmx
  have HB0 : Hid (Below w.heap.size w (w.alloc (.cells #[.int .i64 x, .int .i64 y, .int .i64 z] 24))) := (Below.refl _ _).alloc (Nat.le_refl _) _
  have HX0 : Hid (Box (w.alloc (.cells #[.int .i64 x, .int .i64 y, .int .i64 z] 24)) w.heap.size x y z) := Box.new w x y z
  have HK := Lib.hid hk
  have hlc : len ≤ cap := hle
  clear HVS hl hle hmx hcl hr hn hk
  go_enter Try.func20, Try.ntmps20
  go_wp2_with fail
  refine (HR.out _ HB0.out).mono ?_
  rintro e w1 ⟨rfl, hb1⟩
  have H1 : Hid (Below w.heap.size w w1 ∧ Box w1 w.heap.size x y z) := ⟨HB0.out.trans (hb1.mono HB0.out.size), HX0.out.over hb1⟩
  clear hb1 HB0 HX0
  obtain ⟨x0, x1, x2⟩ := H1.out.2.cell
  go_wp2_with fail
  refine (HU.out _ H1.out.1).mono ?_
  rintro e w2 ⟨rfl, hb2⟩
  have H2 : Hid (Below w.heap.size w w2) := H1.out.1.trans (hb2.mono H1.out.1.size)
  clear hb2 H1 x0 x1 x2 HU HR
  rcases HK.out with ⟨rfl, rfl⟩ | ⟨h0, hg, hk⟩ | ⟨h0, hg, hk⟩
  · go_wp2_with fail
    refine (HCLO.out _ _ _ H2.out (by have := HLE.out; omega) HMX.out (fun _ => rfl)).mono ?_
    rintro e w3 ⟨v', rfl, ho, hb3⟩
    have HO : Hid (OwnsV w3 w.heap.size v' (l.drop 0) ∧ Below w.heap.size w w3) := ⟨ho.mono H2.out.size, H2.out.trans (hb3.mono H2.out.size)⟩
    clear ho hb3
    go_wp2_with fail
    go_ret
    exact ⟨v', rfl, HO.out⟩
  · obtain ⟨m, hm⟩ : ∃ m, n = m + 1 := ⟨n - 1, by omega⟩
    subst hm
    subst hk
    have hc3 := HCELL.out w2 m H2.out (by omega)
    rw [Nat.add_sub_cancel] at hg
    rw [hg] at hc3
    have q1 := IntWalk.i64_in (m : Int) (by omega)
    have q2 : m < len := by omega
    have q3 : (m : Int) + 1 - 1 = (m : Int) := by omega
    have q4 : m + 1 ≤ len := by omega
    have q5 : (m : Int) + 1 ≤ (len : Int) := by omega
    have q6 : ((m : Int) + 1).toNat = m + 1 := by omega
    have q7 : 0 ≤ (m : Int) + 1 := by omega
    clear hg h0
    go_wp2_with fail
    all_goals
      refine (HCLO.out _ _ _ H2.out (by have := HLE.out; omega) (by have := HMX.out; unfold maxLen at *; omega) (fun h => by first | rfl | (exfalso; have := HLE.out; omega))).mono ?_
      rintro e w3 ⟨v', rfl, ho, hb3⟩
      have HO : Hid (OwnsV w3 w.heap.size v' (l.drop (m + 1)) ∧ Below w.heap.size w w3) := ⟨ho.mono H2.out.size, H2.out.trans (hb3.mono H2.out.size)⟩
      clear ho hb3
      go_wp2_with fail
      go_ret
      exact ⟨v', rfl, HO.out⟩
  · obtain ⟨m, hm⟩ : ∃ m, n = m + 1 := ⟨n - 1, by omega⟩
    subst hm
    obtain rfl : k = m := by omega
    clear hk
    have hc3 := HCELL.out w2 k H2.out (by omega)
    rw [Nat.add_sub_cancel] at hg
    rw [hg] at hc3
    have q1 := IntWalk.i64_in (k : Int) (by omega)
    have q2 : k < len := by omega
    have q3 : (k : Int) + 1 - 1 = (k : Int) := by omega
    have q4 : k ≤ len := by omega
    clear hg h0
    go_wp2_with fail
    all_goals
      refine (HCLO.out _ _ _ H2.out (by have := HLE.out; omega) (by have := HMX.out; unfold maxLen at *; omega) (fun h => by first | rfl | (exfalso; have := HLE.out; omega))).mono ?_
      rintro e w3 ⟨v', rfl, ho, hb3⟩
      have HO : Hid (OwnsV w3 w.heap.size v' (l.drop k) ∧ Below w.heap.size w w3) := ⟨ho.mono H2.out.size, H2.out.trans (hb3.mono H2.out.size)⟩
      clear ho hb3
      go_wp2_with fail
      go_ret
      exact ⟨v', rfl, HO.out⟩

set_option maxRecDepth 100000 in
set_option maxHeartbeats 400000 in
theorem Prune_nil (w : World) (x y z : Int) (ao : Option Addr) (cap : Nat)
    (HR : Hid (∀ W, Calls Try.prog 14 #[.slice ao 0 cap] W fun e w' => e = .returned (.bool true) ∧ Below W.heap.size W w'))
    (HU : Hid (∀ W, Calls Try.prog 28 #[.slice ao 0 cap, (Go.Value.agg #[Go.Value.int Go.IntKind.i64 x, Go.Value.int Go.IntKind.i64 y, Go.Value.int Go.IntKind.i64 z])] W fun e w' => e = .returned (.int .i64 0) ∧ Below W.heap.size W w'))
    (HC : Hid (∀ W (ao : Option Addr) c, c ≤ maxLen → Calls Try.prog 29 #[.slice ao 0 c] W fun e w' => ∃ v', e = .returned v' ∧ OwnsV w' W.heap.size v' [] ∧ Below W.heap.size W w'))
    (HB0 : Hid (Below w.heap.size w (w.alloc (.cells #[.int .i64 x, .int .i64 y, .int .i64 z] 24))))
    (HX0 : Hid (Box (w.alloc (.cells #[.int .i64 x, .int .i64 y, .int .i64 z] 24)) w.heap.size x y z)) (HM : Hid (cap ≤ maxLen)) :
    Calls Try.prog 20 #[.slice ao 0 cap, (Go.Value.agg #[Go.Value.int Go.IntKind.i64 x, Go.Value.int Go.IntKind.i64 y, Go.Value.int Go.IntKind.i64 z])] w fun e w' => ∃ v', e = .returned v' ∧ OwnsV w' w.heap.size v' [] ∧ Below w.heap.size w w' := by
  cases ao
  all_goals
    go_enter Try.func20, Try.ntmps20
    go_wp2_with fail
    refine (HR.out _).mono ?_
    rintro e w1 ⟨rfl, hb1⟩
    have H1 : Hid (Below w.heap.size w w1 ∧ Box w1 w.heap.size x y z) := ⟨HB0.out.trans (hb1.mono HB0.out.size), HX0.out.over hb1⟩
    clear hb1 HB0 HX0
    obtain ⟨x0, x1, x2⟩ := H1.out.2.cell
    go_wp2_with fail
    refine (HU.out _).mono ?_
    rintro e w2 ⟨rfl, hb2⟩
    have H2 : Hid (Below w.heap.size w w2) := H1.out.1.trans (hb2.mono H1.out.1.size)
    clear hb2 H1 x0 x1 x2 HU HR
    go_wp2_with fail
    all_goals
      refine (HC.out _ _ _ (by have := HM.out; unfold maxLen at *; omega)).mono ?_
      rintro e w3 ⟨v', rfl, ho, hb3⟩
      have HO : Hid (OwnsV w3 w.heap.size v' [] ∧ Below w.heap.size w w3) := ⟨ho.mono H2.out.size, H2.out.trans (hb3.mono H2.out.size)⟩
      clear ho hb3
      go_wp2_with fail
      go_ret
      exact ⟨v', rfl, HO.out⟩

theorem CPrune_any {w : World} {v : Value} {l : List Ver} {x y z : Int} {k : Nat} (h : Vers w v l) (hr : rightC l = true) (hk : IsCut l x y z k) :
    Calls Try.prog 20 #[v, (Go.Value.agg #[Go.Value.int Go.IntKind.i64 x, Go.Value.int Go.IntKind.i64 y, Go.Value.int Go.IntKind.i64 z])] w fun e w' => ∃ v', e = .returned v' ∧ OwnsV w' w.heap.size v' (l.drop k) ∧ Below w.heap.size w w' := by
  obtain ⟨n, hn, hk⟩ := hk
  obtain ⟨ao, cap, rfl, h1, h2, h3⟩ := h
  by_cases hp : 0 < l.length
  · obtain ⟨b, off, rfl, hb, hcl⟩ := h3 hp
    exact Prune_row w x y z b off _ cap n false l k rfl (rightC_spec hr).1 h1 h2 hb hcl hr hn hk
  · have hl : l = [] := List.length_eq_zero_iff.1 (by omega)
    subst hl
    have hn0 : n = 0 := by have := hn.1; simpa using this
    subst hn0
    obtain rfl : k = 0 := by omega
    have HV : ∀ W, Vers W (.slice ao 0 cap) [] := fun W => ⟨ao, cap, rfl, h1, h2, fun hp => absurd hp (by simp)⟩
    have HR : Hid (∀ W, Calls Try.prog 14 #[.slice ao 0 cap] W fun e w' => e = .returned (.bool true) ∧ Below W.heap.size W w') := fun W => by
      rw [← hr]; exact CRight_any (HV W)
    have HU : Hid (∀ W, Calls Try.prog 28 #[.slice ao 0 cap, (Go.Value.agg #[Go.Value.int Go.IntKind.i64 x, Go.Value.int Go.IntKind.i64 y, Go.Value.int Go.IntKind.i64 z])] W fun e w' => e = .returned (.int .i64 0) ∧ Below W.heap.size W w') := fun W => upTo_any (HV W) (by simp) hn
    have HC : Hid (∀ W (ao : Option Addr) c, c ≤ maxLen → Calls Try.prog 29 #[.slice ao 0 c] W fun e w' => ∃ v', e = .returned v' ∧ OwnsV w' W.heap.size v' [] ∧ Below W.heap.size W w') := fun W ao c hc => Clone_any ⟨ao, c, rfl, Nat.zero_le _, hc, fun hp => absurd hp (by simp)⟩ (by simp)
    have HB0 : Hid (Below w.heap.size w (w.alloc (.cells #[.int .i64 x, .int .i64 y, .int .i64 z] 24))) := (Below.refl _ _).alloc (Nat.le_refl _) _
    have HX0 : Hid (Box (w.alloc (.cells #[.int .i64 x, .int .i64 y, .int .i64 z] 24)) w.heap.size x y z) := Box.new w x y z
    have HM := Lib.hid h2
    clear h1 h2 h3 hp hr hn hk HV
    exact Prune_nil w x y z ao cap HR HU HC HB0 HX0 HM

set_option maxRecDepth 100000 in
set_option maxHeartbeats 400000 in
theorem CPrune_bad {w : World} {v : Value} {l : List Ver} (h : Vers w v l) (hr : rightC l = false) (x y z : Int) :
    Calls Try.prog 20 #[v, (Go.Value.agg #[Go.Value.int Go.IntKind.i64 x, Go.Value.int Go.IntKind.i64 y, Go.Value.int Go.IntKind.i64 z])] w fun e w' => e = .returned (.slice none 0 0) ∧ Below w.heap.size w w' := by
  have HR : Hid (∀ W, Below w.heap.size w W → Calls Try.prog 14 #[v] W fun e w' => e = .returned (.bool false) ∧ Below W.heap.size W w') := fun W hW => by rw [← hr]; exact CRight_any (h.next hW)
  have HB0 : Hid (Below w.heap.size w (w.alloc (.cells #[.int .i64 x, .int .i64 y, .int .i64 z] 24))) := (Below.refl _ _).alloc (Nat.le_refl _) _
  clear h hr
  go_enter Try.func20, Try.ntmps20
  go_wp2_with fail
  refine (HR.out _ HB0.out).mono ?_
  rintro e w1 ⟨rfl, hb1⟩
  go_wp2_with fail
  go_ret
  exact ⟨rfl, HB0.out.trans (hb1.mono HB0.out.size)⟩

end Go.Proofs.Ytbboamfjkdcjeaa
