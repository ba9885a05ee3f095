/-
  The contracts of chain.At and chain.Value.
-/
import Derived.Test.YtbboamfjkdcjeaaVrRight
import Derived.Test.YtbboamfjkdcjeaaVrFind
set_option linter.unusedVariables false
namespace Go.Proofs.Ytbboamfjkdcjeaa
open Go.RowKit

/-- The stamp's box and the result's. -/
def At2 (w : World) (x y z : Int) (u : Ver) (W : World) : Prop :=
  Below w.heap.size w W ∧ Box W w.heap.size x y z ∧ VBox W (w.heap.size + 1) u.1 u.2.1 u.2.2.1 u.2.2.2.1 u.2.2.2.2
theorem At2.next {w W W' : World} {x y z : Int} {u : Ver} (H : At2 w x y z u W) (hb : Below W.heap.size W W') : At2 w x y z u W' :=
  ⟨H.1.trans (hb.mono H.1.size), H.2.1.over hb, H.2.2.over hb⟩
theorem At2.put {w W : World} {x y z : Int} {u : Ver} (H : At2 w x y z u W) (v : Ver) : At2 w x y z v (W.setRow (w.heap.size + 1) #[.int .i64 (v.1), .int .i64 (v.2.1), .int .i64 (v.2.2.1), .bool (v.2.2.2.1), .string (v.2.2.2.2)]) :=
  ⟨below_setRow H.1 (by omega) _, H.2.1.other _ (by omega), H.2.2.set _ _ _ _ _⟩
theorem At2.new (w : World) (x y z : Int) : At2 w x y z ver0 ((w.alloc (.cells #[.int .i64 x, .int .i64 y, .int .i64 z] 24)).alloc (.cells #[.int .i64 0, .int .i64 0, .int .i64 0, .bool false, .string ({ data := #[] })] 26)) := by
  refine ⟨((Below.refl w.heap.size w).alloc (Nat.le_refl _) _).alloc (by simp) _, (Box.new w x y z).alloc _, ?_⟩
  have := VBox.new (w.alloc (.cells #[.int .i64 x, .int .i64 y, .int .i64 z] 24)) 0 0 0 false { data := #[] }
  simpa [ver0] using this

set_option maxRecDepth 100000 in
set_option maxHeartbeats 1000000 in
theorem At_row (w : World) (x y z : Int) (ao : Option Addr) (len cap : Nat) (l : List Ver) (n : Nat) (r : Bool) (hl : l.length = len) (hle : len ≤ cap) (hmx : cap ≤ maxLen) (hcell : 0 < len → ∃ b off, ao = some ⟨b, off, none⟩ ∧ b < w.heap.size ∧ ∀ i, i < len → VerAt w b (off + i * 5) (vat l i))
    (hr : rightC l = r) (hn : r = true → IsCnt l x y z n) (hn0 : r = false → n = 0) (v : Ver) (hv0 : n = 0 → v = ver0) (hv1 : 0 < n → v = vat l (n - 1)) :
    Calls Try.prog 16 #[.slice ao len cap, (Go.Value.agg #[Go.Value.int Go.IntKind.i64 x, Go.Value.int Go.IntKind.i64 y, Go.Value.int Go.IntKind.i64 z])] w fun e w' => e = .returned (.tuple #[verV v, .bool (decide (0 < n))]) ∧ Below w.heap.size w w' := by
  have HC := Lib.hid hcell
  have HVS : ∀ W, Below w.heap.size w W → Vers W (.slice ao len cap) l := fun W hW => ⟨ao, cap, by rw [hl], by omega, hmx, fun hp => by
    obtain ⟨b, off, e1, h1, h2⟩ := hcell (by omega)
    exact ⟨b, off, e1, Nat.lt_of_lt_of_le h1 hW.size, fun i hi => (h2 i (by omega)).next hW h1⟩⟩
  have HR : Hid (∀ W, Below w.heap.size w W → Calls Try.prog 14 #[.slice ao len cap] W fun e w' => e = .returned (.bool r) ∧ Below W.heap.size W w') := by
    intro W hW
    rw [← hr]
    exact CRight_any (HVS W hW)
  have HU : Hid (r = true → ∀ W, Below w.heap.size w W → Calls Try.prog 28 #[.slice ao len cap, (Go.Value.agg #[Go.Value.int Go.IntKind.i64 x, Go.Value.int Go.IntKind.i64 y, Go.Value.int Go.IntKind.i64 z])] W fun e w' => e = .returned (.int .i64 n) ∧ Below W.heap.size W w') := by
    intro h W hW
    exact upTo_any (HVS W hW) (rightC_spec (hr.trans h)).1 (hn h)
  have HN : Hid (r = true → n ≤ len) := fun h => by rw [← hl]; exact (hn h).1
  have HN0 := Lib.hid hn0
  have HV0 := Lib.hid hv0
  have HV1 := Lib.hid hv1
  have hmx2 : len ≤ 9223372036854775807 := Nat.le_trans hle (Nat.le_trans hmx (by decide))
  have HL := Lib.hid hl
  clear hl hcell hr hn hn0 HVS hle hmx hv0 hv1
  go_enter Try.func16, Try.ntmps16
  go_upto_region 1 with (fail)
  obtain ⟨w2, H2, HW2⟩ : ∃ w2, Hid (At2 w x y z ver0 w2) ∧ Hid (((w.alloc (.cells #[.int .i64 x, .int .i64 y, .int .i64 z] 24)).alloc (.cells #[.int .i64 0, .int .i64 0, .int .i64 0, .bool false, .string ({ data := #[] })] 26)) = w2) := ⟨_, At2.new w x y z, rfl⟩
  rw [HW2.out]
  clear HW2
  go_wp2_with fail
  refine (HR.out _ H2.out.1).mono ?_
  rintro e w3 ⟨rfl, hb3⟩
  have H3 : Hid (At2 w x y z ver0 w3) := H2.out.next hb3
  clear hb3 H2
  cases r
  · have hn00 := HN0.out (by first | rfl | trivial)
    subst hn00
    have hv := HV0.out rfl
    subst hv
    go_wp2_with (refine vbox_store (w.heap.size + 1) H3.out.2.2 rfl _ _ rfl rfl rfl ?_)
    exact bodyPost_ret (vbox_result2 rfl _ _ (w.heap.size + 1) rfl (H3.out.2.2.set 0 0 0 false { data := #[] })) rfl ⟨rfl, below_setRow H3.out.1 (by omega) _⟩
  · obtain ⟨x0, x1, x2⟩ := H3.out.2.1.cell
    go_wp2_with fail
    refine (HU.out (by first | rfl | trivial) _ H3.out.1).mono ?_
    rintro e w4 ⟨rfl, hb4⟩
    have H4 : Hid (At2 w x y z ver0 w4) := H3.out.next hb4
    clear hb4 H3 x0 x1 x2
    by_cases h0 : n = 0
    · subst h0
      have hv := HV0.out rfl
      subst hv
      go_wp2_with (refine vbox_store (w.heap.size + 1) H4.out.2.2 rfl _ _ rfl rfl rfl ?_)
      exact bodyPost_ret (vbox_result2 rfl _ _ (w.heap.size + 1) rfl (H4.out.2.2.set 0 0 0 false { data := #[] })) rfl ⟨rfl, below_setRow H4.out.1 (by omega) _⟩
    · obtain ⟨m, hm⟩ : ∃ m, n = m + 1 := ⟨n - 1, by omega⟩
      subst hm
      have hnl := HN.out (by first | rfl | trivial)
      obtain ⟨b, off, rfl, hb, hcl⟩ := HC.out (by omega)
      have hv := HV1.out (by omega)
      rw [Nat.add_sub_cancel] at hv
      have HVA : Hid (VerAt w4 b (off + m * 5) v) := by rw [hv]; exact (hcl m (by omega)).next H4.out.1 hb
      clear hv hcl HV0 HV1 HU HR
      have q1 := IntWalk.i64_in (m : Int) (by omega)
      have q2 : m < len := by omega
      have q3 : (m : Int) + 1 - 1 = (m : Int) := by omega
      obtain ⟨a, t, c, g, s⟩ := v
      obtain ⟨y0, y1, y2, y3, y4⟩ := HVA.out
      dsimp only at y0 y1 y2 y3 y4
      clear h0
      go_wp2_with (refine vbox_store (w.heap.size + 1) H4.out.2.2 rfl _ _ rfl rfl rfl ?_)
      exact bodyPost_ret (vbox_result2 rfl _ _ (w.heap.size + 1) rfl (H4.out.2.2.set a t c g s)) rfl ⟨by rw [decide_eq_true (by omega : 0 < m + 1)]; rfl, below_setRow H4.out.1 (by omega) _⟩

theorem CAt_any {w : World} {v : Value} {l : List Ver} {x y z : Int} {u : Ver} {ok : Bool} (h : Vers w v l) (ha : IsAt l x y z u ok) :
    Calls Try.prog 16 #[v, (Go.Value.agg #[Go.Value.int Go.IntKind.i64 x, Go.Value.int Go.IntKind.i64 y, Go.Value.int Go.IntKind.i64 z])] w fun e w' => e = .returned (.tuple #[verV u, .bool ok]) ∧ Below w.heap.size w w' := by
  obtain ⟨ao, cap, rfl, h1, h2, h3⟩ := h
  rcases ha with ⟨e, rfl, rfl⟩ | ⟨e, c1, rfl, rfl⟩ | ⟨e, rfl, n, c1, rfl⟩
  · exact At_row w x y z ao _ cap l 0 false rfl h1 h2 h3 e (fun h => by cases h) (fun _ => rfl) ver0 (fun _ => rfl) (fun h => absurd h (Nat.not_lt_zero _))
  · exact At_row w x y z ao _ cap l 0 true rfl h1 h2 h3 e (fun _ => c1) (fun h => by cases h) ver0 (fun _ => rfl) (fun h => absurd h (Nat.not_lt_zero _))
  · have h4 := At_row w x y z ao _ cap l (n + 1) true rfl h1 h2 h3 e (fun _ => c1) (fun h => by cases h) (vat l n) (fun h => absurd h (by omega)) (fun h => rfl)
    rwa [decide_eq_true (by omega : 0 < n + 1)] at h4

set_option maxRecDepth 100000 in
set_option maxHeartbeats 400000 in
theorem Value_core (w : World) (v : Value) (x y z a b c : Int) (g ok : Bool) (s : ByteArray)
    (HA : Hid (∀ W, Below w.heap.size w W → Calls Try.prog 16 #[v, (Go.Value.agg #[Go.Value.int Go.IntKind.i64 x, Go.Value.int Go.IntKind.i64 y, Go.Value.int Go.IntKind.i64 z])] W fun e w' => e = .returned (.tuple #[(Go.Value.agg #[Go.Value.int Go.IntKind.i64 a, Go.Value.int Go.IntKind.i64 b, Go.Value.int Go.IntKind.i64 c, Go.Value.bool g, Go.Value.string s]), .bool ok]) ∧ Below W.heap.size W w')) :
    Calls Try.prog 18 #[v, (Go.Value.agg #[Go.Value.int Go.IntKind.i64 x, Go.Value.int Go.IntKind.i64 y, Go.Value.int Go.IntKind.i64 z])] w fun e w' => e = .returned (.tuple #[.string (valV (a, b, c, g, s) ok), .bool (hasV (a, b, c, g, s) ok)]) ∧ Below w.heap.size w w' := by
  have HB : Below w.heap.size w (w.alloc (.cells #[.int .i64 x, .int .i64 y, .int .i64 z] 24)) := (Below.refl _ _).alloc (Nat.le_refl _) _
  cases ok <;> cases g
  all_goals
    go_enter Try.func18, Try.ntmps18
    go_wp2_with fail
    refine (HA.out _ HB).mono ?_
    rintro e w1 ⟨rfl, hb1⟩
    have hb := HB.trans (hb1.mono HB.size)
    go_wp2_with fail
    go_ret2
    exact ⟨rfl, hb.alloc hb.size _⟩

theorem CValue_any {w : World} {v : Value} {l : List Ver} {x y z : Int} {u : Ver} {ok : Bool} (h : Vers w v l) (ha : IsAt l x y z u ok) :
    Calls Try.prog 18 #[v, (Go.Value.agg #[Go.Value.int Go.IntKind.i64 x, Go.Value.int Go.IntKind.i64 y, Go.Value.int Go.IntKind.i64 z])] w fun e w' => e = .returned (.tuple #[.string (valV u ok), .bool (hasV u ok)]) ∧ Below w.heap.size w w' := by
  obtain ⟨a, b, c, g, s⟩ := u
  obtain ⟨ao, cap, rfl, h1, h2, h3⟩ := h
  refine Value_core w _ x y z a b c g ok s fun W hW => CAt_any ⟨ao, cap, rfl, h1, h2, fun hp => ?_⟩ ha
  obtain ⟨b, off, e1, h4, h5⟩ := h3 hp
  exact ⟨b, off, e1, Nat.lt_of_lt_of_le h4 hW.size, fun i hi => (h5 i hi).next hW h4⟩

end Go.Proofs.Ytbboamfjkdcjeaa
