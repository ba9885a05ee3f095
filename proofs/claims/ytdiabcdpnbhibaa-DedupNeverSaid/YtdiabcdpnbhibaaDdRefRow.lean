/-
  The contracts of the document's Req and Row.
-/
import Derived.Test.YtdiabcdpnbhibaaDdRefRight
set_option linter.unusedVariables false
namespace Go.Proofs.Ytdiabcdpnbhibaa
open Go.RowKit

theorem det_c {es : List DnV} {l : List Dn} (h : es.map Prod.fst = l) (i : Nat) : (det es i).1.1 = dC (dat l i) := congrArg dC (det_map h i)
theorem det_r {es : List DnV} {l : List Dn} (h : es.map Prod.fst = l) (i : Nat) : (det es i).1.2.1 = dR (dat l i) := congrArg dR (det_map h i)

set_option maxRecDepth 100000 in
set_option maxHeartbeats 1000000 in
theorem refReq_any {w : World} {v : Value} {l : List Dn} (h : Tab w v l) (c : Int) : Calls Try.prog 25 #[v, .int .i64 c] w fun e w' => e = .returned (.int .i64 (reqT l c)) ∧ w' = w := by
  obtain ⟨ao, n, cap, es, rfl, hl, hle, hmx, hn, hrow, hmap⟩ := h.opened
  have HL := Lib.hid hl
  have HR := Lib.hid hrow
  have HE := Lib.hid hmap
  clear hl hrow hmap hle hmx h
  go_enter Try.func25, Try.ntmps25
  go_wp2_with fail
  go_loop [5] (fun i => ∃ k : Nat, k ≤ n ∧ i = .int .i64 k ∧ Hid (∀ j, j < k → ¬ dC (dat l j) = c)) (fun i => n - (intOf i).toNat)
  case atStart => exact ⟨0, Nat.zero_le _, rfl, fun j hj => absurd hj (Nat.not_lt_zero _)⟩
  case round =>
    obtain ⟨k, hk, rfl, hok⟩ := hrel
    by_cases hlt : k < n
    · obtain ⟨b, off, rfl, hb, hcl⟩ := HR.out (by omega)
      have x0 := (hcl k hlt).1
      have x1 := (hcl k hlt).2.1
      obtain ⟨c1, hc1⟩ : ∃ c1, c1 = dC (dat l k) := ⟨_, rfl⟩
      obtain ⟨r1, hr1⟩ : ∃ r1, r1 = dR (dat l k) := ⟨_, rfl⟩
      rw [det_c HE.out, ← hc1] at x0
      rw [det_r HE.out, ← hr1] at x1
      have HC := Lib.hid hc1
      have HRR := Lib.hid hr1
      have q4 : k < n := hlt
      clear hcl hc1 hr1
      by_cases hcc : c1 = c
      · have HX : Hid (reqT l c = r1) := by
          show _ = _
          rw [req_at (row_at (k := k) (by rw [HL.out]; exact hlt) hok.out (by rw [← HC.out]; exact hcc)), HRR.out]
        subst hcc
        go_wp2_with fail
        go_ret
        exact ⟨by rw [HX.out]; rfl, rfl⟩
      · have d1 : (c1 == c) = false := beq_eq_false_iff_ne.2 hcc
        have HN : Hid (∀ j, j < k + 1 → ¬ dC (dat l j) = c) := by
          intro j hj
          by_cases hjk : j < k
          · exact hok.out j hjk
          · obtain rfl : j = k := by omega
            rw [← HC.out]; exact hcc
        go_wp2_with fail
        go_round
        case rel => exact ⟨k + 1, by omega, by go_num, HN⟩
        case measure => simp [intOf]; omega
    · have HX : Hid (reqT l c = 0) := req_none (row_none fun j hj => hok.out j (by rw [HL.out] at hj; omega))
      go_wp2_with fail
      go_ret
      exact ⟨by rw [HX.out]; rfl, rfl⟩

/-- The result's box. -/
def Rw1 (w : World) (d : DnV) (W : World) : Prop := Below w.heap.size w W ∧ DBox W w.heap.size d
theorem Rw1.new (w : World) : Rw1 w dnv0 (w.alloc (.cells #[Go.Value.int Go.IntKind.i64 0, Go.Value.int Go.IntKind.i64 0, Go.Value.int Go.IntKind.i64 0, Go.Value.int Go.IntKind.i64 0, Go.Value.int Go.IntKind.i64 0, Go.Value.int Go.IntKind.i64 0, Go.Value.bool false, Go.Value.string ({ data := #[] }), Go.Value.slice none 0 0, Go.Value.string ({ data := #[] }), Go.Value.bool false] 33)) := ⟨(Below.refl _ _).alloc (Nat.le_refl _) _, DBox.new w dnv0⟩

/-- The first row of a client, or a zero row. -/
def RowRes (l : List Dn) (c : Int) (e : Ending) : Prop := ∃ d : DnV, e = .returned (.tuple #[dnV d, .bool (rowT l c).isSome]) ∧ (∀ x, rowT l c = some x → d.1 = x) ∧ (rowT l c = none → d = dnv0)
set_option maxRecDepth 100000 in
set_option maxHeartbeats 1000000 in
theorem refRow_any {w : World} {v : Value} {l : List Dn} (h : Tab w v l) (c : Int) : Calls Try.prog 15 #[v, .int .i64 c] w fun e w' => RowRes l c e ∧ Below w.heap.size w w' := by
  obtain ⟨ao, n, cap, es, rfl, hl, hle, hmx, hn, hrow, hmap⟩ := h.opened
  have HL := Lib.hid hl
  have HR := Lib.hid hrow
  have HE := Lib.hid hmap
  clear hl hrow hmap hle hmx h
  obtain ⟨w2, H2, HW2⟩ : ∃ w2, Hid (Rw1 w dnv0 w2) ∧ Hid ((w.alloc (.cells #[Go.Value.int Go.IntKind.i64 0, Go.Value.int Go.IntKind.i64 0, Go.Value.int Go.IntKind.i64 0, Go.Value.int Go.IntKind.i64 0, Go.Value.int Go.IntKind.i64 0, Go.Value.int Go.IntKind.i64 0, Go.Value.bool false, Go.Value.string ({ data := #[] }), Go.Value.slice none 0 0, Go.Value.string ({ data := #[] }), Go.Value.bool false] 33)) = w2) := ⟨_, Rw1.new w, rfl⟩
  go_enter Try.func15, Try.ntmps15
  go_upto_region 1 with (fail)
  rw [HW2.out]
  clear HW2
  go_wp2_with fail
  go_loop [6] (fun i => ∃ k : Nat, k ≤ n ∧ i = .int .i64 k ∧ Hid (∀ j, j < k → ¬ dC (dat l j) = c)) (fun i => n - (intOf i).toNat)
  case atStart => exact ⟨0, Nat.zero_le _, rfl, fun j hj => absurd hj (Nat.not_lt_zero _)⟩
  case round =>
    obtain ⟨k, hk, rfl, hok⟩ := hrel
    by_cases hlt : k < n
    · obtain ⟨b, off, rfl, hb, hcl⟩ := HR.out (by omega)
      have HK : Hid (DnAt w2 b (off + k * 11) (det es k)) := (hcl k hlt).next H2.out.1 hb
      obtain ⟨d, hd⟩ : ∃ d, d = det es k := ⟨_, rfl⟩
      have hdk : d.1 = dat l k := by rw [hd]; exact det_map HE.out k
      rw [← hd] at HK
      obtain ⟨⟨c1, r, e, ⟨x, y, z⟩, f, v, ni, nx, m⟩, ai, ci⟩ := d
      have HDK : Hid (dat l k = (c1, r, e, (x, y, z), f, v, ni, nx, m)) := hdk.symm
      obtain ⟨x0, x1, x2, x3, x4, x5, x6, x7, x8, x9, x10⟩ := HK.out
      dsimp only at x0 x1 x2 x3 x4 x5 x6 x7 x8 x9 x10
      have q4 : k < n := hlt
      clear hd hdk hcl
      by_cases hcc : c1 = c
      · have HX : Hid (rowT l c = some (c1, r, e, (x, y, z), f, v, ni, nx, m)) := by
          show _ = _
          rw [row_at (k := k) (by rw [HL.out]; exact hlt) hok.out (by rw [HDK.out]; exact hcc), HDK.out]
        subst hcc
        go_wp2_with (refine dbox_store (d' := ((c1, r, e, (x, y, z), f, v, ni, nx, m), ai, ci)) w.heap.size H2.out.2 rfl _ _ rfl rfl rfl ?_)
        refine bodyPost_ret (dbox_result2 rfl _ _ w.heap.size rfl (H2.out.2.set ((c1, r, e, (x, y, z), f, v, ni, nx, m), ai, ci))) rfl ⟨⟨((c1, r, e, (x, y, z), f, v, ni, nx, m), ai, ci), by rw [HX.out]; rfl, fun x hx => ?_, fun hx => ?_⟩, below_setRow H2.out.1 (Nat.le_refl _) _⟩
        · rw [HX.out] at hx; injection hx
        · rw [HX.out] at hx; cases hx
      · have d1 : (c1 == c) = false := beq_eq_false_iff_ne.2 hcc
        have HN : Hid (∀ j, j < k + 1 → ¬ dC (dat l j) = c) := by
          intro j hj
          by_cases hjk : j < k
          · exact hok.out j hjk
          · obtain rfl : j = k := by omega
            rw [HDK.out]; exact hcc
        go_wp2_with fail
        go_round
        case rel => exact ⟨k + 1, by omega, by go_num, HN⟩
        case measure => simp [intOf]; omega
    · have HX : Hid (rowT l c = none) := row_none fun j hj => hok.out j (by rw [HL.out] at hj; omega)
      go_wp2_with (refine dbox_store (d' := dnv0) w.heap.size H2.out.2 rfl _ _ rfl rfl rfl ?_)
      refine bodyPost_ret (dbox_result2 rfl _ _ w.heap.size rfl (H2.out.2.set dnv0)) rfl ⟨⟨dnv0, by rw [HX.out]; rfl, fun x hx => ?_, fun _ => rfl⟩, below_setRow H2.out.1 (Nat.le_refl _) _⟩
      rw [HX.out] at hx; cases hx

end Go.Proofs.Ytdiabcdpnbhibaa
