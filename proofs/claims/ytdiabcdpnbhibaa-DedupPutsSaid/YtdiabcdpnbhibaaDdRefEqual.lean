/-
  The contracts of the document's SameAnswer and Equal of tables with the same rows, none with items.
-/
import Derived.Test.YtdiabcdpnbhibaaDdRefRight
import Derived.Test.YtdiabcdpnbhibaaSmEq
set_option linter.unusedVariables false
namespace Go.Proofs.Ytdiabcdpnbhibaa
open Go.RowKit

set_option maxRecDepth 100000 in
set_option maxHeartbeats 2000000 in
theorem refSameA_any (e x y z : Int) (f : Bool) (v : ByteArray) (ai aj : Option Addr) (ci cj : Nat) (nx : ByteArray) (m : Bool) (w : World) :
    Calls Try.prog 28 #[(Go.Value.agg #[Go.Value.int Go.IntKind.i64 e, Go.Value.int Go.IntKind.i64 x, Go.Value.int Go.IntKind.i64 y, Go.Value.int Go.IntKind.i64 z, Go.Value.bool f, Go.Value.string v, Go.Value.slice ai 0 ci, Go.Value.string nx, Go.Value.bool m]), (Go.Value.agg #[Go.Value.int Go.IntKind.i64 e, Go.Value.int Go.IntKind.i64 x, Go.Value.int Go.IntKind.i64 y, Go.Value.int Go.IntKind.i64 z, Go.Value.bool f, Go.Value.string v, Go.Value.slice aj 0 cj, Go.Value.string nx, Go.Value.bool m])] w fun e' w' => e' = .returned (.bool true) ∧ Below w.heap.size w w' := by
  obtain ⟨w2, H2, HW2⟩ : ∃ w2, Hid (Below w.heap.size w w2 ∧ ABox w2 w.heap.size e x y z f v ai 0 ci nx m ∧ ABox w2 (w.heap.size + 1) e x y z f v aj 0 cj nx m) ∧ Hid (((w.alloc (.cells #[Go.Value.int Go.IntKind.i64 e, Go.Value.int Go.IntKind.i64 x, Go.Value.int Go.IntKind.i64 y, Go.Value.int Go.IntKind.i64 z, Go.Value.bool f, Go.Value.string v, Go.Value.slice ai 0 ci, Go.Value.string nx, Go.Value.bool m] 31)).alloc (.cells #[Go.Value.int Go.IntKind.i64 e, Go.Value.int Go.IntKind.i64 x, Go.Value.int Go.IntKind.i64 y, Go.Value.int Go.IntKind.i64 z, Go.Value.bool f, Go.Value.string v, Go.Value.slice aj 0 cj, Go.Value.string nx, Go.Value.bool m] 31)) = w2) := by
    refine ⟨_, ⟨((Below.refl _ _).alloc (Nat.le_refl _) _).alloc (by simp) _, (ABox.new w e x y z f v ai 0 ci nx m).over ((Below.refl _ _).alloc (Nat.le_refl _) _), ?_⟩, rfl⟩
    have := ABox.new (w.alloc (.cells #[Go.Value.int Go.IntKind.i64 e, Go.Value.int Go.IntKind.i64 x, Go.Value.int Go.IntKind.i64 y, Go.Value.int Go.IntKind.i64 z, Go.Value.bool f, Go.Value.string v, Go.Value.slice ai 0 ci, Go.Value.string nx, Go.Value.bool m] 31)) e x y z f v aj 0 cj nx m
    simpa using this
  go_enter Try.func28, Try.ntmps28
  go_upto_region 1 with (fail)
  rw [HW2.out]
  clear HW2
  have HBL : Hid (Below w.heap.size w w2) := H2.out.1
  generalize w.heap.size = g at H2 ⊢
  obtain ⟨x0, x1, x2, x3, x4, x5, x6, x7, x8⟩ := H2.out.2.1.cell
  obtain ⟨y0, y1, y2, y3, y4, y5, y6, y7, y8⟩ := H2.out.2.2.cell
  go_wp2_with fail
  go_loop [5] (fun i => i = .int .i64 0) (fun _ => 0)
  case atStart => rfl
  case round =>
    obtain rfl := hrel
    go_wp2_with fail
    go_ret
    exact ⟨rfl, HBL.out⟩

/-- Two rows that lie somewhere. -/
def Eq2 (w : World) (b1 o1 : Nat) (d1 : DnV) (b2 o2 : Nat) (d2 : DnV) (W : World) : Prop := b1 < w.heap.size ∧ b2 < w.heap.size ∧ Below w.heap.size w W ∧ DnAt W b1 o1 d1 ∧ DnAt W b2 o2 d2
theorem Eq2.next {w W W' : World} {b1 o1 b2 o2 : Nat} {d1 d2 : DnV} (H : Eq2 w b1 o1 d1 b2 o2 d2 W) (hb : Below W.heap.size W W') : Eq2 w b1 o1 d1 b2 o2 d2 W' := by
  obtain ⟨h1, h2, h3, h4, h5⟩ := H
  have := h3.size
  exact ⟨h1, h2, h3.trans (hb.mono h3.size), h4.next hb (by omega), h5.next hb (by omega)⟩

set_option maxRecDepth 100000 in
set_option maxHeartbeats 4000000 in
theorem refTEqual_any {w : World} {v1 v2 : Value} {l : List Dn} (h1 : Tab w v1 l) (h2 : Tab w v2 l) (hb : ∀ d ∈ l, dN d = 0) :
    Calls Try.prog 16 #[v1, v2] w fun e w' => e = .returned (.bool true) ∧ Below w.heap.size w w' := by
  obtain ⟨ao, n, cap, es, rfl, hl, hle, hmx, hn, hrow, hmap⟩ := h1.opened
  obtain ⟨ao', n', cap', es', rfl, hl', hle', hmx', hn', hrow', hmap'⟩ := h2.opened
  obtain rfl : n = n' := by omega
  have HL := Lib.hid hl
  have HR := Lib.hid hrow
  have HE := Lib.hid hmap
  have HR' := Lib.hid hrow'
  have HE' := Lib.hid hmap'
  have HB := Lib.hid hb
  clear hl hrow hmap hle hmx hl' hrow' hmap' hle' hmx' hn' h1 h2 hb
  go_enter Try.func16, Try.ntmps16
  go_wp2_with fail
  go_loopw [5] (fun i wr => ∃ k : Nat, k ≤ n ∧ i = .int .i64 k ∧ Hid (Below w.heap.size w wr)) (fun i _ => n - (intOf i).toNat)
  case atStart => exact ⟨0, Nat.zero_le _, rfl, Below.refl _ _⟩
  case round =>
    obtain ⟨k, hk, rfl, hbel⟩ := hrel
    by_cases hlt : k < n
    · obtain ⟨b1, off1, rfl, hb1, hcl⟩ := HR.out (by omega)
      obtain ⟨b2, off2, rfl, hb2, hcl'⟩ := HR'.out (by omega)
      have hkl : k < l.length := by rw [HL.out]; exact hlt
      have hN := HB.out _ (dat_in hkl)
      obtain ⟨d, hd⟩ : ∃ d, d = det es k := ⟨_, rfl⟩
      obtain ⟨d', hd'⟩ : ∃ d, d = det es' k := ⟨_, rfl⟩
      have hdk : d.1 = dat l k := by rw [hd]; exact det_map HE.out k
      have hdk' : d'.1 = dat l k := by rw [hd']; exact det_map HE'.out k
      have H2 : Hid (Eq2 w b1 (off1 + k * 11) d b2 (off2 + k * 11) d' wr) := ⟨hb1, hb2, hbel.out, by rw [hd]; exact (hcl k hlt).next hbel.out hb1, by rw [hd']; exact (hcl' k hlt).next hbel.out hb2⟩
      rw [← hdk] at hN hdk'
      obtain ⟨⟨c, r, e, ⟨x, y, z⟩, f, v, ni, nx, mo⟩, ai, ci⟩ := d
      obtain ⟨d1', aj, cj⟩ := d'
      have e1 : d1' = (c, r, e, (x, y, z), f, v, ni, nx, mo) := hdk'
      subst e1
      have e2 : ni = 0 := hN
      subst e2
      have HSA : Hid (∀ W, Calls Try.prog 28 #[(Go.Value.agg #[Go.Value.int Go.IntKind.i64 e, Go.Value.int Go.IntKind.i64 x, Go.Value.int Go.IntKind.i64 y, Go.Value.int Go.IntKind.i64 z, Go.Value.bool f, Go.Value.string v, Go.Value.slice ai 0 ci, Go.Value.string nx, Go.Value.bool mo]), (Go.Value.agg #[Go.Value.int Go.IntKind.i64 e, Go.Value.int Go.IntKind.i64 x, Go.Value.int Go.IntKind.i64 y, Go.Value.int Go.IntKind.i64 z, Go.Value.bool f, Go.Value.string v, Go.Value.slice aj 0 cj, Go.Value.string nx, Go.Value.bool mo])] W fun e' w' => e' = .returned (.bool true) ∧ Below W.heap.size W w') := fun W => refSameA_any e x y z f v ai aj ci cj nx mo W
      have q4 : k < n := hlt
      clear hd hd' hdk hdk' hN hcl hcl' hkl hbel
      go_upto_region 6 with (fail)
      refine wp_region_calm (Eq2 w b1 (off1 + k * 11) ((c, r, e, (x, y, z), f, v, 0, nx, mo), ai, ci) b2 (off2 + k * 11) ((c, r, e, (x, y, z), f, v, 0, nx, mo), aj, cj)) (by kernel_rfl) (by kernel_rfl) (H2.out.next ((Below.refl _ _).drew)) ?_
      repeat ((with_reducible refine wpQuiet_step (fun K hK => ?_)); go_simp; first | (refine hK _ ?_; clear hK K) | (apply Exists.intro; refine ⟨fun wc hwc => ?_, hK _ ?_⟩; (focus (first | (first | (go_at_call 28; refine (HSA.out _).mono ?_; rintro e' w1 ⟨rfl, hb1⟩; exact ⟨rfl, hwc.next hb1⟩)) | (((obtain ⟨_, _, _, ⟨x0, x1, x2, x3, x4, x5, x6, x7, x8, x9, x10⟩, ⟨y0, y1, y2, y3, y4, y5, y6, y7, y8, y9, y10⟩⟩ := hwc; dsimp only at x0 x1 x2 x3 x4 x5 x6 x7 x8 x9 x10 y0 y1 y2 y3 y4 y5 y6 y7 y8 y9 y10)); go_simp; done) | (((obtain ⟨_, _, _, ⟨x0, x1, x2, x3, x4, x5, x6, x7, x8, x9, x10⟩, ⟨y0, y1, y2, y3, y4, y5, y6, y7, y8, y9, y10⟩⟩ := hwc; dsimp only at x0 x1 x2 x3 x4 x5 x6 x7 x8 x9 x10 y0 y1 y2 y3 y4 y5 y6 y7 y8 y9 y10)); go_simp; exact rfl))); clear hK K))
      refine wpQuiet_nil ?_
      intro wc hwc
      go_wp2_with fail
      go_roundw
      case rel => exact ⟨k + 1, by omega, by go_num, hwc.2.2.1⟩
      case measure => simp [intOf]; omega
    · obtain rfl : k = n := by omega
      go_wp2_with fail
      go_ret
      exact ⟨rfl, hbel.out⟩

end Go.Proofs.Ytdiabcdpnbhibaa
