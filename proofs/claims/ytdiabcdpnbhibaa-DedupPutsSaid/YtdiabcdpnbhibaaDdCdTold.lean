/-
  The contracts of slices.Clone at no items, of dedup.copied, Told, Judge.
-/
import Derived.Test.YtdiabcdpnbhibaaDdCdRight
import Derived.Test.YtdiabcdpnbhibaaDdCdFind
import Derived.OwnWalk
import Derived.Laws.AppendOwn
import Derived.Lib.SliceRun
import Derived.Lib.BufferMore
set_option linter.unusedVariables false
namespace Go.Proofs.Ytdiabcdpnbhibaa
open Go.RowKit

theorem dinfo_itm : (Try.prog.info? 62).map (fun i => (i.zero, i.size, i.bytes)) = some (some (.agg #[.string ByteArray.empty, .string ByteArray.empty]), 2, 32) := by kernel_rfl
set_option maxRecDepth 100000 in
set_option maxHeartbeats 1000000 in
theorem dClone_any (w : World) (ao : Option Addr) (cap : Nat) :
    Calls Try.prog 36 #[.slice ao 0 cap] w fun e w' => ∃ (ai : Option Addr) (ci : Nat), e = .returned (.slice ai 0 ci) ∧ Below w.heap.size w w' := by
  obtain ⟨i0, hi, hz0, hz1, hz2⟩ := info_parts dinfo_itm
  have q22 : ∀ (w : World) (a : Option Addr) (n c n' c' : Nat), (binOp .eql 29 (.slice a n c) (.slice none n' c')).run Try.prog w = .ok (.bool a.isNone) w := fun w a n c n' c' => Lib.run_eql_slice_nil w _ _ a n c n' c' Try.underlying29
  cases ao with
  | none =>
    go_enter Try.func36, Try.ntmps36
    go_wp2_with fail
    go_ret
    exact ⟨_, _, rfl, Below.refl _ _⟩
  | some ad =>
    go_enter Try.func36, Try.ntmps36
    go_wp2_with (at_builtin; refine wpList_append_own _ rfl _ _ 29 rfl w.heap.size 62 i0 _ 2 32 Try.underlying29 hi hz0 hz1 hz2 rfl (by decide) _ _ _ rfl (World.ownsRow_made w #[] 0 (Nat.le_refl _) (Nat.zero_le _) rfl) ad 0 cap [] rfl rfl ?qc2 ?qc3 ?qc4 ?qc5 ?qc6 ?_)
    case qc2 => exact fun j u hj => by simp at hj
    case qc3 => exact fun u hu => by simp at hu
    case qc4 => unfold maxLen; omega
    case qc5 => omega
    case qc6 => simp
    intro v' w1 hown hgrow hnil
    have HB : Hid (Below w.heap.size w w1) := ((Below.refl _ w).alloc (Nat.le_refl _) _).grown hgrow (by simp) (by intro k hk; simp [Value.ownBlock] at hk; omega)
    have HV : ∃ (ai : Option Addr) (ci : Nat), v' = .slice ai 0 ci := by
      rcases hown.2 with ⟨rfl, _⟩ | ⟨g, cp, cur, rfl, _⟩
      · exact ⟨_, _, rfl⟩
      · exact ⟨_, _, rfl⟩
    obtain ⟨ai, ci, rfl⟩ := HV
    clear hown hgrow hnil
    go_wp2_with fail
    go_ret
    exact ⟨_, _, rfl, HB.out⟩

/-! ### copied -/
theorem DBox.set8 {w : World} {h : Nat} {c r e x y z : Int} {f : Bool} {v : ByteArray} {ao : Option Addr} {n cap : Nat} {nx : ByteArray} {m : Bool} (H : DBox w h ((c, r, e, (x, y, z), f, v, n, nx, m), ao, cap)) (ai : Option Addr) (ci : Nat) :
    DBox (w.setCell ⟨h, 8, none⟩ (.slice ai n ci)) h ((c, r, e, (x, y, z), f, v, n, nx, m), ai, ci) := by
  unfold DBox at H ⊢
  simp [World.setCell, Array.getElem?_modify, H]
theorem DBox.off {w : World} {h : Nat} {d : DnV} (H : DBox w h d) (p : Addr) (v : Value) (hne : h ≠ p.block) : DBox (w.setCell p v) h d := (Below.heap_setCell w _ _ h hne).trans H
theorem dbox_result {fn : Func} {p : Tmp} {d : DnV} (hr : fn.results = #[.cell p 33]) (tmps : Array Value) (w : World) (g : Nat) (hp : tmps.getD p undef = .pointer (some ⟨g, 0, none⟩)) (H : DBox w g d) :
    (results fn tmps).run Try.prog w = .ok (dnV d) w :=
  results_cell_row hr tmps w g 33 _ (0, 0) _ hp H Try.underlying33 rfl (by kernel_rfl)
/-- The row's box and the result's. -/
def Cy2 (w : World) (d e : DnV) (W : World) : Prop := Below w.heap.size w W ∧ DBox W w.heap.size d ∧ DBox W (w.heap.size + 1) e
theorem Cy2.next {w W W' : World} {d e : DnV} (H : Cy2 w d e W) (hb : Below W.heap.size W W') : Cy2 w d e W' := ⟨H.1.trans (hb.mono H.1.size), H.2.1.over hb, H.2.2.over hb⟩
theorem Cy2.new (w : World) (c r e x y z : Int) (f : Bool) (vv : ByteArray) (ai : Option Addr) (ni ci : Nat) (nx : ByteArray) (mo : Bool) : Cy2 w ((c, r, e, (x, y, z), f, vv, ni, nx, mo), ai, ci) dnv0 ((w.alloc (.cells #[Go.Value.int Go.IntKind.i64 c, Go.Value.int Go.IntKind.i64 r, Go.Value.int Go.IntKind.i64 e, Go.Value.int Go.IntKind.i64 x, Go.Value.int Go.IntKind.i64 y, Go.Value.int Go.IntKind.i64 z, Go.Value.bool f, Go.Value.string vv, Go.Value.slice ai ni ci, Go.Value.string nx, Go.Value.bool mo] 33)).alloc (.cells #[Go.Value.int Go.IntKind.i64 0, Go.Value.int Go.IntKind.i64 0, Go.Value.int Go.IntKind.i64 0, Go.Value.int Go.IntKind.i64 0, Go.Value.int Go.IntKind.i64 0, Go.Value.int Go.IntKind.i64 0, Go.Value.bool false, Go.Value.string ({ data := #[] }), Go.Value.slice none 0 0, Go.Value.string ({ data := #[] }), Go.Value.bool false] 33)) := by
  refine ⟨((Below.refl _ _).alloc (Nat.le_refl _) _).alloc (by simp) _, (DBox.new w ((c, r, e, (x, y, z), f, vv, ni, nx, mo), ai, ci)).over ((Below.refl _ _).alloc (Nat.le_refl _) _), ?_⟩
  have := DBox.new (w.alloc (.cells #[Go.Value.int Go.IntKind.i64 c, Go.Value.int Go.IntKind.i64 r, Go.Value.int Go.IntKind.i64 e, Go.Value.int Go.IntKind.i64 x, Go.Value.int Go.IntKind.i64 y, Go.Value.int Go.IntKind.i64 z, Go.Value.bool f, Go.Value.string vv, Go.Value.slice ai ni ci, Go.Value.string nx, Go.Value.bool mo] 33)) dnv0
  have hs : (w.alloc (.cells #[Go.Value.int Go.IntKind.i64 c, Go.Value.int Go.IntKind.i64 r, Go.Value.int Go.IntKind.i64 e, Go.Value.int Go.IntKind.i64 x, Go.Value.int Go.IntKind.i64 y, Go.Value.int Go.IntKind.i64 z, Go.Value.bool f, Go.Value.string vv, Go.Value.slice ai ni ci, Go.Value.string nx, Go.Value.bool mo] 33)).heap.size = w.heap.size + 1 := by simp
  rw [hs] at this
  exact this
theorem Cy2.set {w W : World} {c r e x y z : Int} {f : Bool} {v : ByteArray} {ao : Option Addr} {n cap : Nat} {nx : ByteArray} {m : Bool} {d : DnV} (H : Cy2 w ((c, r, e, (x, y, z), f, v, n, nx, m), ao, cap) d W) (ai : Option Addr) (ci : Nat) :
    Cy2 w ((c, r, e, (x, y, z), f, v, n, nx, m), ai, ci) d (W.setCell ⟨w.heap.size, 8, none⟩ (.slice ai n ci)) := by
  obtain ⟨h1, h2, h3⟩ := H
  exact ⟨h1.setCell (by show w.heap.size ≤ w.heap.size; omega) _, h2.set8 ai ci, h3.off _ _ (by show w.heap.size + 1 ≠ w.heap.size; omega)⟩

set_option maxRecDepth 100000 in
set_option maxHeartbeats 1000000 in
theorem dcopied_any (c r e x y z : Int) (f : Bool) (v : ByteArray) (ao : Option Addr) (cap : Nat) (nx : ByteArray) (m : Bool) (w : World) :
    Calls Try.prog 27 #[(Go.Value.agg #[Go.Value.int Go.IntKind.i64 c, Go.Value.int Go.IntKind.i64 r, Go.Value.int Go.IntKind.i64 e, Go.Value.int Go.IntKind.i64 x, Go.Value.int Go.IntKind.i64 y, Go.Value.int Go.IntKind.i64 z, Go.Value.bool f, Go.Value.string v, Go.Value.slice ao 0 cap, Go.Value.string nx, Go.Value.bool m])] w fun e' w' => ∃ (ai : Option Addr) (ci : Nat), e' = .returned (Go.Value.agg #[Go.Value.int Go.IntKind.i64 c, Go.Value.int Go.IntKind.i64 r, Go.Value.int Go.IntKind.i64 e, Go.Value.int Go.IntKind.i64 x, Go.Value.int Go.IntKind.i64 y, Go.Value.int Go.IntKind.i64 z, Go.Value.bool f, Go.Value.string v, Go.Value.slice ai 0 ci, Go.Value.string nx, Go.Value.bool m]) ∧ Below w.heap.size w w' := by
  have HC : Hid (∀ W, Calls Try.prog 36 #[.slice ao 0 cap] W fun e w' => ∃ (ai : Option Addr) (ci : Nat), e = .returned (.slice ai 0 ci) ∧ Below W.heap.size W w') := fun W => dClone_any W ao cap
  have HN : Hid (Cy2 w ((c, r, e, (x, y, z), f, v, 0, nx, m), ao, cap) dnv0 _) := Cy2.new w c r e x y z f v ao 0 cap nx m
  go_enter Try.func27, Try.ntmps27
  go_wp2_with fail
  refine (HC.out _).mono ?_
  rintro e' w1 ⟨ai, ci, rfl, hb1⟩
  have H1 : Hid (Cy2 w ((c, r, e, (x, y, z), f, v, 0, nx, m), ao, cap) dnv0 w1) := HN.out.next hb1
  clear hb1 HN HC
  obtain ⟨x0, x1, x2, x3, x4, x5, x6, x7, x8, x9, x10⟩ := H1.out.2.1.cell
  dsimp only at x0 x1 x2 x3 x4 x5 x6 x7 x8 x9 x10
  have z8 := H1.out.2.1.frozen 8
  go_upto_region 2 with (fail)
  clear x0 x1 x2 x3 x4 x5 x6 x7 x8 x9 x10 z8
  have H2 := Lib.hid (H1.out.set ai ci)
  clear H1
  generalize w1.setCell ⟨w.heap.size, 8, none⟩ (.slice ai 0 ci) = w2 at H2 ⊢
  go_wp2_with (first | (refine dbox_load (d := ((c, r, e, (x, y, z), f, v, 0, nx, m), ai, ci)) w.heap.size H2.out.2.1 rfl _ rfl rfl ?_) | (refine dbox_store (d' := ((c, r, e, (x, y, z), f, v, 0, nx, m), ai, ci)) (w.heap.size + 1) H2.out.2.2 rfl _ _ rfl rfl rfl ?_))
  exact bodyPost_ret (dbox_result rfl _ _ (w.heap.size + 1) rfl (H2.out.2.2.set ((c, r, e, (x, y, z), f, v, 0, nx, m), ai, ci))) rfl ⟨ai, ci, rfl, below_setRow H2.out.1 (by omega) _⟩

/-! ### Told -/
set_option maxRecDepth 100000 in
set_option maxHeartbeats 2000000 in
theorem fDTold : FDTold := by
  intro w v l q h hq
  obtain ⟨g, hg⟩ : ∃ g, g = rightT l := ⟨_, rfl⟩
  have HG : Hid (∀ W, Below w.heap.size w W → Calls Try.prog 11 #[v] W fun e w' => e = .returned (.bool g) ∧ Below W.heap.size W w') := fun W hW => by rw [hg]; exact fDRight W v l (h.next hW)
  have HN := Lib.hid (Rw1.new w)
  have HTL : Hid (toldT l q = if g then rowT l q else none) := by show _ = _; rw [hg]; rfl
  cases g
  · obtain ⟨ao, cap, rfl⟩ := tab_slice h
    have HX : Hid (toldT l q = none) := by show _ = _; rw [HTL.out]; rfl
    clear hg h HTL
    go_enter Try.func14, Try.ntmps14
    go_wp2_with fail
    refine (HG.out _ HN.out.1).mono ?_
    rintro e w1 ⟨rfl, hb1⟩
    have H1 : Hid (Rw1 w dnv0 w1) := ⟨HN.out.1.trans (hb1.mono HN.out.1.size), HN.out.2.over hb1⟩
    clear hb1 HN HG
    go_wp2_with (refine dbox_store (d' := dnv0) w.heap.size H1.out.2 rfl _ _ rfl rfl rfl ?_)
    exact bodyPost_ret (dbox_result2 rfl _ _ w.heap.size rfl (H1.out.2.set dnv0)) rfl ⟨⟨dnv0, by rw [HX.out]; rfl, by rw [HX.out]; rfl⟩, below_setRow H1.out.1 (Nat.le_refl _) _⟩
  obtain ⟨h8, hrows, hinc⟩ := right_parts hg.symm
  obtain ⟨p, hp⟩ := pos_ex hinc q
  obtain ⟨T, hT⟩ : ∃ T, T = thereT l q p := ⟨_, rfl⟩
  have HF : Hid (∀ W, Below w.heap.size w W → Calls Try.prog 26 #[v, .int .i64 q] W fun e w' => e = .returned (.tuple #[.int .i64 p, .bool T]) ∧ Below W.heap.size W w') := fun W hW => by rw [hT]; exact dfind_any W v l q p (h.next hW) hp (by omega)
  cases T
  · obtain ⟨ao, cap, rfl⟩ := tab_slice h
    have HX : Hid (toldT l q = none) := by show _ = _; rw [HTL.out, if_pos rfl, pos_none hinc hp hT.symm]
    clear hg h HTL hrows hinc hp hT h8
    go_enter Try.func14, Try.ntmps14
    go_wp2_with fail
    refine (HG.out _ HN.out.1).mono ?_
    rintro e w1 ⟨rfl, hb1⟩
    have H1 : Hid (Rw1 w dnv0 w1) := ⟨HN.out.1.trans (hb1.mono HN.out.1.size), HN.out.2.over hb1⟩
    clear hb1 HN HG
    go_wp2_with fail
    refine (HF.out _ H1.out.1).mono ?_
    rintro e w2 ⟨rfl, hb2⟩
    have H2 : Hid (Rw1 w dnv0 w2) := ⟨H1.out.1.trans (hb2.mono H1.out.1.size), H1.out.2.over hb2⟩
    clear hb2 H1 HF
    go_wp2_with (refine dbox_store (d' := dnv0) w.heap.size H2.out.2 rfl _ _ rfl rfl rfl ?_)
    exact bodyPost_ret (dbox_result2 rfl _ _ w.heap.size rfl (H2.out.2.set dnv0)) rfl ⟨⟨dnv0, by rw [HX.out]; rfl, by rw [HX.out]; rfl⟩, below_setRow H2.out.1 (Nat.le_refl _) _⟩
  obtain ⟨hpl, hpc, hrow⟩ := pos_there hp hT.symm
  obtain ⟨ao, n, cap, es, rfl, hl, hle, hmx, hn, hcell, hmap⟩ := h.opened
  obtain ⟨b, off, rfl, hb, hcl⟩ := hcell (by omega)
  obtain ⟨d, hd⟩ : ∃ d, d = det es p := ⟨_, rfl⟩
  have hdk : d.1 = dat l p := by rw [hd]; exact det_map hmap p
  have HK : Hid (∀ W, Below w.heap.size w W → DnAt W b (off + p * 11) d) := fun W hW => by rw [hd]; exact (hcl p (by omega)).next hW hb
  have hN : dN d.1 = 0 := by rw [hdk]; exact (row_spec (hrows _ (dat_in hpl))).2.2
  obtain ⟨⟨c, r, e, ⟨x, y, z⟩, f, vv, ni, nx, m⟩, ai, ci⟩ := d
  have e2 : ni = 0 := hN
  subst e2
  have HX : Hid (toldT l q = some (c, r, e, (x, y, z), f, vv, 0, nx, m)) := by show _ = _; rw [HTL.out, if_pos rfl, hrow, ← hdk]
  have HC : Hid (∀ W, Calls Try.prog 27 #[(Go.Value.agg #[Go.Value.int Go.IntKind.i64 c, Go.Value.int Go.IntKind.i64 r, Go.Value.int Go.IntKind.i64 e, Go.Value.int Go.IntKind.i64 x, Go.Value.int Go.IntKind.i64 y, Go.Value.int Go.IntKind.i64 z, Go.Value.bool f, Go.Value.string vv, Go.Value.slice ai 0 ci, Go.Value.string nx, Go.Value.bool m])] W fun e' w' => ∃ (ai : Option Addr) (ci : Nat), e' = .returned (Go.Value.agg #[Go.Value.int Go.IntKind.i64 c, Go.Value.int Go.IntKind.i64 r, Go.Value.int Go.IntKind.i64 e, Go.Value.int Go.IntKind.i64 x, Go.Value.int Go.IntKind.i64 y, Go.Value.int Go.IntKind.i64 z, Go.Value.bool f, Go.Value.string vv, Go.Value.slice ai 0 ci, Go.Value.string nx, Go.Value.bool m]) ∧ Below W.heap.size W w') := fun W => dcopied_any c r e x y z f vv ai ci nx m W
  have q4 : p < n := by omega
  clear hg h HTL hrows hinc hp hT h8 hdk hd hN hpl hpc hrow hcl hle hmx hn hcell hmap hl
  go_enter Try.func14, Try.ntmps14
  go_wp2_with fail
  refine (HG.out _ HN.out.1).mono ?_
  rintro e w1 ⟨rfl, hb1⟩
  have H1 : Hid (Rw1 w dnv0 w1) := ⟨HN.out.1.trans (hb1.mono HN.out.1.size), HN.out.2.over hb1⟩
  clear hb1 HN HG
  go_wp2_with fail
  refine (HF.out _ H1.out.1).mono ?_
  rintro e w2 ⟨rfl, hb2⟩
  have H2 : Hid (Rw1 w dnv0 w2) := ⟨H1.out.1.trans (hb2.mono H1.out.1.size), H1.out.2.over hb2⟩
  clear hb2 H1 HF
  obtain ⟨x0, x1, x2, x3, x4, x5, x6, x7, x8, x9, x10⟩ := HK.out w2 H2.out.1
  dsimp only at x0 x1 x2 x3 x4 x5 x6 x7 x8 x9 x10
  clear HK
  go_wp2_with fail
  refine (HC.out _).mono ?_
  rintro e' w3 ⟨a3, c3, rfl, hb3⟩
  have H3 : Hid (Rw1 w dnv0 w3) := ⟨H2.out.1.trans (hb3.mono H2.out.1.size), H2.out.2.over hb3⟩
  clear hb3 H2 HC x0 x1 x2 x3 x4 x5 x6 x7 x8 x9 x10
  go_wp2_with (refine dbox_store (d' := ((c, r, e, (x, y, z), f, vv, 0, nx, m), a3, c3)) w.heap.size H3.out.2 rfl _ _ rfl rfl rfl ?_)
  exact bodyPost_ret (dbox_result2 rfl _ _ w.heap.size rfl (H3.out.2.set ((c, r, e, (x, y, z), f, vv, 0, nx, m), a3, c3))) rfl ⟨⟨((c, r, e, (x, y, z), f, vv, 0, nx, m), a3, c3), by rw [HX.out]; rfl, by rw [HX.out]; rfl⟩, below_setRow H3.out.1 (Nat.le_refl _) _⟩

/-! ### Judge -/
set_option maxRecDepth 100000 in
set_option maxHeartbeats 2000000 in
theorem fDJudge : FDJudge := by
  intro w v l q r h hq hr
  obtain ⟨g1, hg1⟩ : ∃ g, g = rightT l := ⟨_, rfl⟩
  obtain ⟨g2, hg2⟩ : ∃ g, g = numB q := ⟨_, rfl⟩
  obtain ⟨g3, hg3⟩ : ∃ g, g = numB r := ⟨_, rfl⟩
  have H1 : Hid (∀ W, Below w.heap.size w W → Calls Try.prog 11 #[v] W fun e w' => e = .returned (.bool g1) ∧ Below W.heap.size W w') := fun W hW => by rw [hg1]; exact fDRight W v l (h.next hW)
  have H2 : Hid (∀ W, Calls Try.prog 24 #[.int .i64 q] W fun e w' => e = .returned (.bool g2) ∧ w' = W) := fun W => by rw [hg2]; exact dnum_any q W
  have H3 : Hid (∀ W, Calls Try.prog 24 #[.int .i64 r] W fun e w' => e = .returned (.bool g3) ∧ w' = W) := fun W => by rw [hg3]; exact dnum_any r W
  have HTD : Hid (∀ W, Below w.heap.size w W → Calls Try.prog 14 #[v, .int .i64 q] W fun e w' => TdRes l q e ∧ Below W.heap.size W w') := fun W hW => fDTold W v l q (h.next hW) hq
  have HJ : Hid (judT l q r = if g1 && (g2 && g3) then (if reqT l q < r then 1 else if r = reqT l q then 2 else 3) else 0) := by show _ = _; rw [hg1, hg2, hg3]; rfl
  have HG1 := Lib.hid hg1
  have HG3 := Lib.hid hg3
  obtain ⟨ao, cap, rfl⟩ := tab_slice h
  clear hg1 hg2 hg3 h
  cases g1
  · go_enter Try.func12, Try.ntmps12
    go_wp2_with fail
    refine (H1.out _ (Below.refl _ _)).mono ?_
    rintro e w1 ⟨rfl, hb1⟩
    go_wp2_with fail
    go_ret
    exact ⟨by rw [HJ.out]; rfl, hb1⟩
  cases g2
  · go_enter Try.func12, Try.ntmps12
    go_wp2_with fail
    refine (H1.out _ (Below.refl _ _)).mono ?_
    rintro e w1 ⟨rfl, hb1⟩
    go_wp2_with fail
    refine (H2.out _).mono ?_
    rintro e w2 ⟨rfl, rfl⟩
    go_wp2_with fail
    go_ret
    exact ⟨by rw [HJ.out]; rfl, hb1⟩
  cases g3
  · go_enter Try.func12, Try.ntmps12
    go_wp2_with fail
    refine (H1.out _ (Below.refl _ _)).mono ?_
    rintro e w1 ⟨rfl, hb1⟩
    go_wp2_with fail
    refine (H2.out _).mono ?_
    rintro e w2 ⟨rfl, rfl⟩
    go_wp2_with fail
    refine (H3.out _).mono ?_
    rintro e w3 ⟨rfl, rfl⟩
    go_wp2_with fail
    go_ret
    exact ⟨by rw [HJ.out]; rfl, hb1⟩
  have HJ2 : Hid (judT l q r = if reqT l q < r then 1 else if r = reqT l q then 2 else 3) := HJ.out
  have HTL : Hid (toldT l q = rowT l q) := by show _ = _; unfold toldT; rw [← HG1.out]; rfl
  have HRP : Hid (0 < r) := by
    have h5 := HG3.out.symm
    unfold numB at h5
    rw [Bool.and_eq_true, decide_eq_true_eq, decide_eq_true_eq] at h5
    exact h5.1
  clear HJ HG1 HG3
  go_enter Try.func12, Try.ntmps12
  go_wp2_with fail
  refine (H1.out _ (Below.refl _ _)).mono ?_
  rintro e w1 ⟨rfl, hb1⟩
  have HB1 := Lib.hid hb1
  clear hb1 H1
  go_wp2_with fail
  refine (H2.out _).mono ?_
  rintro e w2 ⟨rfl, rfl⟩
  go_wp2_with fail
  refine (H3.out _).mono ?_
  rintro e w3 ⟨rfl, rfl⟩
  go_wp2_with fail
  refine (HTD.out _ HB1.out).mono ?_
  rintro e w4 ⟨ht, hb4⟩
  have HB4 : Hid (Below w.heap.size w w4) := HB1.out.trans (hb4.mono HB1.out.size)
  clear hb4 HB1 H2 H3 HTD
  obtain ⟨⟨⟨c1, r1, e1, ⟨x, y, z⟩, f, v, ni, nx, m⟩, ai, ci⟩, he, hp⟩ := ht
  obtain ⟨T, hT⟩ : ∃ T, T = (toldT l q).isSome := ⟨_, rfl⟩
  rw [← hT] at he
  have he2 : e = .returned (.tuple #[(Go.Value.agg #[Go.Value.int Go.IntKind.i64 c1, Go.Value.int Go.IntKind.i64 r1, Go.Value.int Go.IntKind.i64 e1, Go.Value.int Go.IntKind.i64 x, Go.Value.int Go.IntKind.i64 y, Go.Value.int Go.IntKind.i64 z, Go.Value.bool f, Go.Value.string v, Go.Value.slice ai ni ci, Go.Value.string nx, Go.Value.bool m]), .bool T]) := he
  subst he2
  have HBA : Hid (Below w.heap.size w (w4.alloc (.cells #[Go.Value.int Go.IntKind.i64 c1, Go.Value.int Go.IntKind.i64 r1, Go.Value.int Go.IntKind.i64 e1, Go.Value.int Go.IntKind.i64 x, Go.Value.int Go.IntKind.i64 y, Go.Value.int Go.IntKind.i64 z, Go.Value.bool f, Go.Value.string v, Go.Value.slice ai ni ci, Go.Value.string nx, Go.Value.bool m] 33))) := HB4.out.alloc HB4.out.size _
  have HP := Lib.hid hp
  have HT := Lib.hid hT
  clear hp hT he
  cases T
  · have HX : Hid (judT l q r = 1) := by
      show _ = _
      have h1 := HT.out
      rw [HTL.out] at h1
      have h2 : rowT l q = none := by cases h3 : rowT l q with
        | none => rfl
        | some d => rw [h3] at h1; cases h1
      rw [HJ2.out, req_none h2, if_pos HRP.out]
    clear HJ2 HTL HRP HP HT
    go_wp2_with fail
    go_ret
    exact ⟨by rw [HX.out]; rfl, HBA.out⟩
  have HQ : Hid (reqT l q = r1) := by
    show _ = _
    have h1 := HT.out
    have h4 := HP.out
    rw [HTL.out] at h1 h4
    cases h3 : rowT l q with
    | none => rw [h3] at h1; cases h1
    | some d =>
      rw [h3] at h4
      rw [req_at h3]
      have h5 : (c1, r1, e1, (x, y, z), f, v, ni, nx, m) = d := h4
      rw [← h5]; rfl
  by_cases h1 : r1 < r
  · have HX : Hid (judT l q r = 1) := by show _ = _; rw [HJ2.out, HQ.out, if_pos h1]
    have d1 : decide (r1 < r) = true := decide_eq_true h1
    clear h1 HJ2 HTL HRP HP HT HQ
    go_wp2_with fail
    go_ret
    exact ⟨by rw [HX.out]; rfl, HBA.out⟩
  have d1 : decide (r1 < r) = false := decide_eq_false h1
  by_cases h2 : r = r1
  · have HX : Hid (judT l q r = 2) := by show _ = _; rw [HJ2.out, HQ.out, if_neg h1, if_pos h2]
    subst h2
    clear h1 HJ2 HTL HRP HP HT HQ
    go_wp2_with fail
    go_ret
    exact ⟨by rw [HX.out]; rfl, HBA.out⟩
  · have HX : Hid (judT l q r = 3) := by show _ = _; rw [HJ2.out, HQ.out, if_neg h1, if_neg h2]
    have d2 : (r == r1) = false := beq_eq_false_iff_ne.2 h2
    clear h1 HJ2 HTL HRP HP HT HQ
    go_wp2_with fail
    go_ret
    exact ⟨by rw [HX.out]; rfl, HBA.out⟩

end Go.Proofs.Ytdiabcdpnbhibaa
