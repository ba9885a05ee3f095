/-
  DedupPuts over the contracts' forms.
-/
import Derived.Test.YtdiabcdpnbhibaaDdForms
set_option linter.unusedVariables false
namespace Go.Proofs.Ytdiabcdpnbhibaa
open Go.RowKit

set_option maxRecDepth 100000 in
set_option maxHeartbeats 2000000 in
theorem dedupPuts_core (hA : FDAwake) (hP : FDPut) (w : World) (v : Value) (t : List Dn) (hv : Tab w v t) (c r e x y z : Int) (f : Bool) (vv : ByteArray) (ai : Option Addr) (ni ci : Nat) (nx : ByteArray) (mo : Bool) :
    Calls Try.prog 4 #[v, (Go.Value.agg #[Go.Value.int Go.IntKind.i64 c, Go.Value.int Go.IntKind.i64 r, Go.Value.int Go.IntKind.i64 e, Go.Value.int Go.IntKind.i64 x, Go.Value.int Go.IntKind.i64 y, Go.Value.int Go.IntKind.i64 z, Go.Value.bool f, Go.Value.string vv, Go.Value.slice ai ni ci, Go.Value.string nx, Go.Value.bool mo])] w fun e' w' => e' = .returned (.bool true) ∧ Below w.heap.size w w' := by
  obtain ⟨g1, hg1⟩ : ∃ g, g = smallT t := ⟨_, rfl⟩
  obtain ⟨g2, hg2⟩ : ∃ g, g = smallT [(c, r, e, (x, y, z), f, vv, ni, nx, mo)] := ⟨_, rfl⟩
  have H1 : Hid (∀ W, Below w.heap.size w W → Calls Try.prog 8 #[v] W fun e0 w' => e0 = .returned (.bool g1) ∧ w' = W) := fun W hW => by rw [hg1]; exact refTSmall_any (hv.next hW)
  have H2 : Hid (∀ W g, DBox W g ((c, r, e, (x, y, z), f, vv, ni, nx, mo), ai, ci) → Calls Try.prog 8 #[.slice (some ⟨g, 0, none⟩) 1 1] W fun e0 w' => e0 = .returned (.bool g2) ∧ w' = W) := by
    show ∀ W g, _ → _
    intro W g hg
    rw [hg2]; exact refTSmall_any (tab_lit hg)
  obtain ⟨m, er, hm⟩ := dput_ex t (c, r, e, (x, y, z), f, vv, ni, nx, mo)
  have HM : Hid (∀ W, Below w.heap.size w W → Calls Try.prog 17 #[v, (Go.Value.agg #[Go.Value.int Go.IntKind.i64 c, Go.Value.int Go.IntKind.i64 r, Go.Value.int Go.IntKind.i64 e, Go.Value.int Go.IntKind.i64 x, Go.Value.int Go.IntKind.i64 y, Go.Value.int Go.IntKind.i64 z, Go.Value.bool f, Go.Value.string vv, Go.Value.slice ai ni ci, Go.Value.string nx, Go.Value.bool mo])] W fun e' w' => ∃ v', e' = .returned (.tuple #[v', .int .i64 er]) ∧ SoEnd W m v' w') := fun W hW => hP W v t c r e x y z f vv ai ni ci nx mo m er (hv.next hW) hm
  have HR : Hid (∀ W, Below w.heap.size w W → Calls Try.prog 18 #[v, (Go.Value.agg #[Go.Value.int Go.IntKind.i64 c, Go.Value.int Go.IntKind.i64 r, Go.Value.int Go.IntKind.i64 e, Go.Value.int Go.IntKind.i64 x, Go.Value.int Go.IntKind.i64 y, Go.Value.int Go.IntKind.i64 z, Go.Value.bool f, Go.Value.string vv, Go.Value.slice ai ni ci, Go.Value.string nx, Go.Value.bool mo])] W fun e' w' => ∃ v', e' = .returned (.tuple #[v', .int .i64 er]) ∧ SoEnd W m v' w') := fun W hW => refTPut_any (hv.next hW) c r e x y z f vv ai ni ci nx mo hm
  have HE : Hid (∀ W u v, Tab W u m → Tab W v m → Calls Try.prog 16 #[u, v] W fun e0 w' => e0 = .returned (.bool true) ∧ Below W.heap.size W w') := fun W u v hu hv => refTEqual_any hu hv (dput_bare hm)
  have HA : Hid (FDAwake) := hA
  have HP0 : Hid (PbRel w ((c, r, e, (x, y, z), f, vv, ni, nx, mo), ai, ci) (w.alloc (.cells #[Go.Value.int Go.IntKind.i64 c, Go.Value.int Go.IntKind.i64 r, Go.Value.int Go.IntKind.i64 e, Go.Value.int Go.IntKind.i64 x, Go.Value.int Go.IntKind.i64 y, Go.Value.int Go.IntKind.i64 z, Go.Value.bool f, Go.Value.string vv, Go.Value.slice ai ni ci, Go.Value.string nx, Go.Value.bool mo] 33))) := PbRel.new w c r e x y z f vv ai ni ci nx mo
  clear hg1 hg2 hm hA hP hv
  go_enter Try.func4, Try.ntmps4
  go_upto_region 1 with (fail)
  generalize w.alloc (.cells #[Go.Value.int Go.IntKind.i64 c, Go.Value.int Go.IntKind.i64 r, Go.Value.int Go.IntKind.i64 e, Go.Value.int Go.IntKind.i64 x, Go.Value.int Go.IntKind.i64 y, Go.Value.int Go.IntKind.i64 z, Go.Value.bool f, Go.Value.string vv, Go.Value.slice ai ni ci, Go.Value.string nx, Go.Value.bool mo] 33) = w1 at HP0 ⊢
  cases g1
  · go_wp2_with fail
    refine (H1.out _ HP0.out.1).mono ?_
    rintro e' w2 ⟨rfl, rfl⟩
    go_wp2_with fail
    refine (HA.out _).mono ?_
    rintro e' w3 ⟨rfl, hb3⟩
    go_wp2_with fail
    go_ret
    exact ⟨rfl, HP0.out.1.trans (hb3.mono HP0.out.1.size)⟩
  obtain ⟨x0, x1, x2, x3, x4, x5, x6, x7, x8, x9, x10⟩ := HP0.out.2.cell
  dsimp only at x0 x1 x2 x3 x4 x5 x6 x7 x8 x9 x10
  have H3 : Hid (PbRel w ((c, r, e, (x, y, z), f, vv, ni, nx, mo), ai, ci) (w1.alloc (.cells #[Go.Value.int Go.IntKind.i64 c, Go.Value.int Go.IntKind.i64 r, Go.Value.int Go.IntKind.i64 e, Go.Value.int Go.IntKind.i64 x, Go.Value.int Go.IntKind.i64 y, Go.Value.int Go.IntKind.i64 z, Go.Value.bool f, Go.Value.string vv, Go.Value.slice ai ni ci, Go.Value.string nx, Go.Value.bool mo] 33)) ∧ DBox (w1.alloc (.cells #[Go.Value.int Go.IntKind.i64 c, Go.Value.int Go.IntKind.i64 r, Go.Value.int Go.IntKind.i64 e, Go.Value.int Go.IntKind.i64 x, Go.Value.int Go.IntKind.i64 y, Go.Value.int Go.IntKind.i64 z, Go.Value.bool f, Go.Value.string vv, Go.Value.slice ai ni ci, Go.Value.string nx, Go.Value.bool mo] 33)) w1.heap.size ((c, r, e, (x, y, z), f, vv, ni, nx, mo), ai, ci)) := ⟨HP0.out.next ((Below.refl _ _).alloc (Nat.le_refl _) _), DBox.new w1 ((c, r, e, (x, y, z), f, vv, ni, nx, mo), ai, ci)⟩
  cases g2
  · go_wp2_with fail
    refine (H1.out _ HP0.out.1).mono ?_
    rintro e' w2 ⟨rfl, rfl⟩
    go_wp2_with fail
    refine (H2.out _ _ H3.out.2).mono ?_
    rintro e' w3 ⟨rfl, rfl⟩
    go_wp2_with fail
    refine (HA.out _).mono ?_
    rintro e' w3 ⟨rfl, hb3⟩
    go_wp2_with fail
    go_ret
    exact ⟨rfl, (H3.out.1.next hb3).1⟩
  go_wp2_with fail
  refine (H1.out _ HP0.out.1).mono ?_
  rintro e' w2 ⟨rfl, rfl⟩
  go_wp2_with fail
  refine (H2.out _ _ H3.out.2).mono ?_
  rintro e' w3 ⟨rfl, rfl⟩
  go_upto_region 3 with (fail)
  have H4 : Hid (PbRel w ((c, r, e, (x, y, z), f, vv, ni, nx, mo), ai, ci) (w2.alloc (.cells #[Go.Value.int Go.IntKind.i64 c, Go.Value.int Go.IntKind.i64 r, Go.Value.int Go.IntKind.i64 e, Go.Value.int Go.IntKind.i64 x, Go.Value.int Go.IntKind.i64 y, Go.Value.int Go.IntKind.i64 z, Go.Value.bool f, Go.Value.string vv, Go.Value.slice ai ni ci, Go.Value.string nx, Go.Value.bool mo] 33))) := H3.out.1
  generalize w2.alloc (.cells #[Go.Value.int Go.IntKind.i64 c, Go.Value.int Go.IntKind.i64 r, Go.Value.int Go.IntKind.i64 e, Go.Value.int Go.IntKind.i64 x, Go.Value.int Go.IntKind.i64 y, Go.Value.int Go.IntKind.i64 z, Go.Value.bool f, Go.Value.string vv, Go.Value.slice ai ni ci, Go.Value.string nx, Go.Value.bool mo] 33) = w4 at H4 ⊢
  clear x0 x1 x2 x3 x4 x5 x6 x7 x8 x9 x10 H3 HP0 H1 H2
  obtain ⟨x0, x1, x2, x3, x4, x5, x6, x7, x8, x9, x10⟩ := H4.out.2.cell
  dsimp only at x0 x1 x2 x3 x4 x5 x6 x7 x8 x9 x10
  go_wp2_with fail
  refine (HM.out _ H4.out.1).mono ?_
  rintro e' w5 ⟨v5, rfl, h5⟩
  have H5 : Hid (PbRel w ((c, r, e, (x, y, z), f, vv, ni, nx, mo), ai, ci) w5 ∧ Tab w5 v5 m) := ⟨H4.out.next h5.2, h5.1⟩
  clear h5 x0 x1 x2 x3 x4 x5 x6 x7 x8 x9 x10 H4 HM
  obtain ⟨x0, x1, x2, x3, x4, x5, x6, x7, x8, x9, x10⟩ := H5.out.1.2.cell
  dsimp only at x0 x1 x2 x3 x4 x5 x6 x7 x8 x9 x10
  go_wp2_with fail
  refine (HR.out _ H5.out.1.1).mono ?_
  rintro e' w6 ⟨v6, rfl, h6⟩
  have H6 : Hid (Tab w6 v5 m ∧ Tab w6 v6 m ∧ Below w.heap.size w w6) := ⟨H5.out.2.next h6.2, h6.1, (H5.out.1.next h6.2).1⟩
  clear h6 x0 x1 x2 x3 x4 x5 x6 x7 x8 x9 x10 H5 HR
  go_wp2_with fail
  refine (HE.out _ _ _ H6.out.1 H6.out.2.1).mono ?_
  rintro e' w7 ⟨rfl, hb7⟩
  have H7 : Hid (Below w.heap.size w w7) := H6.out.2.2.trans (hb7.mono H6.out.2.2.size)
  clear hb7 H6
  go_wp2_with fail
  refine (HA.out _).mono ?_
  rintro e' w8 ⟨rfl, hb8⟩
  go_wp2_with fail
  go_ret
  exact ⟨rfl, H7.out.trans (hb8.mono H7.out.size)⟩

end Go.Proofs.Ytdiabcdpnbhibaa
