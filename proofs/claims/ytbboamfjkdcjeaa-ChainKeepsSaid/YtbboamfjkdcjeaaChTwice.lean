/-
  The walk of ChainTwice, over what it asks of package chain.
-/
import Derived.Test.YtbboamfjkdcjeaaChKeeps
import Derived.Test.YtbboamfjkdcjeaaSmLater
import Derived.Test.YtbboamfjkdcjeaaVrRefEqual
set_option linter.unusedVariables false
namespace Go.Proofs.Ytbboamfjkdcjeaa
open Go.RowKit

/-- The cells of the two stamps, and what holds around them. -/
def SK (w : World) (x y z a b c : Int) (v : Value) (l : List Ver) (W : World) : Prop :=
  W.cell? ⟨w.heap.size, 0, none⟩ = some (.int .i64 x) ∧ W.cell? ⟨w.heap.size, 1, none⟩ = some (.int .i64 y) ∧ W.cell? ⟨w.heap.size, 2, none⟩ = some (.int .i64 z) ∧
  W.cell? ⟨w.heap.size + 1, 0, none⟩ = some (.int .i64 a) ∧ W.cell? ⟨w.heap.size + 1, 1, none⟩ = some (.int .i64 b) ∧ W.cell? ⟨w.heap.size + 1, 2, none⟩ = some (.int .i64 c) ∧ K2 w x y z a b c v l W
theorem SK.of {w W : World} {x y z a b c : Int} {v : Value} {l : List Ver} (h : K2 w x y z a b c v l W) : SK w x y z a b c v l W := by
  obtain ⟨x1, x2, x3⟩ := h.2.1.cell
  obtain ⟨y1, y2, y3⟩ := h.2.2.1.cell
  exact ⟨x1, x2, x3, y1, y2, y3, h⟩
theorem SK.k2 {w W : World} {x y z a b c : Int} {v : Value} {l : List Ver} (h : SK w x y z a b c v l W) : K2 w x y z a b c v l W := h.2.2.2.2.2.2
theorem SK.next {w W W' : World} {x y z a b c : Int} {v : Value} {l : List Ver} (h : SK w x y z a b c v l W) (hb : Below W.heap.size W W') : SK w x y z a b c v l W' := .of (h.k2.next hb)
theorem SK.drew {w W : World} {x y z a b c : Int} {v : Value} {l : List Ver} (h : SK w x y z a b c v l W) : SK w x y z a b c v l W.drew := h.next ((Below.refl _ _).drew)
theorem later_one (x y z a b c : Int) : ∃ l1 l2 l3, ((l1 = x ∧ l2 = y ∧ l3 = z ∧ befB x y z a b c = false) ∨ (l1 = a ∧ l2 = b ∧ l3 = c ∧ befB a b c x y z = false)) ∧ ∀ W, Calls Try.prog 23 #[(Go.Value.agg #[Go.Value.int Go.IntKind.i64 x, Go.Value.int Go.IntKind.i64 y, Go.Value.int Go.IntKind.i64 z]), (Go.Value.agg #[Go.Value.int Go.IntKind.i64 a, Go.Value.int Go.IntKind.i64 b, Go.Value.int Go.IntKind.i64 c])] W fun e w' => e = .returned (Go.Value.agg #[Go.Value.int Go.IntKind.i64 l1, Go.Value.int Go.IntKind.i64 l2, Go.Value.int Go.IntKind.i64 l3]) ∧ Below W.heap.size W w' := by
  rcases cmp_cases x y z a b c with ⟨_, k, h⟩ | ⟨k, _, h⟩ | ⟨_, k, h, _⟩
  · exact ⟨a, b, c, .inr ⟨rfl, rfl, rfl, k⟩, fun W => Later_snd _ _ _ _ _ _ W (by omega)⟩
  · exact ⟨x, y, z, .inl ⟨rfl, rfl, rfl, k⟩, fun W => Later_fst _ _ _ _ _ _ W (by omega)⟩
  · exact ⟨a, b, c, .inr ⟨rfl, rfl, rfl, k⟩, fun W => Later_snd _ _ _ _ _ _ W (by omega)⟩

theorem FPrune.use (HP : FPrune) {W : World} {v : Value} {l : List Ver} {x y z : Int} {m : List Ver} (h : Vers W v l) (hm : IsPruned l x y z m) : Calls Try.prog 20 #[v, (Go.Value.agg #[Go.Value.int Go.IntKind.i64 x, Go.Value.int Go.IntKind.i64 y, Go.Value.int Go.IntKind.i64 z])] W fun e w' => ∃ v', e = .returned v' ∧ Vers w' v' m ∧ Below W.heap.size W w' := HP W v l x y z m h hm

set_option maxRecDepth 100000 in
set_option maxHeartbeats 1000000 in
theorem chainTwice_core (HF : FAwake) (HR : FRight) (HP : FPrune) (w : World) (v : Value) (l : List Ver) (x y z a b c : Int) (hv : Vers w v l) : Calls Try.prog 7 #[v, (Go.Value.agg #[Go.Value.int Go.IntKind.i64 x, Go.Value.int Go.IntKind.i64 y, Go.Value.int Go.IntKind.i64 z]), (Go.Value.agg #[Go.Value.int Go.IntKind.i64 a, Go.Value.int Go.IntKind.i64 b, Go.Value.int Go.IntKind.i64 c])] w fun e w' => e = .returned (.bool true) ∧ Below w.heap.size w w' := by
  have HAW : Hid (∀ W, Calls Try.prog 9 #[] W fun e w' => e = .returned (.bool true) ∧ Below W.heap.size W w') := fun W => HF W
  obtain ⟨m1, hm1⟩ := pruned_ex l x y z
  obtain ⟨m2, hm2⟩ := pruned_ex l a b c
  obtain ⟨k1, hk1⟩ := pruned_ex m1 a b c
  obtain ⟨k2, hk2⟩ := pruned_ex m2 x y z
  obtain ⟨l1, l2, l3, hl, hL⟩ := later_one x y z a b c
  obtain ⟨m, hm⟩ := pruned_ex l l1 l2 l3
  obtain ⟨ao, n, cap, rfl, hn⟩ := vers_slice hv
  obtain ⟨r, hr⟩ : ∃ r, r = rightC l := ⟨_, rfl⟩
  have HLT := Lib.hid hL
  have A2 : Hid (∀ W, Vers W (.slice ao n cap) l → Calls Try.prog 14 #[.slice ao n cap] W fun e w' => e = .returned (.bool r) ∧ Below W.heap.size W w') := fun W h => by rw [hr]; exact HR W _ l h
  have HPH := Lib.hid HP
  have E1 : Hid (r = true → k1 = m ∧ k2 = m) := fun h => ⟨pruned_twice (by rw [← hr, h]) hm1 hk1 hm hl, pruned_twice (by rw [← hr, h]) hm2 hk2 hm hl.symm⟩
  have H0 := Lib.hid (K2.new x y z a b c hv)
  clear hv hr hl hL HP HF HR hn
  have hcase : 100 < n ∨ (¬ 100 < n ∧ r = false) ∨ (¬ 100 < n ∧ r = true) := by cases r <;> simp <;> omega
  rcases hcase with h100 | ⟨h100, rfl⟩ | ⟨h100, rfl⟩
  · go_enter Try.func7, Try.ntmps7
    go_wp2_with fail
    refine (HAW.out _).mono ?_
    rintro e w9 ⟨rfl, hb9⟩
    go_wp2_with fail
    go_ret
    exact ⟨rfl, H0.out.1.trans (hb9.mono H0.out.1.size)⟩
  · go_enter Try.func7, Try.ntmps7
    go_wp2_with fail
    refine (A2.out _ H0.out.2.2.2).mono ?_
    rintro e w1 ⟨rfl, hb1⟩
    have hb := H0.out.1.trans (hb1.mono H0.out.1.size)
    go_wp2_with fail
    refine (HAW.out _).mono ?_
    rintro e w9 ⟨rfl, hb9⟩
    go_wp2_with fail
    go_ret
    exact ⟨rfl, hb.trans (hb9.mono hb.size)⟩
  · obtain ⟨rfl, rfl⟩ := E1.out (by first | rfl | trivial)
    have hk2' : IsPruned m2 x y z k2 := hk2
    clear E1
    go_enter Try.func7, Try.ntmps7
    go_wp2_with fail
    refine (A2.out _ H0.out.2.2.2).mono ?_
    rintro e w1 ⟨rfl, hb1⟩
    have H1 := Lib.hid (H0.out.next hb1)
    clear hb1 H0 A2
    go_upto_region 3 with (fail)
    go_cut [7] (fun s wx => Hid (K2 w x y z a b c (.slice ao n cap) l wx ∧ Vers wx s k2))
    case first =>
      have HS0 : SK w x y z a b c (.slice ao n cap) l w1.drew := (SK.of H1.out).drew
      go_region_held3 (fun W => W.cell? ⟨w.heap.size, 0, none⟩ = some (.int .i64 x) ∧ W.cell? ⟨w.heap.size, 1, none⟩ = some (.int .i64 y) ∧ W.cell? ⟨w.heap.size, 2, none⟩ = some (.int .i64 z) ∧ W.cell? ⟨w.heap.size + 1, 0, none⟩ = some (.int .i64 a) ∧ W.cell? ⟨w.heap.size + 1, 1, none⟩ = some (.int .i64 b) ∧ W.cell? ⟨w.heap.size + 1, 2, none⟩ = some (.int .i64 c) ∧ K2 w x y z a b c (.slice ao n cap) l W) ((show SK w x y z a b c (.slice ao n cap) l _; first | (with_reducible exact hs2) | (with_reducible exact hs1) | (with_reducible exact HS0))) ((go_at_call 20; (first | (refine (FPrune.use HPH.out hv1 hk1).mono ?_) | (refine (FPrune.use HPH.out HS0.k2.2.2.2 hm1).mono ?_)); rintro e w1 ⟨v1, rfl, hv1, hb1⟩; (first | (have hs2 := hs1.next hb1) | (have hs1 := HS0.next hb1))))
      all_goals (go_wp2_with fail; go_meet; exact ⟨hs2.k2, hv1⟩)
    case rest =>
      have HC1 := Lib.hid hcut.out
      clear hcut
      go_upto_region 4 with (fail)
      go_cut [8] (fun s wx => Hid (K2 w x y z a b c (.slice ao n cap) l wx ∧ Vers wx s k2 ∧ Vers wx u7 k2))
      case first =>
        have HS0 : SK w x y z a b c (.slice ao n cap) l wc.drew := (SK.of HC1.out.1).drew
        have HX0 : Vers wc.drew u7 k2 := HC1.out.2.next ((Below.refl _ _).drew)
        go_region_held3 (fun W => W.cell? ⟨w.heap.size, 0, none⟩ = some (.int .i64 x) ∧ W.cell? ⟨w.heap.size, 1, none⟩ = some (.int .i64 y) ∧ W.cell? ⟨w.heap.size, 2, none⟩ = some (.int .i64 z) ∧ W.cell? ⟨w.heap.size + 1, 0, none⟩ = some (.int .i64 a) ∧ W.cell? ⟨w.heap.size + 1, 1, none⟩ = some (.int .i64 b) ∧ W.cell? ⟨w.heap.size + 1, 2, none⟩ = some (.int .i64 c) ∧ K2 w x y z a b c (.slice ao n cap) l W) ((show SK w x y z a b c (.slice ao n cap) l _; first | (with_reducible exact hs2) | (with_reducible exact hs1) | (with_reducible exact HS0))) ((go_at_call 20; (first | (refine (FPrune.use HPH.out hv1 hk2').mono ?_) | (refine (FPrune.use HPH.out HS0.k2.2.2.2 hm2).mono ?_)); rintro e w1 ⟨v1, rfl, hv1, hb1⟩; (first | (have hs2 := hs1.next hb1) | (have hs1 := HS0.next hb1)); (first | (have hx2 := hx1.next hb1) | (have hx1 := HX0.next hb1))))
        all_goals (go_wp2_with fail; go_meet; exact ⟨hs2.k2, hv1, hx2⟩)
      case rest =>
        have HC2 := Lib.hid hcut.out
        clear hcut HC1
        go_wp2_with (first | (refine box_load w.heap.size HC2.out.1.2.1 rfl _ rfl rfl ?_) | (refine box_load (w.heap.size + 1) HC2.out.1.2.2.1 rfl _ rfl rfl ?_))
        refine (HLT.out _).mono ?_
        rintro e w3 ⟨rfl, hb3⟩
        have HC3 : Hid (K2 w x y z a b c (.slice ao n cap) l w3 ∧ Vers w3 u8 k2 ∧ Vers w3 u7 k2) := ⟨HC2.out.1.next hb3, HC2.out.2.1.next hb3, HC2.out.2.2.next hb3⟩
        clear hb3 HC2
        go_wp2_with fail
        refine (FPrune.use HPH.out HC3.out.1.2.2.2 hm).mono ?_
        rintro e w4 ⟨v4, rfl, hv4, hb4⟩
        have HC4 : Hid (Below w.heap.size w w4 ∧ Vers w4 u8 k2 ∧ Vers w4 u7 k2 ∧ Vers w4 v4 k2) := ⟨(HC3.out.1.next hb4).1, HC3.out.2.1.next hb4, HC3.out.2.2.next hb4, hv4⟩
        clear hb4 HC3 hv4
        go_wp2_with fail
        refine (refEqual_any HC4.out.2.2.1 HC4.out.2.2.2).mono ?_
        rintro e w5 ⟨rfl, hb5⟩
        have HC5 : Hid (Below w.heap.size w w5 ∧ Vers w5 u8 k2 ∧ Vers w5 v4 k2) := ⟨HC4.out.1.trans (hb5.mono HC4.out.1.size), HC4.out.2.1.next hb5, HC4.out.2.2.2.next hb5⟩
        clear hb5 HC4
        go_wp2_with fail
        refine (refEqual_any HC5.out.2.1 HC5.out.2.2).mono ?_
        rintro e w6 ⟨rfl, hb6⟩
        have hb := HC5.out.1.trans (hb6.mono HC5.out.1.size)
        go_wp2_with fail
        refine (HAW.out _).mono ?_
        rintro e w9 ⟨rfl, hb9⟩
        go_wp2_with fail
        go_ret
        exact ⟨rfl, hb.trans (hb9.mono hb.size)⟩

end Go.Proofs.Ytbboamfjkdcjeaa
