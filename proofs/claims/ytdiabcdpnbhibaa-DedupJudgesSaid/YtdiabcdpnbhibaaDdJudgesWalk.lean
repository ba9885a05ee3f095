/-
  DedupJudges over the contracts' forms.
-/
import Derived.Test.YtdiabcdpnbhibaaDdForms
set_option linter.unusedVariables false
namespace Go.Proofs.Ytdiabcdpnbhibaa
open Go.RowKit

/-- A box of a row, at a place, in a world that is later. -/
def JbRel (w : World) (h : Nat) (d : DnV) (W : World) : Prop := Below w.heap.size w W ∧ DBox W h d
theorem JbRel.next {w W W' : World} {h : Nat} {d : DnV} (H : JbRel w h d W) (hb : Below W.heap.size W W') : JbRel w h d W' := ⟨H.1.trans (hb.mono H.1.size), H.2.over hb⟩

set_option maxRecDepth 100000 in
set_option maxHeartbeats 4000000 in
theorem dedupJudges_core (hA : FDAwake) (hRt : FDRight) (hJ : FDJudge) (hT : FDTold) (w : World) (v : Value) (t : List Dn) (hv : Tab w v t) (c r : Int) (hc : -9223372036854775808 ≤ c ∧ c ≤ 9223372036854775807) (hr : -9223372036854775808 ≤ r ∧ r ≤ 9223372036854775807) :
    Calls Try.prog 3 #[v, .int .i64 c, .int .i64 r] w fun e' w' => e' = .returned (.bool true) ∧ Below w.heap.size w w' := by
  obtain ⟨g1, hg1⟩ : ∃ g, g = smallT t := ⟨_, rfl⟩
  obtain ⟨g2, hg2⟩ : ∃ g, g = rightT t := ⟨_, rfl⟩
  obtain ⟨j, hj⟩ : ∃ j, j = judT t c r := ⟨_, rfl⟩
  obtain ⟨o1, ho1⟩ : ∃ o, o = toldT t c := ⟨_, rfl⟩
  obtain ⟨o2, ho2⟩ : ∃ o, o = rowT t c := ⟨_, rfl⟩
  obtain ⟨k1, hk1⟩ : ∃ k, k = o1.isSome := ⟨_, rfl⟩
  obtain ⟨k2, hk2⟩ : ∃ k, k = o2.isSome := ⟨_, rfl⟩
  have H1 : Hid (∀ W, W = w → Calls Try.prog 8 #[v] W fun e0 w' => e0 = .returned (.bool g1) ∧ w' = W) := by
    show ∀ W, _ → _
    rintro W rfl
    rw [hg1]; exact refTSmall_any hv
  have H2 : Hid (∀ W, Below w.heap.size w W → Calls Try.prog 10 #[v] W fun e0 w' => e0 = .returned (.bool g2) ∧ Below W.heap.size W w') := fun W hW => by rw [hg2]; exact refTRight_any (hv.next hW)
  have H3 : Hid (∀ W, Below w.heap.size w W → Calls Try.prog 11 #[v] W fun e0 w' => e0 = .returned (.bool g2) ∧ Below W.heap.size W w') := fun W hW => by rw [hg2]; exact hRt W v t (hv.next hW)
  have H4 : Hid (∀ W, Below w.heap.size w W → Calls Try.prog 12 #[v, .int .i64 c, .int .i64 r] W fun e0 w' => e0 = .returned (.int .i64 j) ∧ Below W.heap.size W w') := fun W hW => by rw [hj]; exact hJ W v t c r (hv.next hW) hc hr
  have H5 : Hid (∀ W, Below w.heap.size w W → Calls Try.prog 13 #[v, .int .i64 c, .int .i64 r] W fun e0 w' => e0 = .returned (.int .i64 j) ∧ Below W.heap.size W w') := fun W hW => by rw [hj]; exact refJudge_any (hv.next hW) c r
  have H6 : Hid (∀ W, Below w.heap.size w W → Calls Try.prog 14 #[v, .int .i64 c] W fun e0 w' => TdRes t c e0 ∧ Below W.heap.size W w') := fun W hW => hT W v t c (hv.next hW) hc
  have H7 : Hid (∀ W, Below w.heap.size w W → Calls Try.prog 15 #[v, .int .i64 c] W fun e0 w' => RowRes t c e0 ∧ Below W.heap.size W w') := fun W hW => refRow_any (hv.next hW) c
  have HTD : Hid (∀ e0, TdRes t c e0 → ∃ (p : Dn) (q : Option Addr × Nat), e0 = .returned (.tuple #[dnV (p, q), .bool k1]) ∧ p = o1.getD dn0) := by
    show ∀ e0, _ → _
    rintro e0 ⟨⟨p, q⟩, h1, h2⟩
    exact ⟨p, q, by rw [h1, hk1, ho1], by rw [ho1]; exact h2⟩
  have HRD : Hid (∀ e0, RowRes t c e0 → ∃ (p : Dn) (q : Option Addr × Nat), e0 = .returned (.tuple #[dnV (p, q), .bool k2]) ∧ ∀ x, o2 = some x → p = x) := by
    show ∀ e0, _ → _
    rintro e0 ⟨⟨p, q⟩, h1, h2, h3⟩
    exact ⟨p, q, by rw [h1, hk2, ho2], fun x hx => h2 x (by rw [← ho2]; exact hx)⟩
  have HO : Hid ((g2 = false → o1 = none) ∧ (g2 = true → o1 = o2) ∧ (∀ x, o1 = some x → dN x = 0) ∧ k1 = o1.isSome ∧ k2 = o2.isSome) := by
    refine ⟨fun h => ?_, fun h => ?_, fun x hx => ?_, hk1, hk2⟩
    · rw [ho1]; unfold toldT; rw [← hg2, h]; rfl
    · rw [ho1, ho2]; unfold toldT; rw [← hg2, h]; rfl
    · rw [ho1] at hx
      unfold toldT at hx
      cases hrt : rightT t
      · rw [hrt] at hx; cases hx
      · rw [hrt] at hx
        exact (row_spec ((right_parts hrt).2.1 x (row_some hx).1)).2.2
  have HE : Hid (∀ W (a b : Nat) (p : Dn) (q q' : Option Addr × Nat), dN p = 0 → DBox W a (p, q) → DBox W b (p, q') → Calls Try.prog 16 #[.slice (some ⟨a, 0, none⟩) 1 1, .slice (some ⟨b, 0, none⟩) 1 1] W fun e0 w' => e0 = .returned (.bool true) ∧ Below W.heap.size W w') := by
    show ∀ W a b p q q', _ → _ → _ → _
    intro W a b p q q' hp h1 h2
    exact refTEqual_any (show Tab W _ [p] from tab_lit h1) (show Tab W _ [p] from tab_lit h2) (fun d hd => by rw [List.mem_singleton] at hd; rw [hd]; exact hp)
  have HA : Hid (FDAwake) := hA
  clear hg1 hg2 hj ho1 ho2 hk1 hk2 hA hRt hJ hT hv
  cases g1
  · go_enter Try.func3, Try.ntmps3
    go_wp2_with fail
    refine (H1.out _ rfl).mono ?_
    rintro e' w1 ⟨rfl, rfl⟩
    go_wp2_with fail
    refine (HA.out _).mono ?_
    rintro e' w1 ⟨rfl, hb1⟩
    go_wp2_with fail
    go_ret
    exact ⟨rfl, hb1⟩
  go_enter Try.func3, Try.ntmps3
  go_wp2_with fail
  refine (H1.out _ rfl).mono ?_
  rintro e' w0 ⟨rfl, rfl⟩
  rename World => w
  go_wp2_with fail
  refine (H2.out _ (Below.refl _ _)).mono ?_
  rintro e' w1 ⟨rfl, hb1⟩
  have B1 := Lib.hid hb1
  clear hb1
  go_wp2_with fail
  refine (H3.out _ B1.out).mono ?_
  rintro e' w2 ⟨rfl, hb2⟩
  have B2 : Hid (Below w.heap.size w w2) := B1.out.trans (hb2.mono B1.out.size)
  clear hb2 B1
  go_wp2_with fail
  refine (H4.out _ B2.out).mono ?_
  rintro e' w3 ⟨rfl, hb3⟩
  have B3 : Hid (Below w.heap.size w w3) := B2.out.trans (hb3.mono B2.out.size)
  clear hb3 B2
  go_wp2_with fail
  refine (H5.out _ B3.out).mono ?_
  rintro e' w4 ⟨rfl, hb4⟩
  have B4 : Hid (Below w.heap.size w w4) := B3.out.trans (hb4.mono B3.out.size)
  clear hb4 B3 H1 H2 H3 H4 H5
  go_wp2_with fail
  refine (H6.out _ B4.out).mono ?_
  rintro e' w5 ⟨ht, hb5⟩
  obtain ⟨⟨c1, r1, e1, ⟨x1, y1, z1⟩, f1, s1, n1, t1, m1⟩, ⟨a1, q1⟩, he, hp1⟩ := HTD.out _ ht
  have HP1 := Lib.hid hp1
  have he2 : e' = .returned (.tuple #[(Go.Value.agg #[Go.Value.int Go.IntKind.i64 c1, Go.Value.int Go.IntKind.i64 r1, Go.Value.int Go.IntKind.i64 e1, Go.Value.int Go.IntKind.i64 x1, Go.Value.int Go.IntKind.i64 y1, Go.Value.int Go.IntKind.i64 z1, Go.Value.bool f1, Go.Value.string s1, Go.Value.slice a1 n1 q1, Go.Value.string t1, Go.Value.bool m1]), .bool k1]) := he
  subst he2
  have B5 : Hid (Below w.heap.size w w5) := B4.out.trans (hb5.mono B4.out.size)
  clear ht he hp1 hb5 B4 H6 HTD
  have J5 : Hid (JbRel w w5.heap.size ((c1, r1, e1, (x1, y1, z1), f1, s1, n1, t1, m1), a1, q1) (w5.alloc (.cells #[Go.Value.int Go.IntKind.i64 c1, Go.Value.int Go.IntKind.i64 r1, Go.Value.int Go.IntKind.i64 e1, Go.Value.int Go.IntKind.i64 x1, Go.Value.int Go.IntKind.i64 y1, Go.Value.int Go.IntKind.i64 z1, Go.Value.bool f1, Go.Value.string s1, Go.Value.slice a1 n1 q1, Go.Value.string t1, Go.Value.bool m1] 33))) := ⟨B5.out.alloc B5.out.size _, DBox.new w5 ((c1, r1, e1, (x1, y1, z1), f1, s1, n1, t1, m1), a1, q1)⟩
  go_upto_region 7 with (fail)
  generalize w5.alloc (.cells #[Go.Value.int Go.IntKind.i64 c1, Go.Value.int Go.IntKind.i64 r1, Go.Value.int Go.IntKind.i64 e1, Go.Value.int Go.IntKind.i64 x1, Go.Value.int Go.IntKind.i64 y1, Go.Value.int Go.IntKind.i64 z1, Go.Value.bool f1, Go.Value.string s1, Go.Value.slice a1 n1 q1, Go.Value.string t1, Go.Value.bool m1] 33) = w6 at J5 ⊢
  generalize w5.heap.size = h5 at J5 ⊢
  clear B5
  go_wp2_with fail
  refine (H7.out _ J5.out.1).mono ?_
  rintro e' w7 ⟨ht, hb7⟩
  obtain ⟨⟨c2, r2, e2, ⟨x2, y2, z2⟩, f2, s2, n2, t2, m2⟩, ⟨a2, q2⟩, he, hp2⟩ := HRD.out _ ht
  have HP2 := Lib.hid hp2
  have he2 : e' = .returned (.tuple #[(Go.Value.agg #[Go.Value.int Go.IntKind.i64 c2, Go.Value.int Go.IntKind.i64 r2, Go.Value.int Go.IntKind.i64 e2, Go.Value.int Go.IntKind.i64 x2, Go.Value.int Go.IntKind.i64 y2, Go.Value.int Go.IntKind.i64 z2, Go.Value.bool f2, Go.Value.string s2, Go.Value.slice a2 n2 q2, Go.Value.string t2, Go.Value.bool m2]), .bool k2]) := he
  subst he2
  have J7 := Lib.hid (J5.out.next hb7)
  clear ht he hp2 hb7 J5 H7 HRD
  have J8 : Hid (JbRel w h5 ((c1, r1, e1, (x1, y1, z1), f1, s1, n1, t1, m1), a1, q1) (w7.alloc (.cells #[Go.Value.int Go.IntKind.i64 c2, Go.Value.int Go.IntKind.i64 r2, Go.Value.int Go.IntKind.i64 e2, Go.Value.int Go.IntKind.i64 x2, Go.Value.int Go.IntKind.i64 y2, Go.Value.int Go.IntKind.i64 z2, Go.Value.bool f2, Go.Value.string s2, Go.Value.slice a2 n2 q2, Go.Value.string t2, Go.Value.bool m2] 33)) ∧ DBox (w7.alloc (.cells #[Go.Value.int Go.IntKind.i64 c2, Go.Value.int Go.IntKind.i64 r2, Go.Value.int Go.IntKind.i64 e2, Go.Value.int Go.IntKind.i64 x2, Go.Value.int Go.IntKind.i64 y2, Go.Value.int Go.IntKind.i64 z2, Go.Value.bool f2, Go.Value.string s2, Go.Value.slice a2 n2 q2, Go.Value.string t2, Go.Value.bool m2] 33)) w7.heap.size ((c2, r2, e2, (x2, y2, z2), f2, s2, n2, t2, m2), a2, q2)) := ⟨J7.out.next ((Below.refl _ _).alloc (Nat.le_refl _) _), DBox.new w7 ((c2, r2, e2, (x2, y2, z2), f2, s2, n2, t2, m2), a2, q2)⟩
  go_upto_region 8 with (fail)
  generalize w7.alloc (.cells #[Go.Value.int Go.IntKind.i64 c2, Go.Value.int Go.IntKind.i64 r2, Go.Value.int Go.IntKind.i64 e2, Go.Value.int Go.IntKind.i64 x2, Go.Value.int Go.IntKind.i64 y2, Go.Value.int Go.IntKind.i64 z2, Go.Value.bool f2, Go.Value.string s2, Go.Value.slice a2 n2 q2, Go.Value.string t2, Go.Value.bool m2] 33) = w8 at J8 ⊢
  generalize w7.heap.size = h7 at J8 ⊢
  clear J7
  obtain ⟨x0_, x1_, x2_, x3_, x4_, x5_, x6_, x7_, x8_, x9_, x10_⟩ := J8.out.1.2.cell
  dsimp only at x0_ x1_ x2_ x3_ x4_ x5_ x6_ x7_ x8_ x9_ x10_
  have hcase : (k1 = false ∧ (g2 = false ∨ (g2 = true ∧ k2 = false)) ∧ (c1, r1, e1, (x1, y1, z1), f1, s1, n1, t1, m1) = dn0) ∨ (k1 = true ∧ g2 = true ∧ k2 = true ∧ (c2, r2, e2, (x2, y2, z2), f2, s2, n2, t2, m2) = (c1, r1, e1, (x1, y1, z1), f1, s1, n1, t1, m1) ∧ n1 = 0) := by
    obtain ⟨h1, h2, h3, h4, h5⟩ := HO.out
    have hq1 := HP1.out
    have hq2 := HP2.out
    cases hg : g2
    · have h6 := h1 hg
      rw [h6] at h4 hq1
      exact .inl ⟨h4, .inl rfl, hq1⟩
    · have h6 := h2 hg
      cases ho : o1 with
      | none =>
        rw [ho] at h4 hq1
        rw [← h6, ho] at h5
        exact .inl ⟨h4, .inr ⟨rfl, h5⟩, hq1⟩
      | some x =>
        rw [ho] at h4 hq1
        rw [← h6, ho] at h5
        have h8 : (c2, r2, e2, (x2, y2, z2), f2, s2, n2, t2, m2) = x := hq2 x (by rw [← h6, ho])
        have h9 : (c1, r1, e1, (x1, y1, z1), f1, s1, n1, t1, m1) = x := hq1
        exact .inr ⟨h4, rfl, h5, h8.trans h9.symm, by have h10 := h3 x ho; rw [← h9] at h10; exact h10⟩
  rcases hcase with ⟨rfl, hgk, heq⟩ | ⟨rfl, rfl, rfl, heq, rfl⟩
  · simp only [dn0, Prod.mk.injEq] at heq
    obtain ⟨rfl, rfl, rfl, ⟨rfl, rfl, rfl⟩, rfl, rfl, rfl, rfl, rfl⟩ := heq
    have J9 : Hid (Below w.heap.size w ((w8.alloc (.cells #[Go.Value.int Go.IntKind.i64 0, Go.Value.int Go.IntKind.i64 0, Go.Value.int Go.IntKind.i64 0, Go.Value.int Go.IntKind.i64 0, Go.Value.int Go.IntKind.i64 0, Go.Value.int Go.IntKind.i64 0, Go.Value.bool false, Go.Value.string ({ data := #[] }), Go.Value.slice a1 0 q1, Go.Value.string ({ data := #[] }), Go.Value.bool false] 33)).alloc (.cells #[Go.Value.int Go.IntKind.i64 0, Go.Value.int Go.IntKind.i64 0, Go.Value.int Go.IntKind.i64 0, Go.Value.int Go.IntKind.i64 0, Go.Value.int Go.IntKind.i64 0, Go.Value.int Go.IntKind.i64 0, Go.Value.bool false, Go.Value.string ({ data := #[] }), Go.Value.slice none 0 0, Go.Value.string ({ data := #[] }), Go.Value.bool false] 33)) ∧ DBox ((w8.alloc (.cells #[Go.Value.int Go.IntKind.i64 0, Go.Value.int Go.IntKind.i64 0, Go.Value.int Go.IntKind.i64 0, Go.Value.int Go.IntKind.i64 0, Go.Value.int Go.IntKind.i64 0, Go.Value.int Go.IntKind.i64 0, Go.Value.bool false, Go.Value.string ({ data := #[] }), Go.Value.slice a1 0 q1, Go.Value.string ({ data := #[] }), Go.Value.bool false] 33)).alloc (.cells #[Go.Value.int Go.IntKind.i64 0, Go.Value.int Go.IntKind.i64 0, Go.Value.int Go.IntKind.i64 0, Go.Value.int Go.IntKind.i64 0, Go.Value.int Go.IntKind.i64 0, Go.Value.int Go.IntKind.i64 0, Go.Value.bool false, Go.Value.string ({ data := #[] }), Go.Value.slice none 0 0, Go.Value.string ({ data := #[] }), Go.Value.bool false] 33)) w8.heap.size (dn0, a1, q1) ∧ DBox ((w8.alloc (.cells #[Go.Value.int Go.IntKind.i64 0, Go.Value.int Go.IntKind.i64 0, Go.Value.int Go.IntKind.i64 0, Go.Value.int Go.IntKind.i64 0, Go.Value.int Go.IntKind.i64 0, Go.Value.int Go.IntKind.i64 0, Go.Value.bool false, Go.Value.string ({ data := #[] }), Go.Value.slice a1 0 q1, Go.Value.string ({ data := #[] }), Go.Value.bool false] 33)).alloc (.cells #[Go.Value.int Go.IntKind.i64 0, Go.Value.int Go.IntKind.i64 0, Go.Value.int Go.IntKind.i64 0, Go.Value.int Go.IntKind.i64 0, Go.Value.int Go.IntKind.i64 0, Go.Value.int Go.IntKind.i64 0, Go.Value.bool false, Go.Value.string ({ data := #[] }), Go.Value.slice none 0 0, Go.Value.string ({ data := #[] }), Go.Value.bool false] 33)) (w8.heap.size + 1) (dn0, none, 0)) := by
      have hal : Below w.heap.size w (w8.alloc (.cells #[Go.Value.int Go.IntKind.i64 0, Go.Value.int Go.IntKind.i64 0, Go.Value.int Go.IntKind.i64 0, Go.Value.int Go.IntKind.i64 0, Go.Value.int Go.IntKind.i64 0, Go.Value.int Go.IntKind.i64 0, Go.Value.bool false, Go.Value.string ({ data := #[] }), Go.Value.slice a1 0 q1, Go.Value.string ({ data := #[] }), Go.Value.bool false] 33)) := J8.out.1.1.alloc J8.out.1.1.size _
      have hn2 := DBox.new (w8.alloc (.cells #[Go.Value.int Go.IntKind.i64 0, Go.Value.int Go.IntKind.i64 0, Go.Value.int Go.IntKind.i64 0, Go.Value.int Go.IntKind.i64 0, Go.Value.int Go.IntKind.i64 0, Go.Value.int Go.IntKind.i64 0, Go.Value.bool false, Go.Value.string ({ data := #[] }), Go.Value.slice a1 0 q1, Go.Value.string ({ data := #[] }), Go.Value.bool false] 33)) (dn0, none, 0)
      refine ⟨hal.alloc hal.size _, (DBox.new w8 (dn0, a1, q1)).over ((Below.refl _ _).alloc (Nat.le_refl _) _), ?_⟩
      have e9 : (w8.alloc (.cells #[Go.Value.int Go.IntKind.i64 0, Go.Value.int Go.IntKind.i64 0, Go.Value.int Go.IntKind.i64 0, Go.Value.int Go.IntKind.i64 0, Go.Value.int Go.IntKind.i64 0, Go.Value.int Go.IntKind.i64 0, Go.Value.bool false, Go.Value.string ({ data := #[] }), Go.Value.slice a1 0 q1, Go.Value.string ({ data := #[] }), Go.Value.bool false] 33)).heap.size = w8.heap.size + 1 := by simp
      rw [e9] at hn2
      exact hn2
    rcases hgk with rfl | ⟨rfl, rfl⟩
    all_goals
      go_wp2_with fail
      refine (HE.out _ _ _ dn0 _ _ rfl J9.out.2.1 J9.out.2.2).mono ?_
      rintro e' w10 ⟨rfl, hb10⟩
      have B10 : Hid (Below w.heap.size w w10) := J9.out.1.trans (hb10.mono J9.out.1.size)
      clear hb10
      go_wp2_with fail
      refine (HA.out _).mono ?_
      rintro e' w11 ⟨rfl, hb11⟩
      go_wp2_with fail
      go_ret
      exact ⟨rfl, B10.out.trans (hb11.mono B10.out.size)⟩
  · have hy := (J8.out.2.over ((Below.refl w8.heap.size w8).alloc (Nat.le_refl _) (.cells #[Go.Value.int Go.IntKind.i64 c2, Go.Value.int Go.IntKind.i64 r2, Go.Value.int Go.IntKind.i64 e2, Go.Value.int Go.IntKind.i64 x2, Go.Value.int Go.IntKind.i64 y2, Go.Value.int Go.IntKind.i64 z2, Go.Value.bool f2, Go.Value.string s2, Go.Value.slice a1 0 q1, Go.Value.string t2, Go.Value.bool m2] 33))).cell
    simp only [Prod.mk.injEq] at heq
    obtain ⟨rfl, rfl, rfl, ⟨rfl, rfl, rfl⟩, rfl, rfl, rfl, rfl, rfl⟩ := heq
    obtain ⟨y0_, y1_, y2_, y3_, y4_, y5_, y6_, y7_, y8_, y9_, y10_⟩ := hy
    dsimp only at y0_ y1_ y2_ y3_ y4_ y5_ y6_ y7_ y8_ y9_ y10_
    have J9 : Hid (Below w.heap.size w ((w8.alloc (.cells #[Go.Value.int Go.IntKind.i64 c2, Go.Value.int Go.IntKind.i64 r2, Go.Value.int Go.IntKind.i64 e2, Go.Value.int Go.IntKind.i64 x2, Go.Value.int Go.IntKind.i64 y2, Go.Value.int Go.IntKind.i64 z2, Go.Value.bool f2, Go.Value.string s2, Go.Value.slice a1 0 q1, Go.Value.string t2, Go.Value.bool m2] 33)).alloc (.cells #[Go.Value.int Go.IntKind.i64 c2, Go.Value.int Go.IntKind.i64 r2, Go.Value.int Go.IntKind.i64 e2, Go.Value.int Go.IntKind.i64 x2, Go.Value.int Go.IntKind.i64 y2, Go.Value.int Go.IntKind.i64 z2, Go.Value.bool f2, Go.Value.string s2, Go.Value.slice a2 0 q2, Go.Value.string t2, Go.Value.bool m2] 33)) ∧ DBox ((w8.alloc (.cells #[Go.Value.int Go.IntKind.i64 c2, Go.Value.int Go.IntKind.i64 r2, Go.Value.int Go.IntKind.i64 e2, Go.Value.int Go.IntKind.i64 x2, Go.Value.int Go.IntKind.i64 y2, Go.Value.int Go.IntKind.i64 z2, Go.Value.bool f2, Go.Value.string s2, Go.Value.slice a1 0 q1, Go.Value.string t2, Go.Value.bool m2] 33)).alloc (.cells #[Go.Value.int Go.IntKind.i64 c2, Go.Value.int Go.IntKind.i64 r2, Go.Value.int Go.IntKind.i64 e2, Go.Value.int Go.IntKind.i64 x2, Go.Value.int Go.IntKind.i64 y2, Go.Value.int Go.IntKind.i64 z2, Go.Value.bool f2, Go.Value.string s2, Go.Value.slice a2 0 q2, Go.Value.string t2, Go.Value.bool m2] 33)) w8.heap.size ((c2, r2, e2, (x2, y2, z2), f2, s2, 0, t2, m2), a1, q1) ∧ DBox ((w8.alloc (.cells #[Go.Value.int Go.IntKind.i64 c2, Go.Value.int Go.IntKind.i64 r2, Go.Value.int Go.IntKind.i64 e2, Go.Value.int Go.IntKind.i64 x2, Go.Value.int Go.IntKind.i64 y2, Go.Value.int Go.IntKind.i64 z2, Go.Value.bool f2, Go.Value.string s2, Go.Value.slice a1 0 q1, Go.Value.string t2, Go.Value.bool m2] 33)).alloc (.cells #[Go.Value.int Go.IntKind.i64 c2, Go.Value.int Go.IntKind.i64 r2, Go.Value.int Go.IntKind.i64 e2, Go.Value.int Go.IntKind.i64 x2, Go.Value.int Go.IntKind.i64 y2, Go.Value.int Go.IntKind.i64 z2, Go.Value.bool f2, Go.Value.string s2, Go.Value.slice a2 0 q2, Go.Value.string t2, Go.Value.bool m2] 33)) (w8.heap.size + 1) ((c2, r2, e2, (x2, y2, z2), f2, s2, 0, t2, m2), a2, q2)) := by
      have hal : Below w.heap.size w (w8.alloc (.cells #[Go.Value.int Go.IntKind.i64 c2, Go.Value.int Go.IntKind.i64 r2, Go.Value.int Go.IntKind.i64 e2, Go.Value.int Go.IntKind.i64 x2, Go.Value.int Go.IntKind.i64 y2, Go.Value.int Go.IntKind.i64 z2, Go.Value.bool f2, Go.Value.string s2, Go.Value.slice a1 0 q1, Go.Value.string t2, Go.Value.bool m2] 33)) := J8.out.1.1.alloc J8.out.1.1.size _
      have hn2 := DBox.new (w8.alloc (.cells #[Go.Value.int Go.IntKind.i64 c2, Go.Value.int Go.IntKind.i64 r2, Go.Value.int Go.IntKind.i64 e2, Go.Value.int Go.IntKind.i64 x2, Go.Value.int Go.IntKind.i64 y2, Go.Value.int Go.IntKind.i64 z2, Go.Value.bool f2, Go.Value.string s2, Go.Value.slice a1 0 q1, Go.Value.string t2, Go.Value.bool m2] 33)) ((c2, r2, e2, (x2, y2, z2), f2, s2, 0, t2, m2), a2, q2)
      refine ⟨hal.alloc hal.size _, (DBox.new w8 ((c2, r2, e2, (x2, y2, z2), f2, s2, 0, t2, m2), a1, q1)).over ((Below.refl _ _).alloc (Nat.le_refl _) _), ?_⟩
      have e9 : (w8.alloc (.cells #[Go.Value.int Go.IntKind.i64 c2, Go.Value.int Go.IntKind.i64 r2, Go.Value.int Go.IntKind.i64 e2, Go.Value.int Go.IntKind.i64 x2, Go.Value.int Go.IntKind.i64 y2, Go.Value.int Go.IntKind.i64 z2, Go.Value.bool f2, Go.Value.string s2, Go.Value.slice a1 0 q1, Go.Value.string t2, Go.Value.bool m2] 33)).heap.size = w8.heap.size + 1 := by simp
      rw [e9] at hn2
      exact hn2
    go_wp2_with fail
    refine (HE.out _ _ _ _ _ _ rfl J9.out.2.1 J9.out.2.2).mono ?_
    rintro e' w10 ⟨rfl, hb10⟩
    have B10 : Hid (Below w.heap.size w w10) := J9.out.1.trans (hb10.mono J9.out.1.size)
    clear hb10
    go_wp2_with fail
    refine (HA.out _).mono ?_
    rintro e' w11 ⟨rfl, hb11⟩
    go_wp2_with fail
    go_ret
    exact ⟨rfl, B10.out.trans (hb11.mono B10.out.size)⟩

end Go.Proofs.Ytdiabcdpnbhibaa
