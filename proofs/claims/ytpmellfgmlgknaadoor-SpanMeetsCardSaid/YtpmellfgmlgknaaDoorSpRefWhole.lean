/-
  Rows of spans; the contract of the document's Whole.
-/
import Derived.Test.YtpmellfgmlgknaaDoorSpRefMeet
set_option linter.unusedVariables false
namespace Go.Proofs.YtpmellfgmlgknaaDoor
open Go.RowKit

/-- The two cells of a span in a row. -/
def SpanAt (W : World) (b o : Nat) (s : Spn) : Prop := W.cell? ⟨b, o, none⟩ = some (.string s.1) ∧ W.cell? ⟨b, o + 1, none⟩ = some (.string s.2)
theorem SpanAt.next {B : Nat} {w w' : World} {b o : Nat} {v : Spn} (H : SpanAt w b o v) (hb : Below B w w') (h : b < B) : SpanAt w' b o v := by
  unfold SpanAt
  rw [hb.cell (p := ⟨b, o, none⟩) h, hb.cell (p := ⟨b, o + 1, none⟩) h]
  exact H
/-- A slice value that leads to spans. -/
def Spans (w : World) (v : Value) (l : List Spn) : Prop :=
  ∃ ao cap, v = .slice ao l.length cap ∧ l.length ≤ cap ∧ cap ≤ maxLen ∧ (0 < l.length → ∃ b off, ao = some ⟨b, off, none⟩ ∧ b < w.heap.size ∧ ∀ i, i < l.length → SpanAt w b (off + i * 2) (sat l i))
theorem Spans.next {w w' : World} {v : Value} {l : List Spn} (h : Spans w v l) (hb : Below w.heap.size w w') : Spans w' v l := by
  obtain ⟨ao, cap, e, h1, h2, h3⟩ := h
  refine ⟨ao, cap, e, h1, h2, fun hp => ?_⟩
  obtain ⟨b, off, e2, h4, h5⟩ := h3 hp
  exact ⟨b, off, e2, Nat.lt_of_lt_of_le h4 hb.size, fun i hi => (h5 i hi).next hb h4⟩
theorem Spans.opened {w : World} {v : Value} {l : List Spn} (h : Spans w v l) : ∃ ao n cap, v = .slice ao n cap ∧ l.length = n ∧ n ≤ cap ∧ cap ≤ maxLen ∧ n ≤ 9223372036854775807 ∧
    (0 < n → ∃ b off, ao = some ⟨b, off, none⟩ ∧ b < w.heap.size ∧ ∀ i, i < n → SpanAt w b (off + i * 2) (sat l i)) := by
  obtain ⟨ao, cap, rfl, h1, h2, h3⟩ := h
  have : maxLen ≤ 9223372036854775807 := by decide
  exact ⟨ao, l.length, cap, rfl, rfl, h1, h2, by omega, h3⟩

/-! ### What is joined so far -/
def curS (l : List Spn) (k : Nat) : Spn := ((sat l 0).1, (sat l (k - 1)).2)
theorem cur_join {l : List Spn} {k : Nat} (h0 : 0 < k) (hc : spR (curS l k) = true) (h : lnk l k = true) : joinE (curS l k) (sat l k) = 0 ∧ joinS (curS l k) (sat l k) = curS l (k + 1) ∧ spR (curS l (k + 1)) = true := by
  obtain ⟨hr, hl⟩ := lnk_spec h
  obtain ⟨hs, he⟩ := hl h0
  have e1 : joinE (curS l k) (sat l k) = 0 := by
    unfold joinE
    rw [hc, hr]
    exact if_neg (fun h => Or.elim h (fun h => by have h2 : (sat l (k - 1)).2.size = 0 := h
                                                  rw [← he] at h2; omega) (fun h => h he.symm))
  have e2 : joinS (curS l k) (sat l k) = curS l (k + 1) := by
    unfold joinS; rw [if_pos e1]; rfl
  refine ⟨e1, e2, ?_⟩
  obtain ⟨a1, a2⟩ := spR_spec hc
  obtain ⟨b1, b2⟩ := spR_spec hr
  have a2' : (sat l k).1.size = 0 ∨ (Ky.right (sat l k).1 = true ∧ Ky.compare (sat l 0).1 (sat l k).1 < 0) := by rw [he]; exact a2
  refine spR_of a1 (b2.imp id fun h3 => ⟨h3.1, ?_⟩)
  rcases a2' with h4 | h4
  · omega
  · exact lt_le h4.2 (Int.le_of_lt h3.2)
theorem cur_not {l : List Spn} {k : Nat} (h0 : 0 < k) (hc : spR (curS l k) = true) (h : lnk l k = false) : joinE (curS l k) (sat l k) ≠ 0 := by
  intro e
  have h1 : joinE (curS l k) (sat l k) = (if spR (curS l k) && spR (sat l k) then (if (curS l k).2.size = 0 ∨ (curS l k).2 ≠ (sat l k).1 then 9 else 0) else 1) := rfl
  rw [h1, hc, Bool.true_and] at e
  cases h2 : spR (sat l k)
  · rw [h2, if_neg (by decide)] at e; omega
  · rw [h2, if_pos rfl] at e
    by_cases h3 : (curS l k).2.size = 0 ∨ (curS l k).2 ≠ (sat l k).1
    · rw [if_pos h3] at e; omega
    · have h4 : ¬ (sat l (k - 1)).2.size = 0 := fun h5 => h3 (Or.inl h5)
      have h5 : (sat l (k - 1)).2 = (sat l k).1 := Classical.byContradiction fun h6 => h3 (Or.inr h6)
      have h7 : lnk l k = true := by
        simp only [lnk, Bool.and_eq_true, Bool.or_eq_true, decide_eq_true_eq]
        exact ⟨h2, .inr ⟨by rw [← h5]; omega, h5.symm⟩⟩
      rw [h7] at h; cases h
theorem cur_end {l : List Spn} (h0 : 0 < l.length) (h : ∀ j, j < l.length → lnk l j = true) : wholeB l = (decide ((curS l l.length).1.size = 0) && decide ((curS l l.length).2.size = 0)) := by
  unfold wholeB
  rw [Bool.eq_iff_iff, Bool.and_eq_true, decide_eq_true_eq, decide_eq_true_eq, decide_eq_true_eq]
  exact ⟨fun h2 => h2.2.2, fun h2 => ⟨h0, h, h2⟩⟩

/-- Whole's memory: the joined span's block. -/
def WRl (w : World) (g : Nat) (x y : ByteArray) (W : World) : Prop := Below w.heap.size w W ∧ w.heap.size ≤ g ∧ PBox W g x y
theorem WRl.next {w w1 w2 : World} {g : Nat} {x y : ByteArray} (H : WRl w g x y w1) (hb : Below w1.heap.size w1 w2) : WRl w g x y w2 :=
  ⟨H.1.trans (hb.mono H.1.size), H.2.1, H.2.2.over hb⟩
theorem WRl.new {w w1 : World} (H : Below w.heap.size w w1) (x y : ByteArray) : WRl w w1.heap.size x y (w1.alloc (.cells #[.string x, .string y] 23)) :=
  ⟨H.alloc H.size _, H.size, PBox.new w1 x y⟩
theorem WRl.put {w w1 : World} {g : Nat} {x y : ByteArray} (H : WRl w g x y w1) (x' y' : ByteArray) : WRl w g x' y' (w1.setRow g #[.string x', .string y']) :=
  ⟨below_setRow H.1 H.2.1 _, H.2.1, H.2.2.set x' y'⟩
def WC (w : World) (g b o : Nat) (x y c d : ByteArray) (W : World) : Prop := W.cell? ⟨g, 0, none⟩ = some (.string x) ∧ W.cell? ⟨g, 1, none⟩ = some (.string y) ∧ W.cell? ⟨b, o, none⟩ = some (.string c) ∧ W.cell? ⟨b, o + 1, none⟩ = some (.string d)
  ∧ WRl w g x y W ∧ b < w.heap.size
theorem WC.of {w : World} {g b o : Nat} {x y c d : ByteArray} {W : World} (H : WRl w g x y W) (h : b < w.heap.size) (h2 : SpanAt W b o (c, d)) : WC w g b o x y c d W :=
  ⟨H.2.2.cell.1, H.2.2.cell.2, h2.1, h2.2, H, h⟩
theorem WC.next {w w1 w2 : World} {g b o : Nat} {x y c d : ByteArray} (H : WC w g b o x y c d w1) (hb : Below w1.heap.size w1 w2) : WC w g b o x y c d w2 :=
  .of (H.2.2.2.2.1.next hb) H.2.2.2.2.2 (SpanAt.next ⟨H.2.2.1, H.2.2.2.1⟩ hb (Nat.lt_of_lt_of_le H.2.2.2.2.2 H.2.2.2.2.1.1.size))
theorem WC.off {w W : World} {g b o : Nat} {x y c d : ByteArray} (H : WC w g b o x y c d W) (p : Addr) (v : Value) (n1 : g ≠ p.block) (n2 : w.heap.size ≤ p.block) : WC w g b o x y c d (W.setCell p v) := by
  obtain ⟨_, _, h3, h4, h5, h6⟩ := H
  refine .of ⟨h5.1.setCell n2 v, h5.2.1, h5.2.2.off _ _ n1⟩ h6 ⟨?_, ?_⟩
  all_goals
    rw [World.cell?_setCell_other _ _ _ _ (by intro e; subst e; dsimp only at n2; omega)]
    assumption
theorem WC.fresh {w W : World} {g b o : Nat} {x y c d : ByteArray} (H : WC w g b o x y c d W) : g ≠ W.heap.size ∧ w.heap.size ≤ W.heap.size := ⟨by have := H.2.2.2.2.1.2.2.lt; omega, H.2.2.2.2.1.1.size⟩

set_option maxRecDepth 100000 in
set_option maxHeartbeats 1000000 in
theorem spRefWhole_any {w : World} {v : Value} {l : List Spn} (h : Spans w v l) : Calls Tryd.prog 22 #[v] w fun e w' => e = .returned (.bool (wholeB l)) ∧ Below w.heap.size w w' := by
  obtain ⟨ao, n, cap, rfl, hl, hle, hmx, hn, hrow⟩ := h.opened
  obtain ⟨R, hR⟩ : ∃ R, R = wholeB l := ⟨_, rfl⟩
  rw [← hR]
  by_cases h0 : n = 0
  · subst h0
    have hR0 : R = false := by rw [hR]; unfold wholeB; exact decide_eq_false fun h => by omega
    subst hR0
    clear hR hrow h hl
    go_enter Tryd.func22, Tryd.ntmps22
    go_wp2_with fail
    go_ret
    exact ⟨rfl, Below.refl _ _⟩
  obtain ⟨b, off, rfl, hb, hcl⟩ := hrow (by omega)
  have HC := Lib.hid hcl
  obtain ⟨c0, d0⟩ := hcl 0 (by omega)
  rw [Nat.zero_mul, Nat.add_zero] at c0 d0
  obtain ⟨lo, hlo⟩ : ∃ lo, lo = (sat l 0).1 := ⟨_, rfl⟩
  obtain ⟨hi, hhi⟩ : ∃ hi, hi = (sat l 0).2 := ⟨_, rfl⟩
  rw [← hlo] at c0
  rw [← hhi] at d0
  obtain ⟨p, hp⟩ : ∃ p, p = spR (lo, hi) := ⟨_, rfl⟩
  have HP : Hid (∀ W, Calls Tryd.prog 11 #[(Go.Value.agg #[Go.Value.string lo, Go.Value.string hi])] W fun e w' => e = .returned (.bool p) ∧ Below W.heap.size W w') := fun W => by rw [hp]; exact spRefRight_any lo hi W
  have hp2 : p = lnk l 0 := by rw [hp, hlo, hhi]; unfold lnk; simp
  have HL := Lib.hid hl
  have HRR := Lib.hid hR
  have HLO := Lib.hid hlo
  have HHI := Lib.hid hhi
  have HP2 := Lib.hid hp2
  have HPP := Lib.hid hp
  have HB := Lib.hid hb
  have e0 : ((n : Int) == 0) = false := beq_eq_false_iff_ne.2 (by omega)
  have l0 : (0 : Int) < (n : Int) := by omega
  have l1 : 0 < n := by omega
  clear hl hR hlo hhi hp hp2 hb hcl hrow h hle hmx
  go_enter Tryd.func22, Tryd.ntmps22
  go_wp2_with fail
  refine (HP.out _).mono ?_
  rintro e w1 ⟨rfl, hb1⟩
  have HB1 := Lib.hid hb1
  have z0 := (SpanAt.next (b := b) (o := off) (v := (lo, hi)) ⟨c0, d0⟩ hb1 HB.out).1
  have z1 := (SpanAt.next (b := b) (o := off) (v := (lo, hi)) ⟨c0, d0⟩ hb1 HB.out).2
  dsimp only at z0 z1
  clear hb1 c0 d0
  cases p
  · have hR0 : R = false := by rw [HRR.out]; exact whole_at (i := 0) (by rw [HL.out]; omega) HP2.out.symm
    subst hR0
    go_wp2_with fail
    go_ret
    exact ⟨rfl, HB1.out⟩
  go_upto_region 4 with (fail)
  have H2 := Lib.hid (WRl.new HB1.out lo hi)
  generalize hw2 : w1.alloc _ = w2 at H2 ⊢
  generalize hg : w1.heap.size = g at H2 ⊢
  clear hw2 z0 z1 HB1
  go_wp2_with fail
  go_loopw [4] (fun i wr => ∃ k : Nat, 1 ≤ k ∧ k ≤ n ∧ i = .int .i64 k ∧ Hid ((∀ j, j < k → lnk l j = true) ∧ spR (curS l k) = true ∧ WRl w g (curS l k).1 (curS l k).2 wr)) (fun i _ => n - (intOf i).toNat)
  case atStart => exact ⟨1, Nat.le_refl _, by omega, rfl, fun j hj => by rw [show j = 0 by omega]; exact HP2.out.symm, by unfold curS; rw [← HLO.out, ← HHI.out, ← HPP.out], by unfold curS; rw [← HLO.out, ← HHI.out]; exact H2.out⟩
  case round =>
    obtain ⟨k, hk1, hk, rfl, hrl⟩ := hrel
    obtain ⟨x, hx⟩ : ∃ x, x = (curS l k).1 := ⟨_, rfl⟩
    obtain ⟨y, hy⟩ : ∃ y, y = (curS l k).2 := ⟨_, rfl⟩
    have H3 : Hid (WRl w g x y wr) := by show WRl w g x y wr; rw [hx, hy]; exact hrl.out.2.2
    by_cases hlt : k < n
    · obtain ⟨c, hc⟩ : ∃ c, c = (sat l k).1 := ⟨_, rfl⟩
      obtain ⟨d, hd⟩ : ∃ d, d = (sat l k).2 := ⟨_, rfl⟩
      have HS : Hid (WC w g b (off + k * 2) x y c d wr) := WC.of H3.out HB.out (by rw [hc, hd]; exact (HC.out k hlt).next H3.out.1 HB.out)
      obtain ⟨X, hX⟩ : ∃ X, X = (joinS (x, y) (c, d)).1 := ⟨_, rfl⟩
      obtain ⟨Y, hY⟩ : ∃ Y, Y = (joinS (x, y) (c, d)).2 := ⟨_, rfl⟩
      obtain ⟨E, hE⟩ : ∃ E, E = joinE (x, y) (c, d) := ⟨_, rfl⟩
      have HJ : Hid (∀ W, Calls Tryd.prog 18 #[(Go.Value.agg #[Go.Value.string x, Go.Value.string y]), (Go.Value.agg #[Go.Value.string c, Go.Value.string d])] W fun e w' => e = .returned (.tuple #[(Go.Value.agg #[Go.Value.string X, Go.Value.string Y]), .int .i64 E]) ∧ Below W.heap.size W w') := fun W => by rw [hX, hY, hE]; exact spRefJoin_any x y c d W
      have exy : (x, y) = curS l k := by rw [hx, hy]
      have ecd : (c, d) = sat l k := by rw [hc, hd]
      rw [exy, ecd] at hX hY hE
      have q0 : k < n := hlt
      have q1 : (k : Int) < (n : Int) := by omega
      clear hx hy hc hd exy ecd
      have HX := Lib.hid hX
      have HY := Lib.hid hY
      have HE := Lib.hid hE
      clear hX hY hE
      go_upto_region 7 with (fail)
      go_cut [5, 6] (fun s5 s6 wx => Hid (∃ h, s5 = .pointer (some ⟨h, 0, none⟩) ∧ s6 = .int .i64 E ∧ WRl w g x y wx ∧ PBox wx h X Y))
      case first =>
        have HS0 : WC w g b (off + k * 2) x y c d wr.drew := HS.out.next ((Below.refl _ _).drew)
        obtain ⟨n1, n2⟩ := HS0.fresh
        have n3 : g < wr.drew.heap.size := HS0.2.2.2.2.1.2.2.lt
        have HSA : WC w g b (off + k * 2) x y c d ((wr.alloc (.cells #[.string emp, .string emp] 23)).drew) := (HS.out.next ((Below.refl _ _).alloc (Nat.le_refl _) _)).next ((Below.refl _ _).drew)
        go_region_held3 (fun W => W.cell? ⟨g, 0, none⟩ = some (.string x) ∧ W.cell? ⟨g, 1, none⟩ = some (.string y) ∧ W.cell? ⟨b, off + k * 2, none⟩ = some (.string c) ∧ W.cell? ⟨b, off + k * 2 + 1, none⟩ = some (.string d) ∧ WRl w g x y W ∧ b < w.heap.size) ((show WC w g b (off + k * 2) x y c d _; first | (with_reducible exact hs1) | (with_reducible exact HS0) | (with_reducible exact HSA) | (exact hs1.next ((Below.refl _ _).alloc (Nat.le_refl _) _)) | (exact HS0.next ((Below.refl _ _).alloc (Nat.le_refl _) _)) | (refine WC.off (WC.off hs1 _ _ ?_ ?_) _ _ ?_ ?_ <;> (first | exact n1 | exact n2)))) ((go_at_call 18; refine (HJ.out _).mono ?_; rintro e w1 ⟨rfl, hb1⟩; (first | have hs1 := HS0.next hb1 | (have hs1 := HSA.next hb1; have hz := PBox.next (PBox.drew (PBox.new wr emp emp)) hb1 (by show wr.heap.size < (wr.alloc _).heap.size; simp); obtain ⟨z1, z2⟩ := hz.cell; have z3 : ∀ i, w1.frozen? ⟨wr.heap.size, i, none⟩ = false := hz.frozen))))
        all_goals (go_wp2_with fail; go_meet; first | exact ⟨_, rfl, rfl, (hs1.next ((Below.refl _ _).alloc (Nat.le_refl _) _)).2.2.2.2.1, PBox.new _ X Y⟩ | exact ⟨_, rfl, rfl, (WC.off (WC.off hs1 ⟨wr.heap.size, 0, none⟩ (.string X) n1 n2) ⟨wr.heap.size, 1, none⟩ (.string Y) n1 n2).2.2.2.2.1, (hz.set0 X).set1 Y⟩)
      case rest =>
        obtain ⟨h, rfl, rfl, H5, H6⟩ := hcut.out
        replace H5 := Lib.hid H5
        replace H6 := Lib.hid H6
        clear hcut HS HJ H3
        cases hk2 : lnk l k
        · have hE0 : E ≠ 0 := by rw [HE.out]; exact cur_not (by omega) hrl.out.2.1 hk2
          have e1 : (E == 0) = false := beq_eq_false_iff_ne.2 hE0
          have hR0 : R = false := by rw [HRR.out]; exact whole_at (i := k) (by rw [HL.out]; omega) hk2
          subst hR0
          clear hk2
          go_wp2_with fail
          go_ret
          exact ⟨rfl, H5.out.1⟩
        · obtain ⟨j1, j2, j3⟩ := cur_join (by omega) hrl.out.2.1 hk2
          have hE0 : E = 0 := HE.out.trans j1
          have HN : Hid ((∀ j, j < k + 1 → lnk l j = true) ∧ spR (curS l (k + 1)) = true ∧ WRl w g (curS l (k + 1)).1 (curS l (k + 1)).2 (wc.setRow g #[.string X, .string Y])) := by
            refine ⟨fun j hj => ?_, j3, ?_⟩
            · by_cases hjk : j < k
              · exact hrl.out.1 j hjk
              · rw [show j = k by omega]; exact hk2
            · rw [← j2, ← HX.out, ← HY.out]; exact H5.out.put X Y
          subst hE0
          clear hk2 j1 j2 j3 HX HY HE hrl
          go_wp2_with (first | (refine pbox_load h H6.out rfl _ rfl rfl ?_) | (refine pbox_store g H5.out.2.2 rfl _ _ rfl rfl rfl ?_))
          go_roundw
          case rel => exact ⟨k + 1, by omega, by omega, by go_num, HN⟩
          case measure => simp [intOf]; omega
    · obtain rfl : k = n := by omega
      have HQ : ∀ W : World, (Op.equalIn 10000 23 (Go.Value.agg #[Go.Value.string x, Go.Value.string y]) (Go.Value.agg #[Go.Value.string ({ data := #[] }), Go.Value.string ({ data := #[] })])).run Tryd.prog W = .ok R W := fun W => by
        rw [eq_span, HRR.out, cur_end (by rw [HL.out]; omega) (fun j hj => hrl.out.1 j (by rw [← HL.out]; exact hj)), HL.out, ← hx, ← hy]
        congr 1
        have hs : ∀ z : ByteArray, z = { data := #[] } ↔ z.size = 0 := fun z => ⟨fun h => by rw [h]; rfl, fun h => emp_of h⟩
        rw [Bool.eq_iff_iff, Bool.and_eq_true, decide_eq_true_eq, decide_eq_true_eq, decide_eq_true_eq, hs, hs]
      obtain ⟨x1, x2⟩ := H3.out.2.2.cell
      clear hx hy hrl
      go_wp2_with fail
      go_ret
      exact ⟨rfl, H3.out.1⟩

end Go.Proofs.YtpmellfgmlgknaaDoor
