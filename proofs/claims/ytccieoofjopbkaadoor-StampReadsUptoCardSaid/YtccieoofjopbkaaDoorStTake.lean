/-
  Contracts of stampOf, Take, and of the document's Take.
-/
import Derived.Test.YtccieoofjopbkaaDoorStTakePlain
import Derived.Test.YtccieoofjopbkaaDoorStWalks
namespace Go.Proofs.YtccieoofjopbkaaDoor
open Go.RowKit

theorem arr_load {ops : Array Oper} {rest : List Oper} {o : Oper} {a : Act} {w : World} {Q : Exit → Act → World → Prop} {x y z : Int} (g : Nat) (H : Arr w g x y z) (hgd : o.guard = none) (p : Operand) (ho : o.op = .load 48 p) (hx : a.eval p = .pointer (some ⟨g, 0, none⟩))
    (h : wpList Tryd.prog ops Q rest (a.put o.dst (Go.Value.agg #[Go.Value.int Go.IntKind.i64 x, Go.Value.int Go.IntKind.i64 y, Go.Value.int Go.IntKind.i64 z])) w) : wpList Tryd.prog ops Q (o :: rest) a w :=
  wpList_load_row hgd 48 p ho g hx 48 _ (0, 0) _ H Tryd.underlying48 rfl (by kernel_rfl) h

set_option maxRecDepth 100000 in
set_option maxHeartbeats 400000 in
theorem stampOf_any (x y z : Int) (w : World) : Calls Tryd.prog 31 #[(Go.Value.agg #[Go.Value.int Go.IntKind.i64 x, Go.Value.int Go.IntKind.i64 y, Go.Value.int Go.IntKind.i64 z])] w fun e w' => e = .returned (Go.Value.agg #[Go.Value.int Go.IntKind.i64 x, Go.Value.int Go.IntKind.i64 y, Go.Value.int Go.IntKind.i64 z]) ∧ Below w.heap.size w w' := by
  go_enter Tryd.func31, Tryd.ntmps31
  go_wp2_with fail
  exact bodyPost_ret (v := (Go.Value.agg #[Go.Value.int Go.IntKind.i64 x, Go.Value.int Go.IntKind.i64 y, Go.Value.int Go.IntKind.i64 z])) (by simp [results, Tryd.results31, go_sem]) rfl ⟨rfl, ((Below.refl _ _).alloc (Nat.le_refl _) _).alloc (by simp) _⟩

/-- What lies behind the loop's k rounds. -/
def TRel (W : World) (v : Nat → Int) (k : Nat) (wr : World) : Prop := Below W.heap.size W wr ∧ Box wr W.heap.size 0 0 0 ∧ Arr wr (W.heap.size + 1) (upto v k 0) (upto v k 1) (upto v k 2)
theorem TRel.zero (w : World) (v : Nat → Int) : TRel w v 0 ((w.alloc (.cells #[.int .i64 0, .int .i64 0, .int .i64 0] 23)).alloc (.cells #[.int .i64 0, .int .i64 0, .int .i64 0] 48)) := by
  refine ⟨((Below.refl _ _).alloc (Nat.le_refl _) _).alloc (by simp) _, (Box.new w 0 0 0).alloc _, ?_⟩
  have := Arr.new (w.alloc (.cells #[.int .i64 0, .int .i64 0, .int .i64 0] 23)) 0 0 0
  simpa [upto] using this
theorem TRel.next {W wr w2 : World} {v : Nat → Int} {k : Nat} (H : TRel W v k wr) (hb : Below wr.heap.size wr w2) : TRel W v k w2 :=
  ⟨H.1.trans (hb.mono H.1.size), H.2.1.over hb, H.2.2.over hb⟩
theorem TRel.set {W wr : World} {v : Nat → Int} {k : Nat} (H : TRel W v k wr) (hk : k < 3) : TRel W v (k + 1) (wr.setCell ⟨W.heap.size + 1, k, none⟩ (.int .i64 (v k))) :=
  ⟨H.1.setCell (by simp) _, (Below.heap_setCell wr _ _ W.heap.size (by show W.heap.size ≠ W.heap.size + 1; omega)).trans H.2.1, H.2.2.set hk⟩

set_option maxRecDepth 100000 in
set_option maxHeartbeats 400000 in
theorem Take_core (F : Nat → ByteArray) (v : Nat → Int) (ee : Nat → Int) (w : World) (K : Nat) (hK : K ≤ 3) (hz : ∀ j, j < K → ee j = 0) (he : K < 3 → ee K ≠ 0) (rb : Bool) (hrb : rightB (v 0) (v 1) (v 2) = rb)
    (hT : ∀ k W, Calls Tryd.prog 30 #[.string (F k)] W fun e w' => e = .returned (.tuple #[.int .i64 (v k), .string (F (k + 1)), .int .i64 (ee k)]) ∧ Below W.heap.size W w')
    (R : Value) (hR1 : K < 3 → R = .tuple #[(Go.Value.agg #[Go.Value.int Go.IntKind.i64 0, Go.Value.int Go.IntKind.i64 0, Go.Value.int Go.IntKind.i64 0]), .string { data := #[] }, .int .i64 (ee K)]) (hR2 : K = 3 → rb = true → R = .tuple #[(Go.Value.agg #[Go.Value.int Go.IntKind.i64 (v 0), Go.Value.int Go.IntKind.i64 (v 1), Go.Value.int Go.IntKind.i64 (v 2)]), .string (F 3), .int .i64 0]) (hR3 : K = 3 → rb = false → R = .tuple #[(Go.Value.agg #[Go.Value.int Go.IntKind.i64 0, Go.Value.int Go.IntKind.i64 0, Go.Value.int Go.IntKind.i64 0]), .string { data := #[] }, .int .i64 3]) :
    Calls Tryd.prog 19 #[.string (F 0)] w fun e w' => e = .returned R ∧ Below w.heap.size w w' := by
  have HT := Lib.hid hT
  have HZ := Lib.hid hz
  have HN := Lib.hid he
  have HR1 := Lib.hid hR1
  have HR2 := Lib.hid hR2
  have HR3 := Lib.hid hR3
  have HR : Hid (∀ W, Calls Tryd.prog 15 #[(Go.Value.agg #[Go.Value.int Go.IntKind.i64 (v 0), Go.Value.int Go.IntKind.i64 (v 1), Go.Value.int Go.IntKind.i64 (v 2)])] W fun e w' => e = .returned (.bool rb) ∧ Below W.heap.size W w') := fun W => by rw [← hrb]; exact Right_any _ _ _ W
  clear hT hz he hrb hR1 hR2 hR3
  go_enter Tryd.func19, Tryd.ntmps19
  go_wp2_with fail
  go_loopw [0, 6, 7, 8, 9, 11] (fun s _ _ _ _ i wr => ∃ k : Nat, k ≤ 3 ∧ k ≤ K ∧ i = .int .i64 k ∧ s = .string (F k) ∧ Hid (TRel w v k wr)) (fun _ _ _ _ _ i _ => 3 - (intOf i).toNat)
  case atStart => exact ⟨0, by omega, by omega, rfl, rfl, TRel.zero w v⟩
  case round =>
    obtain ⟨k, hk, hkK, rfl, rfl, hrel⟩ := hrel
    by_cases hlt : k < 3
    · go_wp2_with fail
      refine (HT.out k _).mono ?_
      rintro e w1 ⟨rfl, hb1⟩
      have H1 : Hid (TRel w v k w1) := hrel.out.next hb1
      clear hb1 hrel
      by_cases hkk : k < K
      · have h0 : ee k = 0 := HZ.out k hkk
        rw [h0]
        have hcl := H1.out.2.2.cell k hlt
        have hfz := H1.out.2.2.frozen k
        have H2 : Hid (TRel w v (k + 1) (w1.setCell ⟨w.heap.size + 1, k, none⟩ (.int .i64 (v k)))) := H1.out.set hlt
        clear h0
        go_wp2_with fail
        go_roundw
        case rel => exact ⟨k + 1, by omega, by omega, by go_num, rfl, H2⟩
        case measure => simp [intOf]; omega
      · have hke : k = K := by omega
        subst hke
        have hne : (ee k == 0) = false := beq_eq_false_iff_ne.2 (HN.out hlt)
        generalize ee k = er at *
        go_wp2_with (refine box_store w.heap.size H1.out.2.1 rfl _ _ rfl rfl rfl ?_)
        exact bodyPost_ret (box_result3 rfl _ _ w.heap.size rfl (H1.out.2.1.set 0 0 0)) rfl ⟨by rw [HR1.out hlt]; rfl, below_setRow H1.out.1 (Nat.le_refl _) _⟩
    · have hk3 : k = 3 := by omega
      subst hk3
      have hK3 : K = 3 := by omega
      subst hK3
      have hv0 : upto v 3 0 = v 0 := rfl
      have hv1 : upto v 3 1 = v 1 := rfl
      have hv2 : upto v 3 2 = v 2 := rfl
      have hrel2 := hrel.out
      unfold TRel at hrel2
      rw [hv0, hv1, hv2] at hrel2
      clear hv0 hv1 hv2 hrel
      have HRL := Lib.hid hrel2
      clear hrel2 HN HZ HT HR1
      have HR2' := Lib.hid (HR2.out rfl)
      have HR3' := Lib.hid (HR3.out rfl)
      clear HR2 HR3
      generalize v 0 = x at *
      generalize v 1 = y at *
      generalize v 2 = z at *
      generalize F 3 = rest at *
      go_wp2_with (refine arr_load (w.heap.size + 1) HRL.out.2.2 rfl _ rfl rfl ?_)
      refine (stampOf_any x y z _).mono ?_
      rintro e w1 ⟨rfl, hb1⟩
      have hbx : Box w1 w.heap.size 0 0 0 := HRL.out.2.1.over hb1
      have hbb := HRL.out.1.trans (hb1.mono HRL.out.1.size)
      have HBX := Lib.hid hbx
      clear hbx hb1 HRL
      go_wp2_with fail
      refine (HR.out _).mono ?_
      rintro e w2 ⟨rfl, hb2⟩
      obtain ⟨hby, hb3⟩ := W1_next hb2
      have hb := hbb.trans (hb3.mono hbb.size)
      have HB2 := Lib.hid (HBX.out.over hb3)
      have HBY := Lib.hid hby
      clear hb2 hb3 hby hbb HBX
      cases rb
      · go_wp2_with (refine box_store w.heap.size HB2.out rfl _ _ rfl rfl rfl ?_)
        exact bodyPost_ret (box_result3 rfl _ _ w.heap.size rfl (HB2.out.set 0 0 0)) rfl ⟨by rw [HR3'.out (by first | rfl | trivial)]; rfl, below_setRow hb (Nat.le_refl _) _⟩
      · go_wp2_with (first | (refine box_load w1.heap.size HBY.out rfl _ rfl rfl ?_) | (refine box_store w.heap.size HB2.out rfl _ _ rfl rfl rfl ?_))
        exact bodyPost_ret (box_result3 rfl _ _ w.heap.size rfl (HB2.out.set x y z)) rfl ⟨by rw [HR2'.out (by first | rfl | trivial)]; rfl, below_setRow hb (Nat.le_refl _) _⟩

/-- The answer as a value. -/
def stkV (s : ByteArray) : Value := .tuple #[(Go.Value.agg #[Go.Value.int Go.IntKind.i64 ((stk s).1.1), Go.Value.int Go.IntKind.i64 ((stk s).1.2.1), Go.Value.int Go.IntKind.i64 ((stk s).1.2.2)]), .string (stk s).2.1, .int .i64 (stk s).2.2]

/-- Where the first error stands, or 3. -/
theorem first_err (s : ByteArray) : ∃ K, K ≤ 3 ∧ (∀ j, j < K → eK s j = 0) ∧ (K < 3 → eK s K ≠ 0) := by
  by_cases h0 : eK s 0 = 0
  · by_cases h1 : eK s 1 = 0
    · by_cases h2 : eK s 2 = 0
      · refine ⟨3, Nat.le_refl _, fun j hj => ?_, fun h => absurd h (by omega)⟩
        have : j = 0 ∨ j = 1 ∨ j = 2 := by omega
        rcases this with rfl | rfl | rfl <;> assumption
      · refine ⟨2, by omega, fun j hj => ?_, fun _ => h2⟩
        have : j = 0 ∨ j = 1 := by omega
        rcases this with rfl | rfl <;> assumption
    · refine ⟨1, by omega, fun j hj => ?_, fun _ => h1⟩
      have : j = 0 := by omega
      subst this; assumption
  · exact ⟨0, by omega, fun j hj => absurd hj (by omega), fun _ => h0⟩

theorem stTake_any (s : ByteArray) (w : World) (hs : s.size ≤ 9223372036854775807) : Calls Tryd.prog 19 #[.string s] w fun e w' => e = .returned (stkV s) ∧ Below w.heap.size w w' := by
  obtain ⟨K, hK, hz, he⟩ := first_err s
  refine Take_core (sK s) (vK s) (eK s) w K hK hz he _ rfl (fun k W => pkTake_at s hs k W) (stkV s) (fun h => ?_) (fun h hr => ?_) (fun h hr => ?_)
  · unfold stkV; rw [stk_err s K h hz (he h)]
  · subst h; unfold stkV; rw [stk_good s hz hr]
  · subst h; unfold stkV; rw [stk_bad s hz hr]

end Go.Proofs.YtccieoofjopbkaaDoor
