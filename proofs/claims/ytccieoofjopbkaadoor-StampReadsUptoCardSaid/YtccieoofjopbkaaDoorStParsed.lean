/-
  The contract of parsed: a text parted at full stops into three, each read as a number.
-/
import Derived.Test.YtccieoofjopbkaaDoorStTake
import Derived.Test.YtccieoofjopbkaaDoorStTab
import Derived.Test.YtccieoofjopbkaaDoorShelf
set_option linter.unusedVariables false
namespace Go.Proofs.YtccieoofjopbkaaDoor
open Go.RowKit

def dotS : ByteArray := { data := #[46] }
/-- The pieces that SplitN makes. -/
def pieces (s : ByteArray) : List ByteArray := Lib.splitB dotS 0 (min 3 (s.size + 1) - 1) s

theorem Atoi_ok (p : ByteArray) (v : Int) (w : World) (hs : p.size ≤ 281474976710656) (h : Lib.atoiAll p.data.toList = .ok v) : Calls Tryd.prog 45 #[.string p] w fun e w' => e = .returned (.tuple #[.int .i64 v, .nilIface]) ∧ Below w.heap.size w w' := by
  refine (Tryd.strconv_Atoi_ok p (by omega) v h w).mono ?_
  rintro e w1 ⟨rfl, rfl | ⟨t, rfl⟩⟩
  · exact ⟨rfl, Below.refl _ _⟩
  · exact ⟨rfl, Lib.bytesWorld_below _ _ _⟩
theorem Atoi_bad (p : ByteArray) (w : World) (hT : StTab w) (hs : p.size ≤ 281474976710656) (h : ∀ v, Lib.atoiAll p.data.toList ≠ .ok v) : Calls Tryd.prog 45 #[.string p] w fun e w' => ∃ x tt a, e = .returned (.tuple #[.int .i64 x, .iface tt (.pointer a)]) ∧ Below w.heap.size w w' := by
  obtain ⟨_, ⟨t2, p2, h2⟩, ⟨t3, p3, h3⟩, _⟩ := hT
  cases hr : Lib.atoiAll p.data.toList
  · exact absurd hr (h _)
  · have hc : Calls Tryd.prog 45 #[.string p] w fun e w' => ∃ N, e = .returned (.tuple #[.int .i64 0, .iface 83 (.pointer (some ⟨N, 0, none⟩))]) ∧ w.heap.size ≤ N ∧ w'.heap[N]? = some (.cells #[.string ⟨#[65, 116, 111, 105]⟩, .string p, .iface t2 p2] 100 (0, 0)) ∧ Below w.heap.size w w' :=
      Any.strconv_Atoi_syntax_var Tryd.laysC172 p hs hr t2 p2 w h2
    refine hc.mono ?_
    rintro e w1 ⟨N, rfl, _, _, hb⟩
    exact ⟨_, _, _, rfl, hb⟩
  · refine (Tryd.strconv_Atoi_range_var p hs hr t3 p3 w h3).mono ?_
    rintro e w1 ⟨N, rfl, _, _, hb⟩
    exact ⟨_, _, _, rfl, hb⟩

theorem Split_any (s : ByteArray) (w : World) (hT : StTab w) (hs : s.size < 4294967281) : Calls Tryd.prog 44 #[.string s, .string { data := #[46] }, .int .i64 3] w fun e w' => e = .returned (.slice (some ⟨w.heap.size, 0, none⟩) (pieces s).length (min 3 (s.size + 1))) ∧ w' = w.alloc (.cells (Lib.cellsOf (pieces s) (min 3 (s.size + 1))) 9) := by
  obtain ⟨_, _, _, m, hm⟩ := hT
  exact Tryd.strings_SplitN s dotS 3 m w hs hm (by decide) (by omega) (by omega)

theorem pieces_le (s : ByteArray) : (pieces s).length ≤ 3 := by
  have := Lib.splitB_length_le dotS 0 (min 3 (s.size + 1) - 1) s
  unfold pieces; omega

set_option maxRecDepth 100000 in
set_option maxHeartbeats 400000 in
theorem parsed_short (s : ByteArray) (w : World) (hT : StTab w) (hs : s.size < 4294967281) (h : (pieces s).length < 3) : Calls Tryd.prog 35 #[.string s] w fun e w' => e = .returned (.tuple #[(Go.Value.agg #[Go.Value.int Go.IntKind.i64 0, Go.Value.int Go.IntKind.i64 0, Go.Value.int Go.IntKind.i64 0]), .bool false]) ∧ Below w.heap.size w w' := by
  have HS : Hid (∀ W, StTab W → Calls Tryd.prog 44 #[.string s, .string { data := #[46] }, .int .i64 3] W fun e w' => e = .returned (.slice (some ⟨W.heap.size, 0, none⟩) (pieces s).length (min 3 (s.size + 1))) ∧ w' = W.alloc (.cells (Lib.cellsOf (pieces s) (min 3 (s.size + 1))) 9)) := fun W hW => Split_any s W hW hs
  have HT := Lib.hid hT
  generalize Lib.cellsOf (pieces s) (min 3 (s.size + 1)) = cs at *
  generalize min 3 (s.size + 1) = N at *
  generalize (pieces s).length = L at *
  clear hT hs
  go_enter Tryd.func35, Tryd.ntmps35
  go_wp2_with fail
  refine (HS.out _ (HT.out.alloc _)).mono ?_
  rintro e w1 ⟨rfl, rfl⟩
  have hb : Below w.heap.size w ((w.alloc (.cells #[.int .i64 0, .int .i64 0, .int .i64 0] 23)).alloc (.cells cs 9)) := ((Below.refl _ _).alloc (Nat.le_refl _) _).alloc (by simp) _
  have HX : Hid (Box ((w.alloc (.cells #[.int .i64 0, .int .i64 0, .int .i64 0] 23)).alloc (.cells cs 9)) w.heap.size 0 0 0) := (Box.new w 0 0 0).alloc _
  go_wp2_with (refine box_store w.heap.size HX.out rfl _ _ rfl rfl rfl ?_)
  exact bodyPost_ret (box_result2 rfl _ _ w.heap.size rfl (HX.out.set 0 0 0)) rfl ⟨rfl, below_setRow hb (Nat.le_refl _) _⟩

theorem block_new (w : World) (o : Obj) : (w.alloc o).heap[w.heap.size]? = some o := by
  show (w.heap.push o)[w.heap.size]? = _
  simp
theorem block_over {w : World} {h : Nat} {o o' : Obj} (H : w.heap[h]? = some o') : (w.alloc o).heap[h]? = some o' := by
  have hlt : h < w.heap.size := by
    rcases Nat.lt_or_ge h w.heap.size with h1 | h1
    · exact h1
    · rw [Array.getElem?_eq_none h1] at H; cases H
  exact (((Below.refl w.heap.size w).alloc (Nat.le_refl _) o).block h hlt).trans H
theorem cell_of_block {w : World} {h : Nat} {cs : Array Value} {t : TypeId} {fr : Nat × Nat} (H : w.heap[h]? = some (.cells cs t fr)) (i : Nat) : w.cell? ⟨h, i, none⟩ = cs[i]? := by
  simp [World.cell?, H]

/-- What lies behind k rounds. -/
def QRel (W : World) (P : Nat → ByteArray) (v : Nat → Int) (k : Nat) (wr : World) : Prop :=
  Below W.heap.size W wr ∧ Box wr W.heap.size 0 0 0 ∧ Arr wr (W.heap.size + 1 + 1) (upto v k 0) (upto v k 1) (upto v k 2) ∧ (∀ i, i < 3 → wr.cell? ⟨W.heap.size + 1, i, none⟩ = some (.string (P i))) ∧ StTab wr
theorem QRel.zero (w : World) (P : Nat → ByteArray) (v : Nat → Int) (hT : StTab w) : QRel w P v 0 (((w.alloc (.cells #[.int .i64 0, .int .i64 0, .int .i64 0] 23)).alloc (.cells #[.string (P 0), .string (P 1), .string (P 2)] 9)).alloc (.cells #[.int .i64 0, .int .i64 0, .int .i64 0] 48)) := by
  refine ⟨(((Below.refl w.heap.size w).alloc (Nat.le_refl _) _).alloc (by simp) _).alloc (by simp; omega) _, ((Box.new w 0 0 0).alloc _).alloc _, ?_, ?_, ((hT.alloc _).alloc _).alloc _⟩
  · have := Arr.new ((w.alloc (.cells #[.int .i64 0, .int .i64 0, .int .i64 0] 23)).alloc (.cells #[.string (P 0), .string (P 1), .string (P 2)] 9)) 0 0 0
    simpa [upto] using this
  · intro i hi
    have : i = 0 ∨ i = 1 ∨ i = 2 := by omega
    have h2 : (w.alloc (.cells #[.int .i64 0, .int .i64 0, .int .i64 0] 23)).heap.size = w.heap.size + 1 := by simp
    have hblk := block_new (w.alloc (.cells #[.int .i64 0, .int .i64 0, .int .i64 0] 23)) (.cells #[.string (P 0), .string (P 1), .string (P 2)] 9)
    rw [h2] at hblk
    have hblk2 := block_over (o := .cells #[.int .i64 0, .int .i64 0, .int .i64 0] 48) hblk
    rw [cell_of_block hblk2 i]
    rcases this with rfl | rfl | rfl <;> rfl
theorem QRel.next {W wr w2 : World} {P : Nat → ByteArray} {v : Nat → Int} {k : Nat} (H : QRel W P v k wr) (hb : Below wr.heap.size wr w2) : QRel W P v k w2 := by
  obtain ⟨h1, h2, h3, h4, h5⟩ := H
  have hlt : W.heap.size + 1 < wr.heap.size := by have := h3.lt; omega
  exact ⟨h1.trans (hb.mono h1.size), h2.over hb, h3.over hb, fun i hi => (hb.cell (p := ⟨W.heap.size + 1, i, none⟩) hlt).trans (h4 i hi), h5.next hb⟩
theorem QRel.set {W wr : World} {P : Nat → ByteArray} {v : Nat → Int} {k : Nat} (H : QRel W P v k wr) (h0 : StTab W) (hk : k < 3) : QRel W P v (k + 1) (wr.setCell ⟨W.heap.size + 1 + 1, k, none⟩ (.int .i64 (v k))) := by
  obtain ⟨h1, h2, h3, h4, h5⟩ := H
  have hb := h1.setCell (p := ⟨W.heap.size + 1 + 1, k, none⟩) (by show W.heap.size ≤ W.heap.size + 1 + 1; omega) (.int .i64 (v k))
  refine ⟨hb, (Below.heap_setCell wr _ _ W.heap.size (by show W.heap.size ≠ W.heap.size + 1 + 1; omega)).trans h2, h3.set hk, fun i hi => ?_, h0.next hb⟩
  rw [World.cell?_setCell_other _ _ _ _ (by intro e; injection e with e1 _ _; omega)]
  exact h4 i hi


set_option maxRecDepth 100000 in
set_option maxHeartbeats 1000000 in
theorem parsed_three (s : ByteArray) (P : Nat → ByteArray) (v : Nat → Int) (K : Nat) (hK : K ≤ 3) (w : World) (hT : StTab w) (hs : s.size < 4294967281) (hp : pieces s = [P 0, P 1, P 2]) (hz : ∀ k, (P k).size ≤ 281474976710656)
    (hok : ∀ k, k < K → Lib.atoiAll (P k).data.toList = .ok (v k)) (hbad : K < 3 → ∀ x, Lib.atoiAll (P K).data.toList ≠ .ok x)
    (R : Value) (hR1 : K < 3 → R = .tuple #[(Go.Value.agg #[Go.Value.int Go.IntKind.i64 0, Go.Value.int Go.IntKind.i64 0, Go.Value.int Go.IntKind.i64 0]), .bool false]) (hR2 : K = 3 → R = .tuple #[(Go.Value.agg #[Go.Value.int Go.IntKind.i64 (v 0), Go.Value.int Go.IntKind.i64 (v 1), Go.Value.int Go.IntKind.i64 (v 2)]), .bool true]) :
    Calls Tryd.prog 35 #[.string s] w fun e w' => e = .returned R ∧ Below w.heap.size w w' := by
  have hN : min 3 (s.size + 1) = 3 := by
    have h1 := Lib.splitB_length_le dotS 0 (min 3 (s.size + 1) - 1) s
    have h2 : (pieces s).length = 3 := by rw [hp]; rfl
    unfold pieces at h2
    omega
  have HS : Hid (∀ W, StTab W → Calls Tryd.prog 44 #[.string s, .string { data := #[46] }, .int .i64 3] W fun e w' => e = .returned (.slice (some ⟨W.heap.size, 0, none⟩) 3 3) ∧ w' = W.alloc (.cells #[.string (P 0), .string (P 1), .string (P 2)] 9)) := fun W hW => by
    have := Split_any s W hW hs
    rw [hN, hp] at this
    exact this
  have HA : Hid (∀ k W, k < K → Calls Tryd.prog 45 #[.string (P k)] W fun e w' => e = .returned (.tuple #[.int .i64 (v k), .nilIface]) ∧ Below W.heap.size W w') := fun k W hk => Atoi_ok (P k) (v k) W (hz k) (hok k hk)
  have HB : Hid (∀ W, K < 3 → StTab W → Calls Tryd.prog 45 #[.string (P K)] W fun e w' => ∃ x tt a, e = .returned (.tuple #[.int .i64 x, .iface tt (.pointer a)]) ∧ Below W.heap.size W w') := fun W hk hW => Atoi_bad (P K) W hW (hz K) (hbad hk)
  have HT := Lib.hid hT
  have HR1 := Lib.hid hR1
  have HR2 := Lib.hid hR2
  have HQ0 := Lib.hid (QRel.zero w P v hT)
  clear hT hs hp hz hok hbad hR1 hR2 hN
  go_enter Tryd.func35, Tryd.ntmps35
  go_wp2_with fail
  refine (HS.out _ (HT.out.alloc _)).mono ?_
  rintro e w1 ⟨rfl, rfl⟩
  go_wp2_with fail
  go_loopw [6, 7, 8, 9, 18] (fun _ _ _ _ i wr => ∃ k : Nat, k ≤ 3 ∧ k ≤ K ∧ i = .int .i64 k ∧ Hid (QRel w P v k wr)) (fun _ _ _ _ i _ => 3 - (intOf i).toNat)
  case atStart => exact ⟨0, by omega, by omega, rfl, HQ0.out⟩
  case round =>
    obtain ⟨k, hk, hkK, rfl, hrel⟩ := hrel
    by_cases hlt : k < 3
    · have hcl := hrel.out.2.2.2.1 k hlt
      by_cases hkk : k < K
      · go_wp2_with fail
        refine (HA.out k _ hkk).mono ?_
        rintro e w2 ⟨rfl, hb2⟩
        have H1 := Lib.hid (hrel.out.next hb2)
        clear hb2 hrel hcl
        have hcl := H1.out.2.2.1.cell k hlt
        have hfz := H1.out.2.2.1.frozen k
        have H2 : Hid (QRel w P v (k + 1) (w2.setCell ⟨w.heap.size + 1 + 1, k, none⟩ (.int .i64 (v k)))) := H1.out.set HT.out hlt
        go_wp2_with fail
        go_roundw
        case rel => exact ⟨k + 1, by omega, by omega, by go_num, H2⟩
        case measure => (simp [intOf]; try omega)
      · have hke : k = K := by omega
        subst hke
        go_wp2_with fail
        refine (HB.out _ hlt hrel.out.2.2.2.2).mono ?_
        rintro e w2 ⟨x, tt, a, rfl, hb2⟩
        have H1 := Lib.hid (hrel.out.next hb2)
        clear hb2 hrel hcl
        go_wp2_with (refine box_store w.heap.size H1.out.2.1 rfl _ _ rfl rfl rfl ?_)
        exact bodyPost_ret (box_result2 rfl _ _ w.heap.size rfl (H1.out.2.1.set 0 0 0)) rfl ⟨by rw [HR1.out hlt]; rfl, below_setRow H1.out.1 (Nat.le_refl _) _⟩
    · have hk3 : k = 3 := by omega
      subst hk3
      have hK3 : K = 3 := by omega
      subst hK3
      have hv0 : upto v 3 0 = v 0 := rfl
      have hv1 : upto v 3 1 = v 1 := rfl
      have hv2 : upto v 3 2 = v 2 := rfl
      have hrel2 := hrel.out
      unfold QRel at hrel2
      rw [hv0, hv1, hv2] at hrel2
      clear hv0 hv1 hv2 hrel
      have HRL := Lib.hid hrel2
      have HRR := Lib.hid (HR2.out rfl)
      clear hrel2 HA HB HR1 HR2
      generalize v 0 = x at *
      generalize v 1 = y at *
      generalize v 2 = z at *
      go_wp2_with (refine arr_load (w.heap.size + 1 + 1) HRL.out.2.2.1 rfl _ rfl rfl ?_)
      refine (stampOf_any x y z _).mono ?_
      rintro e w2 ⟨rfl, hb2⟩
      have HX : Hid (Box w2 w.heap.size 0 0 0) := HRL.out.2.1.over hb2
      have hbb := HRL.out.1.trans (hb2.mono HRL.out.1.size)
      clear hb2
      go_wp2_with (refine box_store w.heap.size HX.out rfl _ _ rfl rfl rfl ?_)
      exact bodyPost_ret (box_result2 rfl _ _ w.heap.size rfl (HX.out.set x y z)) rfl ⟨by rw [HRR.out]; rfl, below_setRow hbb (Nat.le_refl _) _⟩

end Go.Proofs.YtccieoofjopbkaaDoor
