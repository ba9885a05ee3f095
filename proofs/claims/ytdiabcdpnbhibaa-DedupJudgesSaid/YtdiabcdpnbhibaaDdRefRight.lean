/-
  The contracts of the document's number, Plain, Right, Small of tables.
-/
import Derived.Test.YtdiabcdpnbhibaaDdBox
import Derived.Test.YtdiabcdpnbhibaaSmRefRight
import Derived.Test.YtdiabcdpnbhibaaSmCalm
import Derived.Deep.DeepCutAuto
set_option linter.unusedVariables false
namespace Go.Proofs.Ytdiabcdpnbhibaa
open Go.RowKit

set_option maxRecDepth 100000 in
set_option maxHeartbeats 400000 in
theorem refNum_any (n : Int) (w : World) : Calls Try.prog 21 #[.int .i64 n] w fun e w' => e = .returned (.bool (numB n)) ∧ w' = w := by
  have HN : Hid (numB n = (decide (0 < n) && decide (n ≤ 1099511627776))) := rfl
  cases h1 : decide (0 < n) <;> cases h2 : decide (n ≤ 1099511627776)
  all_goals
    rw [h1, h2] at HN
    go_enter Try.func21, Try.ntmps21
    go_wp2_with fail
    go_ret
    exact ⟨by rw [HN.out]; rfl, rfl⟩

theorem plain_no {c r e x y z : Int} {f : Bool} {v : ByteArray} {n : Nat} {nx : ByteArray} {m : Bool} (h : e < 0 ∨ 16 < e ∨ 16 < v.size ∨ 0 < n ∨ 0 < nx.size ∨ m = true) : plainA (c, r, e, (x, y, z), f, v, n, nx, m) = false := by
  cases hb : plainA (c, r, e, (x, y, z), f, v, n, nx, m)
  · rfl
  · unfold plainA at hb
    simp only [Bool.and_eq_true, Bool.not_eq_true'] at hb
    obtain ⟨⟨h1, h2, h3, h4, h5, h6⟩, _⟩ := hb
    rcases h with h | h | h | h | h | h
    · have h9 : 0 ≤ e := of_decide_eq_true h1
      omega
    · have h9 : e ≤ 16 := of_decide_eq_true h2
      omega
    · have h9 : v.size ≤ 16 := of_decide_eq_true h3
      omega
    · have h9 : n = 0 := of_decide_eq_true h4
      omega
    · have h9 : nx.size = 0 := of_decide_eq_true h5
      omega
    · have h9 : m = false := h6
      rw [h9] at h; cases h
theorem plain_yes {c r e x y z : Int} {f : Bool} {v : ByteArray} {n : Nat} {nx : ByteArray} {m : Bool} (h1 : ¬ e < 0) (h2 : ¬ 16 < e) (h3 : ¬ 16 < v.size) (h4 : ¬ 0 < n) (h5 : ¬ 0 < nx.size) (h6 : m = false) : plainA (c, r, e, (x, y, z), f, v, n, nx, m) = rightB x y z := by
  show ((decide (0 ≤ e) && (decide (e ≤ 16) && (decide (v.size ≤ 16) && (decide (n = 0) && (decide (nx.size = 0) && !m))))) && rightB x y z) = _
  rw [decide_eq_true (by omega : 0 ≤ e), decide_eq_true (by omega : e ≤ 16), decide_eq_true (by omega : v.size ≤ 16), decide_eq_true (by omega : n = 0), decide_eq_true (by omega : nx.size = 0), h6]
  rfl

set_option maxRecDepth 100000 in
set_option maxHeartbeats 2000000 in
theorem refAns_any (c r e x y z : Int) (f : Bool) (v : ByteArray) (ao : Option Addr) (n cap : Nat) (nx : ByteArray) (m : Bool) (w : World) :
    Calls Try.prog 22 #[(Go.Value.agg #[Go.Value.int Go.IntKind.i64 e, Go.Value.int Go.IntKind.i64 x, Go.Value.int Go.IntKind.i64 y, Go.Value.int Go.IntKind.i64 z, Go.Value.bool f, Go.Value.string v, Go.Value.slice ao n cap, Go.Value.string nx, Go.Value.bool m])] w fun e' w' => e' = .returned (.bool (plainA (c, r, e, (x, y, z), f, v, n, nx, m))) ∧ Below w.heap.size w w' := by
  have HB0 : Hid (Below w.heap.size w (w.alloc (.cells #[Go.Value.int Go.IntKind.i64 e, Go.Value.int Go.IntKind.i64 x, Go.Value.int Go.IntKind.i64 y, Go.Value.int Go.IntKind.i64 z, Go.Value.bool f, Go.Value.string v, Go.Value.slice ao n cap, Go.Value.string nx, Go.Value.bool m] 31))) := (Below.refl _ _).alloc (Nat.le_refl _) _
  have HR : Hid (∀ W, Calls Try.prog 31 #[(Go.Value.agg #[Go.Value.int Go.IntKind.i64 x, Go.Value.int Go.IntKind.i64 y, Go.Value.int Go.IntKind.i64 z])] W fun e w' => e = .returned (.bool (rightB x y z)) ∧ Below W.heap.size W w') := fun W => refRight_any x y z W
  by_cases h : e < 0
  · have HX : Hid (plainA (c, r, e, (x, y, z), f, v, n, nx, m) = false) := plain_no (Or.inl h)
    have d0 : decide (e < 0) = true := decide_eq_true (by omega)
    clear h
    go_enter Try.func22, Try.ntmps22
    go_wp2_with fail
    go_ret
    exact ⟨by rw [HX.out]; rfl, HB0.out⟩
  have d0 : decide (e < 0) = false := decide_eq_false (by omega)
  have H0 := Lib.hid h
  clear h
  by_cases h : 16 < e
  · have HX : Hid (plainA (c, r, e, (x, y, z), f, v, n, nx, m) = false) := plain_no (Or.inr (Or.inl h))
    have d1 : decide (16 < e) = true := decide_eq_true (by omega)
    clear h
    go_enter Try.func22, Try.ntmps22
    go_wp2_with fail
    go_ret
    exact ⟨by rw [HX.out]; rfl, HB0.out⟩
  have d1 : decide (16 < e) = false := decide_eq_false (by omega)
  have H1 := Lib.hid h
  clear h
  by_cases h : 16 < v.size
  · have HX : Hid (plainA (c, r, e, (x, y, z), f, v, n, nx, m) = false) := plain_no (Or.inr (Or.inr (Or.inl h)))
    have d2 : decide (16 < (v.size : Int)) = true := decide_eq_true (by omega)
    clear h
    go_enter Try.func22, Try.ntmps22
    go_wp2_with fail
    go_ret
    exact ⟨by rw [HX.out]; rfl, HB0.out⟩
  have d2 : decide (16 < (v.size : Int)) = false := decide_eq_false (by omega)
  have H2 := Lib.hid h
  clear h
  rcases Nat.eq_zero_or_pos n with rfl | h
  rotate_left
  · have HX : Hid (plainA (c, r, e, (x, y, z), f, v, n, nx, m) = false) := plain_no (Or.inr (Or.inr (Or.inr (Or.inl h))))
    have d3 : decide (0 < (n : Int)) = true := decide_eq_true (by omega)
    have h2 : ¬ n = 0 := by omega
    go_enter Try.func22, Try.ntmps22
    go_wp2_with fail
    go_ret
    exact ⟨by rw [HX.out]; rfl, HB0.out⟩
  by_cases h : 0 < nx.size
  · have HX : Hid (plainA (c, r, e, (x, y, z), f, v, 0, nx, m) = false) := plain_no (Or.inr (Or.inr (Or.inr (Or.inr (Or.inl h)))))
    have d4 : decide (0 < (nx.size : Int)) = true := decide_eq_true (by omega)
    have h2 : ¬ nx.size = 0 := by omega
    have h3 : ¬ nx = ByteArray.empty := fun e => by rw [e] at h; exact absurd h (by decide)
    go_enter Try.func22, Try.ntmps22
    go_wp2_with fail
    go_ret
    exact ⟨by rw [HX.out]; rfl, HB0.out⟩
  obtain rfl : nx = ByteArray.empty := by
    have h6 : nx.data.toList.length = ([] : List UInt8).length := by rw [bytes_len]; show nx.size = 0; omega
    exact bytes_inj (List.length_eq_zero_iff.1 h6)
  clear h
  cases m
  · have HX : Hid (plainA (c, r, e, (x, y, z), f, v, 0, ByteArray.empty, false) = rightB x y z) := plain_yes H0.out H1.out H2.out (by omega) (by decide) rfl
    obtain ⟨R, hR⟩ : ∃ R, R = rightB x y z := ⟨_, rfl⟩
    rw [← hR] at HX HR
    clear hR
    go_enter Try.func22, Try.ntmps22
    go_wp2_with fail
    refine (HR.out _).mono ?_
    rintro e w1 ⟨rfl, hb1⟩
    go_wp2_with fail
    go_ret
    exact ⟨by rw [HX.out]; rfl, HB0.out.trans (hb1.mono HB0.out.size)⟩
  · have HX : Hid (plainA (c, r, e, (x, y, z), f, v, 0, ByteArray.empty, true) = false) := plain_no (.inr (.inr (.inr (.inr (.inr rfl)))))
    go_enter Try.func22, Try.ntmps22
    go_wp2_with fail
    go_ret
    exact ⟨by rw [HX.out]; rfl, HB0.out⟩

/-! ### Right -/
/-- Two clients of a row, nothing old touched. -/
def DK2 (w : World) (b o1 : Nat) (c1 : Int) (o2 : Nat) (c2 : Int) (W : World) : Prop := b < w.heap.size ∧ Below w.heap.size w W ∧ W.cell? ⟨b, o1, none⟩ = some (.int .i64 c1) ∧ W.cell? ⟨b, o2, none⟩ = some (.int .i64 c2)
theorem DK2.next {w W W' : World} {b o1 o2 : Nat} {c1 c2 : Int} (H : DK2 w b o1 c1 o2 c2 W) (hb : Below W.heap.size W W') : DK2 w b o1 c1 o2 c2 W' := by
  obtain ⟨h0, h1, h2, h3⟩ := H
  have := h1.size
  exact ⟨h0, h1.trans (hb.mono h1.size), (hb.cell (p := ⟨b, o1, none⟩) (by show b < _; omega)).trans h2, (hb.cell (p := ⟨b, o2, none⟩) (by show b < _; omega)).trans h3⟩

set_option maxRecDepth 100000 in
set_option maxHeartbeats 4000000 in
theorem refTRight_any {w : World} {v : Value} {l : List Dn} (h : Tab w v l) : Calls Try.prog 10 #[v] w fun e w' => e = .returned (.bool (rightT l)) ∧ Below w.heap.size w w' := by
  obtain ⟨ao, n, cap, es, rfl, hl, hle, hmx, hn, hrow, hmap⟩ := h.opened
  have HL := Lib.hid hl
  have HR := Lib.hid hrow
  have HE := Lib.hid hmap
  clear hl hrow hmap hle hmx h
  by_cases h8 : 8 < n
  · have HX : Hid (rightT l = false) := rightT_long (by rw [HL.out]; omega)
    go_enter Try.func10, Try.ntmps10
    go_wp2_with fail
    go_ret
    exact ⟨by rw [HX.out]; rfl, Below.refl _ _⟩
  go_enter Try.func10, Try.ntmps10
  go_wp2_with fail
  go_loopw [3] (fun i wr => ∃ k : Nat, k ≤ n ∧ i = .int .i64 k ∧ Hid (∀ j, j < k → rowAt l j = true) ∧ Hid (Below w.heap.size w wr)) (fun i _ => n - (intOf i).toNat)
  case atStart => exact ⟨0, Nat.zero_le _, rfl, fun j hj => absurd hj (Nat.not_lt_zero _), Below.refl _ _⟩
  case round =>
    obtain ⟨k, hk, rfl, hok, hbel⟩ := hrel
    by_cases hlt : k < n
    · obtain ⟨b, off, rfl, hb, hcl⟩ := HR.out (by omega)
      obtain ⟨d, hd⟩ : ∃ d, d = det es k := ⟨_, rfl⟩
      have hdk : d.1 = dat l k := by rw [hd]; exact det_map HE.out k
      have HK : Hid (DnAt wr b (off + k * 11) d) := by rw [hd]; exact (hcl k hlt).next hbel.out hb
      have HKB : Hid (∀ W, Below w.heap.size w W → W.cell? ⟨b, off + k * 11, none⟩ = some (.int .i64 d.1.1)) := fun W hW => by rw [hd]; exact ((hcl k hlt).next hW hb).1
      obtain ⟨⟨c, r, e, ⟨x, y, z⟩, f, v, ni, nx, m⟩, ai, ci⟩ := d
      have hdk' : dat l k = (c, r, e, (x, y, z), f, v, ni, nx, m) := hdk.symm
      obtain ⟨g1, hg1⟩ : ∃ g, g = numB c := ⟨_, rfl⟩
      obtain ⟨g2, hg2⟩ : ∃ g, g = numB r := ⟨_, rfl⟩
      obtain ⟨g3, hg3⟩ : ∃ g, g = plainA (c, r, e, (x, y, z), f, v, ni, nx, m) := ⟨_, rfl⟩
      obtain ⟨g4, hg4⟩ : ∃ g, g = (decide (k = 0) || decide (dC (dat l (k - 1)) < c)) := ⟨_, rfl⟩
      have H1 : Hid (∀ W, Calls Try.prog 21 #[.int .i64 c] W fun e w' => e = .returned (.bool g1) ∧ w' = W) := fun W => by rw [hg1]; exact refNum_any c W
      have H2 : Hid (∀ W, Calls Try.prog 21 #[.int .i64 r] W fun e w' => e = .returned (.bool g2) ∧ w' = W) := fun W => by rw [hg2]; exact refNum_any r W
      have H3 : Hid (∀ W, Calls Try.prog 22 #[(Go.Value.agg #[Go.Value.int Go.IntKind.i64 e, Go.Value.int Go.IntKind.i64 x, Go.Value.int Go.IntKind.i64 y, Go.Value.int Go.IntKind.i64 z, Go.Value.bool f, Go.Value.string v, Go.Value.slice ai ni ci, Go.Value.string nx, Go.Value.bool m])] W fun e w' => e = .returned (.bool g3) ∧ Below W.heap.size W w') := fun W => by rw [hg3]; exact refAns_any c r e x y z f v ai ni ci nx m W
      have HX : Hid (rowAt l k = ((g1 && (g2 && g3)) && g4)) := by
        show _ = _
        unfold rowAt rowB
        rw [hdk', hg1, hg2, hg3, hg4]; rfl
      have HG4 := Lib.hid hg4
      have hkl : k < l.length := by rw [HL.out]; exact hlt
      have HKL := Lib.hid hkl
      obtain ⟨x0, x1, x2, x3, x4, x5, x6, x7, x8, x9, x10⟩ := HK.out
      dsimp only at x0 x1 x2 x3 x4 x5 x6 x7 x8 x9 x10
      have q4 : k < n := hlt
      clear hd hdk hdk' hg1 hg2 hg3 hg4 hkl
      cases g1
      · have HE : Hid (rightT l = false) := rightT_at (i := k) HKL.out (by rw [HX.out]; rfl)
        go_wp2_with fail
        refine (H1.out _).mono ?_
        rintro e w1 ⟨rfl, rfl⟩
        go_wp2_with fail
        go_ret
        exact ⟨by rw [HE.out]; rfl, hbel.out⟩
      cases g2
      · have HE : Hid (rightT l = false) := rightT_at (i := k) HKL.out (by rw [HX.out]; rfl)
        go_wp2_with fail
        refine (H1.out _).mono ?_
        rintro e w1 ⟨rfl, rfl⟩
        go_wp2_with fail
        refine (H2.out _).mono ?_
        rintro e w1 ⟨rfl, rfl⟩
        go_wp2_with fail
        go_ret
        exact ⟨by rw [HE.out]; rfl, hbel.out⟩
      cases g3
      · have HE : Hid (rightT l = false) := rightT_at (i := k) HKL.out (by rw [HX.out]; rfl)
        go_wp2_with fail
        refine (H1.out _).mono ?_
        rintro e w1 ⟨rfl, rfl⟩
        go_wp2_with fail
        refine (H2.out _).mono ?_
        rintro e w1 ⟨rfl, rfl⟩
        go_wp2_with fail
        refine (H3.out _).mono ?_
        rintro e w1 ⟨rfl, hb1⟩
        go_wp2_with fail
        go_ret
        exact ⟨by rw [HE.out]; rfl, hbel.out.trans (hb1.mono hbel.out.size)⟩
      go_wp2_with fail
      refine (H1.out _).mono ?_
      rintro e w1 ⟨rfl, rfl⟩
      go_wp2_with fail
      refine (H2.out _).mono ?_
      rintro e w1 ⟨rfl, rfl⟩
      go_wp2_with fail
      refine (H3.out _).mono ?_
      rintro e w1 ⟨rfl, hb1⟩
      have hbel1 : Hid (Below w.heap.size w w1) := hbel.out.trans (hb1.mono hbel.out.size)
      clear hb1 x0 x1 x2 x3 x4 x5 x6 x7 x8 x9 x10 H1 H2 H3
      go_upto_region 8 with (fail)
      cases k with
      | zero =>
        have HN : Hid (∀ j, j < 0 + 1 → rowAt l j = true) := by
          intro j hj
          obtain rfl : j = 0 := by omega
          rw [HX.out, HG4.out]; rfl
        refine wp_region_calm (fun W => Below w.heap.size w W) (by kernel_rfl) (by kernel_rfl) hbel1.out.drew ?_
        repeat ((with_reducible refine wpQuiet_step (fun K hK => ?_)); go_simp; first | (refine hK _ ?_; clear hK K) | (apply Exists.intro; refine ⟨fun wc hwc => ?_, hK _ ?_⟩; (focus (first | (fail) | ((skip); go_simp; done) | ((skip); go_simp; exact rfl))); clear hK K))
        refine wpQuiet_nil ?_
        intro wc hwc
        go_wp2_with fail
        go_roundw
        case rel => exact ⟨0 + 1, by omega, by go_num, HN, hwc⟩
        case measure => simp [intOf]; omega
      | succ p =>
        obtain ⟨c', hc'⟩ : ∃ c', c' = dC (dat l p) := ⟨_, rfl⟩
        have hpc : (det es p).1.1 = c' := by rw [hc']; exact congrArg dC (det_map HE.out p)
        have H3 : Hid (DK2 w b (off + p * 11) c' (off + (p + 1) * 11) c w1) := by
          refine ⟨hb, hbel1.out, ?_, ?_⟩
          · have := ((hcl p (by omega)).next hbel1.out hb).1
            rw [hpc] at this; exact this
          · exact HKB.out w1 hbel1.out
        have HG5 : Hid (g4 = decide (c' < c)) := by
          show _ = _
          rw [HG4.out, hc', decide_eq_false (by omega : ¬ p + 1 = 0), Bool.false_or, Nat.add_sub_cancel]
        have q1 := IntWalk.i64_in (p : Int) (by omega)
        have q2 : ((p : Int) + 1).toNat = p + 1 := by omega
        have q3 : (0 : Int) ≤ (p : Int) + 1 := by omega
        have q5 : p < n := by omega
        have q6 : (p : Int) + 1 < (n : Int) := by omega
        clear hc' hpc hcl
        by_cases hcc : c ≤ c'
        · have HE : Hid (rightT l = false) := rightT_at (i := p + 1) HKL.out (by rw [HX.out, HG5.out, decide_eq_false (by omega)]; rfl)
          have d1 : decide (c ≤ c') = true := decide_eq_true hcc
          refine wp_region_calm (DK2 w b (off + p * 11) c' (off + (p + 1) * 11) c) (by kernel_rfl) (by kernel_rfl) (H3.out.next ((Below.refl _ _).drew)) ?_
          repeat ((with_reducible refine wpQuiet_step (fun K hK => ?_)); go_simp; first | (refine hK _ ?_; clear hK K) | (apply Exists.intro; refine ⟨fun wc hwc => ?_, hK _ ?_⟩; (focus (first | (fail) | (((obtain ⟨_, _, x0, y0⟩ := hwc)); go_simp; done) | (((obtain ⟨_, _, x0, y0⟩ := hwc)); go_simp; exact rfl))); clear hK K))
          refine wpQuiet_nil ?_
          intro wc hwc
          go_wp2_with fail
          go_ret
          exact ⟨by rw [HE.out]; rfl, hwc.2.1⟩
        · have HN : Hid (∀ j, j < p + 1 + 1 → rowAt l j = true) := by
            intro j hj
            by_cases hjk : j < p + 1
            · exact hok.out j hjk
            · obtain rfl : j = p + 1 := by omega
              rw [HX.out, HG5.out, decide_eq_true (by omega)]; rfl
          have d1 : decide (c ≤ c') = false := decide_eq_false hcc
          refine wp_region_calm (DK2 w b (off + p * 11) c' (off + (p + 1) * 11) c) (by kernel_rfl) (by kernel_rfl) (H3.out.next ((Below.refl _ _).drew)) ?_
          repeat ((with_reducible refine wpQuiet_step (fun K hK => ?_)); go_simp; first | (refine hK _ ?_; clear hK K) | (apply Exists.intro; refine ⟨fun wc hwc => ?_, hK _ ?_⟩; (focus (first | (fail) | (((obtain ⟨_, _, x0, y0⟩ := hwc)); go_simp; done) | (((obtain ⟨_, _, x0, y0⟩ := hwc)); go_simp; exact rfl))); clear hK K))
          refine wpQuiet_nil ?_
          intro wc hwc
          go_wp2_with fail
          go_roundw
          case rel => exact ⟨p + 1 + 1, by omega, by go_num, HN, hwc.2.1⟩
          case measure => simp [intOf]; omega
    · have HX : Hid (rightT l = true) := rightT_yes (by rw [HL.out]; omega) (fun i hi => hok.out i (by rw [HL.out] at hi; omega))
      go_wp2_with fail
      go_ret
      exact ⟨by rw [HX.out]; rfl, hbel.out⟩

/-! ### Small -/
def smallT (l : List Dn) : Bool := decide (l.length ≤ 40 ∧ ∀ i, i < l.length → dN (dat l i) ≤ 100)
theorem smallT_len {l : List Dn} (h : smallT l = true) : l.length ≤ 40 := by unfold smallT at h; exact (of_decide_eq_true h).1
set_option maxRecDepth 100000 in
set_option maxHeartbeats 1000000 in
theorem refTSmall_any {w : World} {v : Value} {l : List Dn} (h : Tab w v l) : Calls Try.prog 8 #[v] w fun e w' => e = .returned (.bool (smallT l)) ∧ w' = w := by
  obtain ⟨ao, n, cap, es, rfl, hl, hle, hmx, hn, hrow, hmap⟩ := h.opened
  have HL := Lib.hid hl
  have HR := Lib.hid hrow
  have HE := Lib.hid hmap
  clear hl hrow hmap hle hmx h
  by_cases h40 : 40 < n
  · have HX : Hid (smallT l = false) := by show _ = _; unfold smallT; exact decide_eq_false fun h => by have := HL.out; omega
    go_enter Try.func8, Try.ntmps8
    go_wp2_with fail
    go_ret
    exact ⟨by rw [HX.out]; rfl, rfl⟩
  go_enter Try.func8, Try.ntmps8
  go_wp2_with fail
  go_loop [3] (fun i => ∃ k : Nat, k ≤ n ∧ i = .int .i64 k ∧ Hid (∀ j, j < k → dN (dat l j) ≤ 100)) (fun i => n - (intOf i).toNat)
  case atStart => exact ⟨0, Nat.zero_le _, rfl, fun j hj => absurd hj (Nat.not_lt_zero _)⟩
  case round =>
    obtain ⟨k, hk, rfl, hok⟩ := hrel
    by_cases hlt : k < n
    · obtain ⟨b, off, rfl, hb, hcl⟩ := HR.out (by omega)
      have x8 := (hcl k hlt).2.2.2.2.2.2.2.2.1
      have hdk := det_map HE.out k
      obtain ⟨ni, hni⟩ : ∃ ni, ni = (det es k).1.2.2.2.2.2.2.1 := ⟨_, rfl⟩
      obtain ⟨ai, hai⟩ : ∃ ai, ai = (det es k).2.1 := ⟨_, rfl⟩
      obtain ⟨ci, hci⟩ : ∃ ci, ci = (det es k).2.2 := ⟨_, rfl⟩
      rw [← hni, ← hai, ← hci] at x8
      have HNI : Hid (dN (dat l k) = ni) := by show _ = _; rw [hni, ← hdk]; rfl
      have q4 : k < n := hlt
      clear hcl hdk hni hai hci
      by_cases h1 : ni ≤ 100
      · have d1 : decide (100 < (ni : Int)) = false := decide_eq_false (by omega)
        have HN : Hid (∀ j, j < k + 1 → dN (dat l j) ≤ 100) := by
          intro j hj
          by_cases hjk : j < k
          · exact hok.out j hjk
          · obtain rfl : j = k := by omega
            rw [HNI.out]; exact h1
        clear h1
        go_wp2_with fail
        go_round
        case rel => exact ⟨k + 1, by omega, by go_num, HN⟩
        case measure => simp [intOf]; omega
      · have d1 : decide (100 < (ni : Int)) = true := decide_eq_true (by omega)
        have HX : Hid (smallT l = false) := by
          show _ = _
          unfold smallT
          exact decide_eq_false fun h => h1 (by have := h.2 k (by rw [HL.out]; exact hlt); rw [HNI.out] at this; exact this)
        clear h1
        go_wp2_with fail
        go_ret
        exact ⟨by rw [HX.out]; rfl, rfl⟩
    · have HX : Hid (smallT l = true) := by show _ = _; unfold smallT; exact decide_eq_true ⟨by have := HL.out; omega, fun i hi => hok.out i (by have := HL.out; omega)⟩
      go_wp2_with fail
      go_ret
      exact ⟨by rw [HX.out]; rfl, rfl⟩

end Go.Proofs.Ytdiabcdpnbhibaa
