/-
  The contracts of dedup.number, plain, rightRow, Right.
-/
import Derived.Test.YtdiabcdpnbhibaaDdForms
import Derived.Test.YtdiabcdpnbhibaaSmRight
import Derived.Test.YtdiabcdpnbhibaaSmCalm
import Derived.Deep.DeepCutAuto
set_option linter.unusedVariables false
namespace Go.Proofs.Ytdiabcdpnbhibaa
open Go.RowKit

set_option maxRecDepth 100000 in
set_option maxHeartbeats 400000 in
theorem dnum_any (n : Int) (w : World) : Calls Try.prog 24 #[.int .i64 n] w fun e w' => e = .returned (.bool (numB n)) ∧ w' = w := by
  have HN : Hid (numB n = (decide (0 < n) && decide (n ≤ 1099511627776))) := rfl
  by_cases h1 : 0 < n
  · have d1 : decide (0 < n) = true := decide_eq_true h1
    have d2 : decide (1 ≤ n) = true := decide_eq_true (by omega)
    by_cases h2 : n ≤ 1099511627776
    · have d3 : decide (n ≤ 1099511627776) = true := decide_eq_true h2
      rw [d1, d3] at HN
      clear h1 h2
      go_enter Try.func24, Try.ntmps24
      go_wp2_with fail
      go_ret
      exact ⟨by rw [HN.out]; rfl, rfl⟩
    · have d3 : decide (n ≤ 1099511627776) = false := decide_eq_false h2
      rw [d1, d3] at HN
      clear h1 h2
      go_enter Try.func24, Try.ntmps24
      go_wp2_with fail
      go_ret
      exact ⟨by rw [HN.out]; rfl, rfl⟩
  · have d1 : decide (0 < n) = false := decide_eq_false h1
    have d2 : decide (1 ≤ n) = false := decide_eq_false (by omega)
    rw [d1, Bool.false_and] at HN
    clear h1
    go_enter Try.func24, Try.ntmps24
    go_wp2_with fail
    go_ret
    exact ⟨by rw [HN.out]; rfl, rfl⟩

theorem plain_mark {c r e x y z : Int} {f : Bool} {v : ByteArray} {n : Nat} {nx : ByteArray} {m : Bool} (h : rightB x y z = false) : plainA (c, r, e, (x, y, z), f, v, n, nx, m) = false := by
  show ((decide (0 ≤ e) && (decide (e ≤ 16) && (decide (v.size ≤ 16) && (decide (n = 0) && (decide (nx.size = 0) && !m))))) && rightB x y z) = _
  rw [h, Bool.and_false]
theorem dd_emp (s : ByteArray) (h0 : ¬ s.size = 0) : (s.toList == ({ data := #[] } : ByteArray).toList) = false ∧ ¬ s.toList = ({ data := #[] } : ByteArray).toList ∧ (s.toList == []) = false ∧ ¬ s.toList = [] ∧ ¬ s = { data := #[] } := by
  have h1 : ¬ s = { data := #[] } := fun e => by rw [e] at h0; exact h0 rfl
  have h2 : ¬ s.toList = ({ data := #[] } : ByteArray).toList := fun e => h1 (list_inj e)
  have h3 : ({ data := #[] } : ByteArray).toList = [] := by rw [ByteArray.toList_eq]
  exact ⟨beq_eq_false_iff_ne.2 h2, h2, beq_eq_false_iff_ne.2 (h3 ▸ h2), h3 ▸ h2, h1⟩

set_option maxRecDepth 100000 in
set_option maxHeartbeats 2000000 in
theorem dplain_any (c r e x y z : Int) (f : Bool) (v : ByteArray) (ao : Option Addr) (n cap : Nat) (nx : ByteArray) (m : Bool) (w : World) :
    Calls Try.prog 32 #[(Go.Value.agg #[Go.Value.int Go.IntKind.i64 e, Go.Value.int Go.IntKind.i64 x, Go.Value.int Go.IntKind.i64 y, Go.Value.int Go.IntKind.i64 z, Go.Value.bool f, Go.Value.string v, Go.Value.slice ao n cap, Go.Value.string nx, Go.Value.bool m])] w fun e' w' => e' = .returned (.bool (plainA (c, r, e, (x, y, z), f, v, n, nx, m))) ∧ Below w.heap.size w w' := by
  have HB0 : Hid (Below w.heap.size w (w.alloc (.cells #[Go.Value.int Go.IntKind.i64 e, Go.Value.int Go.IntKind.i64 x, Go.Value.int Go.IntKind.i64 y, Go.Value.int Go.IntKind.i64 z, Go.Value.bool f, Go.Value.string v, Go.Value.slice ao n cap, Go.Value.string nx, Go.Value.bool m] 31))) := (Below.refl _ _).alloc (Nat.le_refl _) _
  have HA0 : Hid (ABox (w.alloc (.cells #[Go.Value.int Go.IntKind.i64 e, Go.Value.int Go.IntKind.i64 x, Go.Value.int Go.IntKind.i64 y, Go.Value.int Go.IntKind.i64 z, Go.Value.bool f, Go.Value.string v, Go.Value.slice ao n cap, Go.Value.string nx, Go.Value.bool m] 31)) w.heap.size e x y z f v ao n cap nx m) := ABox.new w e x y z f v ao n cap nx m
  obtain ⟨R, hR⟩ : ∃ R, R = rightB x y z := ⟨_, rfl⟩
  have HR : Hid (∀ W, Calls Try.prog 38 #[(Go.Value.agg #[Go.Value.int Go.IntKind.i64 x, Go.Value.int Go.IntKind.i64 y, Go.Value.int Go.IntKind.i64 z])] W fun e w' => e = .returned (.bool R) ∧ Below W.heap.size W w') := fun W => by rw [hR]; exact Right_any x y z W
  have HRB := Lib.hid hR
  clear hR
  by_cases h : e < 0
  · have HX : Hid (plainA (c, r, e, (x, y, z), f, v, n, nx, m) = false) := plain_no (Or.inl h)
    have d0 : decide (0 ≤ e) = false := decide_eq_false (by omega)
    clear h
    go_enter Try.func32, Try.ntmps32
    go_wp2_with fail
    go_ret
    exact ⟨by rw [HX.out]; rfl, HB0.out⟩
  have d0 : decide (0 ≤ e) = true := decide_eq_true (by omega)
  have H0 := Lib.hid h
  clear h
  by_cases h : 16 < e
  · have HX : Hid (plainA (c, r, e, (x, y, z), f, v, n, nx, m) = false) := plain_no (Or.inr (Or.inl h))
    have d1 : decide (e ≤ 16) = false := decide_eq_false (by omega)
    clear h
    go_enter Try.func32, Try.ntmps32
    go_wp2_with fail
    go_ret
    exact ⟨by rw [HX.out]; rfl, HB0.out⟩
  have d1 : decide (e ≤ 16) = true := decide_eq_true (by omega)
  have H1 := Lib.hid h
  clear h
  cases R
  · have HX : Hid (plainA (c, r, e, (x, y, z), f, v, n, nx, m) = false) := plain_mark HRB.out.symm
    go_enter Try.func32, Try.ntmps32
    go_wp2_with fail
    refine (HR.out _).mono ?_
    rintro e w1 ⟨rfl, hb1⟩
    have HB1 : Hid (Below w.heap.size w w1) := HB0.out.trans (hb1.mono HB0.out.size)
    clear hb1
    go_wp2_with fail
    go_ret
    exact ⟨by rw [HX.out]; rfl, HB1.out⟩
  by_cases h : 16 < v.size
  · have HX : Hid (plainA (c, r, e, (x, y, z), f, v, n, nx, m) = false) := plain_no (Or.inr (Or.inr (Or.inl h)))
    have d2 : decide ((v.size : Int) ≤ 16) = false := decide_eq_false (by omega)
    have d2' : ¬ v.size ≤ 16 := by omega
    clear h
    go_enter Try.func32, Try.ntmps32
    go_wp2_with fail
    refine (HR.out _).mono ?_
    rintro e w1 ⟨rfl, hb1⟩
    have HB1 : Hid (Below w.heap.size w w1) := HB0.out.trans (hb1.mono HB0.out.size)
    obtain ⟨x0, x1, x2, x3, x4, x5, x6, x7, x8⟩ := (HA0.out.over hb1).cell
    clear hb1
    go_wp2_with fail
    go_ret
    exact ⟨by rw [HX.out]; rfl, HB1.out⟩
  have d2 : decide ((v.size : Int) ≤ 16) = true := decide_eq_true (by omega)
  have d2' : v.size ≤ 16 := by omega
  have H2 := Lib.hid h
  clear h
  rcases Nat.eq_zero_or_pos n with rfl | h
  rotate_left
  · have HX : Hid (plainA (c, r, e, (x, y, z), f, v, n, nx, m) = false) := plain_no (Or.inr (Or.inr (Or.inr (Or.inl h))))
    have d3 : ((n : Int) == 0) = false := beq_eq_false_iff_ne.2 (by omega)
    have h2 : ¬ n = 0 := by omega
    clear h
    go_enter Try.func32, Try.ntmps32
    go_wp2_with fail
    refine (HR.out _).mono ?_
    rintro e w1 ⟨rfl, hb1⟩
    have HB1 : Hid (Below w.heap.size w w1) := HB0.out.trans (hb1.mono HB0.out.size)
    obtain ⟨x0, x1, x2, x3, x4, x5, x6, x7, x8⟩ := (HA0.out.over hb1).cell
    clear hb1
    go_wp2_with fail
    go_ret
    exact ⟨by rw [HX.out]; rfl, HB1.out⟩
  by_cases h : 0 < nx.size
  · have HX : Hid (plainA (c, r, e, (x, y, z), f, v, 0, nx, m) = false) := plain_no (Or.inr (Or.inr (Or.inr (Or.inr (Or.inl h)))))
    obtain ⟨t1, t2, t3, t4, t6⟩ := dd_emp nx (by omega)
    clear h
    go_enter Try.func32, Try.ntmps32
    go_wp2_with fail
    refine (HR.out _).mono ?_
    rintro e w1 ⟨rfl, hb1⟩
    have HB1 : Hid (Below w.heap.size w w1) := HB0.out.trans (hb1.mono HB0.out.size)
    obtain ⟨x0, x1, x2, x3, x4, x5, x6, x7, x8⟩ := (HA0.out.over hb1).cell
    clear hb1
    go_wp2_with fail
    go_ret
    exact ⟨by rw [HX.out]; rfl, HB1.out⟩
  obtain rfl : nx = ({ data := #[] } : ByteArray) := by
    have h6 : nx.data.toList.length = ([] : List UInt8).length := by rw [bytes_len]; show nx.size = 0; omega
    exact bytes_inj (List.length_eq_zero_iff.1 h6)
  clear h
  cases m
  · have HX : Hid (plainA (c, r, e, (x, y, z), f, v, 0, { data := #[] }, false) = true) := by
      show _ = _
      rw [plain_yes H0.out H1.out H2.out (by omega) (by decide) rfl]; exact HRB.out.symm
    go_enter Try.func32, Try.ntmps32
    go_wp2_with fail
    refine (HR.out _).mono ?_
    rintro e w1 ⟨rfl, hb1⟩
    have HB1 : Hid (Below w.heap.size w w1) := HB0.out.trans (hb1.mono HB0.out.size)
    obtain ⟨x0, x1, x2, x3, x4, x5, x6, x7, x8⟩ := (HA0.out.over hb1).cell
    clear hb1
    go_wp2_with fail
    go_ret
    exact ⟨by rw [HX.out]; rfl, HB1.out⟩
  · have HX : Hid (plainA (c, r, e, (x, y, z), f, v, 0, { data := #[] }, true) = false) := plain_no (.inr (.inr (.inr (.inr (.inr rfl)))))
    go_enter Try.func32, Try.ntmps32
    go_wp2_with fail
    refine (HR.out _).mono ?_
    rintro e w1 ⟨rfl, hb1⟩
    have HB1 : Hid (Below w.heap.size w w1) := HB0.out.trans (hb1.mono HB0.out.size)
    obtain ⟨x0, x1, x2, x3, x4, x5, x6, x7, x8⟩ := (HA0.out.over hb1).cell
    clear hb1
    go_wp2_with fail
    go_ret
    exact ⟨by rw [HX.out]; rfl, HB1.out⟩

/-! ### rightRow -/
set_option maxRecDepth 100000 in
set_option maxHeartbeats 2000000 in
theorem drow_any (c r e x y z : Int) (f : Bool) (v : ByteArray) (ao : Option Addr) (n cap : Nat) (nx : ByteArray) (m : Bool) (w : World) :
    Calls Try.prog 23 #[(Go.Value.agg #[Go.Value.int Go.IntKind.i64 c, Go.Value.int Go.IntKind.i64 r, Go.Value.int Go.IntKind.i64 e, Go.Value.int Go.IntKind.i64 x, Go.Value.int Go.IntKind.i64 y, Go.Value.int Go.IntKind.i64 z, Go.Value.bool f, Go.Value.string v, Go.Value.slice ao n cap, Go.Value.string nx, Go.Value.bool m])] w fun e' w' => e' = .returned (.bool (rowB (c, r, e, (x, y, z), f, v, n, nx, m))) ∧ Below w.heap.size w w' := by
  obtain ⟨g1, hg1⟩ : ∃ g, g = numB c := ⟨_, rfl⟩
  obtain ⟨g2, hg2⟩ : ∃ g, g = numB r := ⟨_, rfl⟩
  obtain ⟨g3, hg3⟩ : ∃ g, g = plainA (c, r, e, (x, y, z), f, v, n, nx, m) := ⟨_, rfl⟩
  have H1 : Hid (∀ W, Calls Try.prog 24 #[.int .i64 c] W fun e w' => e = .returned (.bool g1) ∧ w' = W) := fun W => by rw [hg1]; exact dnum_any c W
  have H2 : Hid (∀ W, Calls Try.prog 24 #[.int .i64 r] W fun e w' => e = .returned (.bool g2) ∧ w' = W) := fun W => by rw [hg2]; exact dnum_any r W
  have H3 : Hid (∀ W, Calls Try.prog 32 #[(Go.Value.agg #[Go.Value.int Go.IntKind.i64 e, Go.Value.int Go.IntKind.i64 x, Go.Value.int Go.IntKind.i64 y, Go.Value.int Go.IntKind.i64 z, Go.Value.bool f, Go.Value.string v, Go.Value.slice ao n cap, Go.Value.string nx, Go.Value.bool m])] W fun e w' => e = .returned (.bool g3) ∧ Below W.heap.size W w') := fun W => by rw [hg3]; exact dplain_any c r e x y z f v ao n cap nx m W
  have HX : Hid (rowB (c, r, e, (x, y, z), f, v, n, nx, m) = (g1 && (g2 && g3))) := by
    show _ = _
    rw [hg1, hg2, hg3]; rfl
  have HB0 : Hid (Below w.heap.size w (w.alloc (.cells #[Go.Value.int Go.IntKind.i64 c, Go.Value.int Go.IntKind.i64 r, Go.Value.int Go.IntKind.i64 e, Go.Value.int Go.IntKind.i64 x, Go.Value.int Go.IntKind.i64 y, Go.Value.int Go.IntKind.i64 z, Go.Value.bool f, Go.Value.string v, Go.Value.slice ao n cap, Go.Value.string nx, Go.Value.bool m] 33))) := (Below.refl _ _).alloc (Nat.le_refl _) _
  clear hg1 hg2 hg3
  cases g1
  · go_enter Try.func23, Try.ntmps23
    go_wp2_with fail
    refine (H1.out _).mono ?_
    rintro e w1 ⟨rfl, rfl⟩
    go_wp2_with fail
    go_ret
    exact ⟨by rw [HX.out]; rfl, HB0.out⟩
  cases g2
  · go_enter Try.func23, Try.ntmps23
    go_wp2_with fail
    refine (H1.out _).mono ?_
    rintro e w1 ⟨rfl, rfl⟩
    go_wp2_with fail
    refine (H2.out _).mono ?_
    rintro e w1 ⟨rfl, rfl⟩
    go_wp2_with fail
    go_ret
    exact ⟨by rw [HX.out]; rfl, HB0.out⟩
  go_enter Try.func23, Try.ntmps23
  go_wp2_with fail
  refine (H1.out _).mono ?_
  rintro e w1 ⟨rfl, rfl⟩
  go_wp2_with fail
  refine (H2.out _).mono ?_
  rintro e w1 ⟨rfl, rfl⟩
  go_wp2_with fail
  refine (H3.out _).mono ?_
  rintro e w1 ⟨rfl, hb1⟩
  have HB1 : Hid (Below w.heap.size w w1) := HB0.out.trans (hb1.mono HB0.out.size)
  clear hb1
  cases g3
  all_goals
    go_wp2_with fail
    go_ret
    exact ⟨by rw [HX.out]; rfl, HB1.out⟩

/-! ### Right -/
/-- The row's block. -/
def RrRel (w : World) (g : Nat) (d : DnV) (W : World) : Prop := Below w.heap.size w W ∧ DBox W g d
theorem RrRel.next {w W W' : World} {g : Nat} {d : DnV} (H : RrRel w g d W) (hb : Below W.heap.size W W') : RrRel w g d W' := ⟨H.1.trans (hb.mono H.1.size), H.2.over hb⟩
theorem RrRel.new {w W : World} (h : Below w.heap.size w W) (c r e x y z : Int) (f : Bool) (vv : ByteArray) (ai : Option Addr) (ni ci : Nat) (nx : ByteArray) (mo : Bool) : RrRel w W.heap.size ((c, r, e, (x, y, z), f, vv, ni, nx, mo), ai, ci) (W.alloc (.cells #[Go.Value.int Go.IntKind.i64 c, Go.Value.int Go.IntKind.i64 r, Go.Value.int Go.IntKind.i64 e, Go.Value.int Go.IntKind.i64 x, Go.Value.int Go.IntKind.i64 y, Go.Value.int Go.IntKind.i64 z, Go.Value.bool f, Go.Value.string vv, Go.Value.slice ai ni ci, Go.Value.string nx, Go.Value.bool mo] 33)) := ⟨h.alloc h.size _, DBox.new W ((c, r, e, (x, y, z), f, vv, ni, nx, mo), ai, ci)⟩
/-- And the client of the row ahead of it. -/
def RsRel (w : World) (g : Nat) (d : DnV) (b o : Nat) (c : Int) (W : World) : Prop := b < w.heap.size ∧ RrRel w g d W ∧ W.cell? ⟨b, o, none⟩ = some (.int .i64 c)
theorem RsRel.next {w W W' : World} {g : Nat} {d : DnV} {b o : Nat} {c : Int} (H : RsRel w g d b o c W) (hb : Below W.heap.size W W') : RsRel w g d b o c W' := by
  obtain ⟨h0, h1, h2⟩ := H
  have := h1.1.size
  exact ⟨h0, h1.next hb, (hb.cell (p := ⟨b, o, none⟩) (by show b < _; omega)).trans h2⟩

set_option maxRecDepth 100000 in
set_option maxHeartbeats 4000000 in
theorem fDRight : FDRight := by
  intro w v l h
  obtain ⟨ao, n, cap, es, rfl, hl, hle, hmx, hn, hrow, hmap⟩ := h.opened
  have HL := Lib.hid hl
  have HR := Lib.hid hrow
  have HE := Lib.hid hmap
  clear hl hrow hmap hle hmx h
  by_cases h8 : 8 < n
  · have HX : Hid (rightT l = false) := rightT_long (by rw [HL.out]; omega)
    have d8 : decide (8 < (n : Int)) = true := decide_eq_true (by omega)
    go_enter Try.func11, Try.ntmps11
    go_wp2_with fail
    go_ret
    exact ⟨by rw [HX.out]; rfl, Below.refl _ _⟩
  have d8 : decide (8 < (n : Int)) = false := decide_eq_false (by omega)
  go_enter Try.func11, Try.ntmps11
  go_wp2_with fail
  go_loopw [10] (fun i wr => ∃ k : Nat, k ≤ n ∧ i = .int .i64 k ∧ Hid (∀ j, j < k → rowAt l j = true) ∧ Hid (Below w.heap.size w wr)) (fun i _ => n - (intOf i).toNat)
  case atStart => exact ⟨0, Nat.zero_le _, rfl, fun j hj => absurd hj (Nat.not_lt_zero _), Below.refl _ _⟩
  case round =>
    obtain ⟨k, hk, rfl, hok, hbel⟩ := hrel
    by_cases hlt : k < n
    · obtain ⟨b, off, rfl, hb, hcl⟩ := HR.out (by omega)
      obtain ⟨d, hd⟩ : ∃ d, d = det es k := ⟨_, rfl⟩
      have hdk : d.1 = dat l k := by rw [hd]; exact det_map HE.out k
      have HK : Hid (DnAt wr b (off + k * 11) d) := by rw [hd]; exact (hcl k hlt).next hbel.out hb
      obtain ⟨⟨c, r, e, ⟨x, y, z⟩, f, v, ni, nx, m⟩, ai, ci⟩ := d
      have hdk' : dat l k = (c, r, e, (x, y, z), f, v, ni, nx, m) := hdk.symm
      obtain ⟨g1, hg1⟩ : ∃ g, g = rowB (c, r, e, (x, y, z), f, v, ni, nx, m) := ⟨_, rfl⟩
      obtain ⟨g4, hg4⟩ : ∃ g, g = (decide (k = 0) || decide (dC (dat l (k - 1)) < c)) := ⟨_, rfl⟩
      have H1 : Hid (∀ W, Calls Try.prog 23 #[(Go.Value.agg #[Go.Value.int Go.IntKind.i64 c, Go.Value.int Go.IntKind.i64 r, Go.Value.int Go.IntKind.i64 e, Go.Value.int Go.IntKind.i64 x, Go.Value.int Go.IntKind.i64 y, Go.Value.int Go.IntKind.i64 z, Go.Value.bool f, Go.Value.string v, Go.Value.slice ai ni ci, Go.Value.string nx, Go.Value.bool m])] W fun e w' => e = .returned (.bool g1) ∧ Below W.heap.size W w') := fun W => by rw [hg1]; exact drow_any c r e x y z f v ai ni ci nx m W
      have HX : Hid (rowAt l k = (g1 && g4)) := by
        show _ = _
        unfold rowAt
        rw [hdk', hg1, hg4]; rfl
      have HG4 := Lib.hid hg4
      have hkl : k < l.length := by rw [HL.out]; exact hlt
      have HKL := Lib.hid hkl
      have H2 := Lib.hid (RrRel.new hbel.out c r e x y z f v ai ni ci nx m)
      obtain ⟨x0, x1, x2, x3, x4, x5, x6, x7, x8, x9, x10⟩ := HK.out
      dsimp only at x0 x1 x2 x3 x4 x5 x6 x7 x8 x9 x10
      have q4 : k < n := hlt
      clear hd hdk hdk' hg1 hg4 hkl
      go_upto_region 6 with (fail)
      clear x0 x1 x2 x3 x4 x5 x6 x7 x8 x9 x10
      generalize hw1 : wr.alloc _ = w1 at H2 ⊢
      generalize hg : wr.heap.size = g at H2 ⊢
      have hbW := hbel.out
      clear hw1 hg
      cases g1
      · have HE : Hid (rightT l = false) := rightT_at (i := k) HKL.out (by rw [HX.out]; rfl)
        refine wp_region_calm (RrRel w g ((c, r, e, (x, y, z), f, v, ni, nx, m), ai, ci)) (by kernel_rfl) (by kernel_rfl) (H2.out.next ((Below.refl _ _).drew)) ?_
        repeat ((with_reducible refine wpQuiet_step (fun K hK => ?_)); go_simp; first | (refine hK _ ?_; clear hK K) | (apply Exists.intro; refine ⟨fun wc hwc => ?_, hK _ ?_⟩; (focus (first | (first | (go_at_call 23; refine (H1.out _).mono ?_; rintro e' w3 ⟨rfl, hb3⟩; exact ⟨rfl, hwc.next hb3⟩)) | (((obtain ⟨x0, x1, x2, x3, x4, x5, x6, x7, x8, x9, x10⟩ := hwc.2.cell; dsimp only at x0 x1 x2 x3 x4 x5 x6 x7 x8 x9 x10)); go_simp; done) | (((obtain ⟨x0, x1, x2, x3, x4, x5, x6, x7, x8, x9, x10⟩ := hwc.2.cell; dsimp only at x0 x1 x2 x3 x4 x5 x6 x7 x8 x9 x10)); go_simp; exact rfl))); clear hK K))
        refine wpQuiet_nil ?_
        intro wc hwc
        go_wp2_with fail
        go_ret
        exact ⟨by rw [HE.out]; rfl, hwc.1⟩
      cases k with
      | zero =>
        have HN : Hid (∀ j, j < 0 + 1 → rowAt l j = true) := by
          intro j hj
          obtain rfl : j = 0 := by omega
          rw [HX.out, HG4.out]; rfl
        refine wp_region_calm (RrRel w g ((c, r, e, (x, y, z), f, v, ni, nx, m), ai, ci)) (by kernel_rfl) (by kernel_rfl) (H2.out.next ((Below.refl _ _).drew)) ?_
        repeat ((with_reducible refine wpQuiet_step (fun K hK => ?_)); go_simp; first | (refine hK _ ?_; clear hK K) | (apply Exists.intro; refine ⟨fun wc hwc => ?_, hK _ ?_⟩; (focus (first | (first | (go_at_call 23; refine (H1.out _).mono ?_; rintro e' w3 ⟨rfl, hb3⟩; exact ⟨rfl, hwc.next hb3⟩)) | (((obtain ⟨x0, x1, x2, x3, x4, x5, x6, x7, x8, x9, x10⟩ := hwc.2.cell; dsimp only at x0 x1 x2 x3 x4 x5 x6 x7 x8 x9 x10)); go_simp; done) | (((obtain ⟨x0, x1, x2, x3, x4, x5, x6, x7, x8, x9, x10⟩ := hwc.2.cell; dsimp only at x0 x1 x2 x3 x4 x5 x6 x7 x8 x9 x10)); go_simp; exact rfl))); clear hK K))
        refine wpQuiet_nil ?_
        intro wc hwc
        go_wp2_with fail
        go_roundw
        case rel => exact ⟨0 + 1, by omega, by go_num, HN, hwc.1⟩
        case measure => simp [intOf]; omega
      | succ p =>
        obtain ⟨c', hc'⟩ : ∃ c', c' = dC (dat l p) := ⟨_, rfl⟩
        have hpc : (det es p).1.1 = c' := by rw [hc']; exact congrArg dC (det_map HE.out p)
        have H3 : Hid (RsRel w g ((c, r, e, (x, y, z), f, v, ni, nx, m), ai, ci) b (off + p * 11) c' w1) := by
          refine ⟨hb, H2.out, ?_⟩
          have := ((hcl p (by omega)).next H2.out.1 hb).1
          rw [hpc] at this; exact this
        have HG5 : Hid (g4 = decide (c' < c)) := by
          show _ = _
          rw [HG4.out, hc', decide_eq_false (by omega : ¬ p + 1 = 0), Bool.false_or, Nat.add_sub_cancel]
        have q1 := IntWalk.i64_in (p : Int) (by omega)
        have q2 : ((p : Int) + 1).toNat = p + 1 := by omega
        have q3 : (0 : Int) ≤ (p : Int) + 1 := by omega
        have q5 : p < n := by omega
        have q6 : (p : Int) + 1 < (n : Int) := by omega
        have q7 : decide (0 < (p : Int) + 1) = true := decide_eq_true (by omega)
        clear hc' hpc hcl
        by_cases hcc : c ≤ c'
        · have HE : Hid (rightT l = false) := rightT_at (i := p + 1) HKL.out (by rw [HX.out, HG5.out, decide_eq_false (by omega)]; rfl)
          have d1 : decide (c ≤ c') = true := decide_eq_true hcc
          refine wp_region_calm (RsRel w g ((c, r, e, (x, y, z), f, v, ni, nx, m), ai, ci) b (off + p * 11) c') (by kernel_rfl) (by kernel_rfl) (H3.out.next ((Below.refl _ _).drew)) ?_
          repeat ((with_reducible refine wpQuiet_step (fun K hK => ?_)); go_simp; first | (refine hK _ ?_; clear hK K) | (apply Exists.intro; refine ⟨fun wc hwc => ?_, hK _ ?_⟩; (focus (first | (first | (go_at_call 23; refine (H1.out _).mono ?_; rintro e' w3 ⟨rfl, hb3⟩; exact ⟨rfl, hwc.next hb3⟩)) | (((obtain ⟨x0, x1, x2, x3, x4, x5, x6, x7, x8, x9, x10⟩ := hwc.2.1.2.cell; dsimp only at x0 x1 x2 x3 x4 x5 x6 x7 x8 x9 x10; have y0 := hwc.2.2)); go_simp; done) | (((obtain ⟨x0, x1, x2, x3, x4, x5, x6, x7, x8, x9, x10⟩ := hwc.2.1.2.cell; dsimp only at x0 x1 x2 x3 x4 x5 x6 x7 x8 x9 x10; have y0 := hwc.2.2)); go_simp; exact rfl))); clear hK K))
          refine wpQuiet_nil ?_
          intro wc hwc
          go_wp2_with fail
          go_ret
          exact ⟨by rw [HE.out]; rfl, hwc.2.1.1⟩
        · have HN : Hid (∀ j, j < p + 1 + 1 → rowAt l j = true) := by
            intro j hj
            by_cases hjk : j < p + 1
            · exact hok.out j hjk
            · obtain rfl : j = p + 1 := by omega
              rw [HX.out, HG5.out, decide_eq_true (by omega)]; rfl
          have d1 : decide (c ≤ c') = false := decide_eq_false hcc
          refine wp_region_calm (RsRel w g ((c, r, e, (x, y, z), f, v, ni, nx, m), ai, ci) b (off + p * 11) c') (by kernel_rfl) (by kernel_rfl) (H3.out.next ((Below.refl _ _).drew)) ?_
          repeat ((with_reducible refine wpQuiet_step (fun K hK => ?_)); go_simp; first | (refine hK _ ?_; clear hK K) | (apply Exists.intro; refine ⟨fun wc hwc => ?_, hK _ ?_⟩; (focus (first | (first | (go_at_call 23; refine (H1.out _).mono ?_; rintro e' w3 ⟨rfl, hb3⟩; exact ⟨rfl, hwc.next hb3⟩)) | (((obtain ⟨x0, x1, x2, x3, x4, x5, x6, x7, x8, x9, x10⟩ := hwc.2.1.2.cell; dsimp only at x0 x1 x2 x3 x4 x5 x6 x7 x8 x9 x10; have y0 := hwc.2.2)); go_simp; done) | (((obtain ⟨x0, x1, x2, x3, x4, x5, x6, x7, x8, x9, x10⟩ := hwc.2.1.2.cell; dsimp only at x0 x1 x2 x3 x4 x5 x6 x7 x8 x9 x10; have y0 := hwc.2.2)); go_simp; exact rfl))); clear hK K))
          refine wpQuiet_nil ?_
          intro wc hwc
          go_wp2_with fail
          go_roundw
          case rel => exact ⟨p + 1 + 1, by omega, by go_num, HN, hwc.2.1.1⟩
          case measure => simp [intOf]; omega
    · have HX : Hid (rightT l = true) := rightT_yes (by rw [HL.out]; omega) (fun i hi => hok.out i (by rw [HL.out] at hi; omega))
      go_wp2_with fail
      go_ret
      exact ⟨by rw [HX.out]; rfl, hbel.out⟩

end Go.Proofs.Ytdiabcdpnbhibaa
