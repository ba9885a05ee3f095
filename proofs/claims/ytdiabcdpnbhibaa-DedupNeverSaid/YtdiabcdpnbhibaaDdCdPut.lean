/-
  The contract of dedup.Put.
-/
import Derived.Test.YtdiabcdpnbhibaaDdCdJoin
set_option linter.unusedVariables false
namespace Go.Proofs.Ytdiabcdpnbhibaa
open Go.RowKit

/-! ### What putting is, by places -/
theorem mem_take_dat {l : List Dn} {p : Nat} {x : Dn} (h : x ∈ l.take p) : ∃ i, i < p ∧ i < l.length ∧ dat l i = x := by
  obtain ⟨i, hi, he⟩ := dat_mem h
  rw [List.length_take] at hi
  refine ⟨i, by omega, by omega, ?_⟩
  rw [dat_get (by rw [List.length_take]; omega), List.getElem_take] at he
  rw [dat_get (by omega)]; exact he
theorem mem_drop_dat {l : List Dn} {p : Nat} {x : Dn} (h : x ∈ l.drop p) : ∃ i, p ≤ i ∧ i < l.length ∧ dat l i = x := by
  obtain ⟨i, hi, he⟩ := dat_mem h
  rw [List.length_drop] at hi
  refine ⟨p + i, by omega, by omega, ?_⟩
  rw [dat_get (by rw [List.length_drop]; omega), List.getElem_drop] at he
  rw [dat_get (by omega)]; exact he
theorem filt_low {l : List Dn} {c : Int} {p : Nat} (h : PosT l c p) : l.filter (fun x => decide (dC x < c)) = l.take p := by
  have e : (l.take p ++ l.drop p).filter (fun x => decide (dC x < c)) = l.take p := by
    rw [List.filter_append, List.filter_eq_self.2, List.filter_eq_nil_iff.2, List.append_nil]
    · intro x hx hd
      obtain ⟨i, h1, h2, rfl⟩ := mem_drop_dat hx
      exact h.2.2 i h1 h2 (of_decide_eq_true hd)
    · intro x hx
      obtain ⟨i, h1, h2, rfl⟩ := mem_take_dat hx
      exact decide_eq_true (h.2.1 i h1)
  rwa [List.take_append_drop] at e
theorem filt_high {l : List Dn} {c : Int} {p q : Nat} (hi : incT l) (h : PosT l c p) (hq : p ≤ q) (h1 : ∀ i, i < q → i < l.length → ¬ c < dC (dat l i)) (h2 : ∀ i, q ≤ i → i < l.length → c < dC (dat l i)) : l.filter (fun x => decide (c < dC x)) = l.drop q := by
  have e : (l.take q ++ l.drop q).filter (fun x => decide (c < dC x)) = l.drop q := by
    rw [List.filter_append, List.filter_eq_nil_iff.2, List.filter_eq_self.2, List.nil_append]
    · intro x hx
      obtain ⟨i, h3, h4, rfl⟩ := mem_drop_dat hx
      exact decide_eq_true (h2 i h3 h4)
    · intro x hx hd
      obtain ⟨i, h3, h4, rfl⟩ := mem_take_dat hx
      exact h1 i h3 h4 (of_decide_eq_true hd)
  rwa [List.take_append_drop] at e
theorem inc_lt {l : List Dn} (h : incT l) {i j : Nat} (hj : j < l.length) (hij : i < j) : dC (dat l i) < dC (dat l j) := by
  rw [inc_iff] at h
  have := h i j (by omega) hj hij
  rw [← dat_get, ← dat_get] at this
  exact this
theorem put_no {l : List Dn} {d : Dn} {p : Nat} (hi : incT l) (h : PosT l (dC d) p) (ht : thereT l (dC d) p = false) : putT l d = l.take p ++ [d] ++ l.drop p := by
  have h2 : ¬ (p < l.length ∧ dC (dat l p) = dC d) := of_decide_eq_false ht
  unfold putT
  rw [filt_low h, filt_high hi h (Nat.le_refl _)]
  · simp
  · intro i h3 h4; have := h.2.1 i h3; omega
  · intro i h3 h4
    have h5 := h.2.2 p (Nat.le_refl _) (by omega)
    have h6 : ¬ dC (dat l p) = dC d := fun e => h2 ⟨by omega, e⟩
    rcases Nat.lt_or_ge p i with h7 | h7
    · have := inc_lt hi h4 h7; omega
    · obtain rfl : i = p := by omega
      omega
theorem put_yes {l : List Dn} {d : Dn} {p : Nat} (hi : incT l) (h : PosT l (dC d) p) (hp : p < l.length) (hc : dC (dat l p) = dC d) : putT l d = l.take p ++ [d] ++ l.drop (p + 1) := by
  unfold putT
  rw [filt_low h, filt_high hi h (q := p + 1) (by omega)]
  · simp
  · intro i h3 h4
    rcases Nat.lt_or_ge i p with h5 | h5
    · have := h.2.1 i h5; omega
    · obtain rfl : i = p := by omega
      omega
  · intro i h3 h4
    have := inc_lt hi h4 (show p < i by omega)
    omega

/-! ### Parts of a table, as slicing gives them -/
theorem det_sub {es : List DnV} {k m i : Nat} (h : i < m) : det ((es.drop k).take m) i = det es (k + i) := by
  unfold det
  simp [List.getD, List.getElem?_drop, h]
theorem tabV_sub {w : World} {ao : Option Addr} {n cap : Nat} {es : List DnV} (h : TabV w (.slice ao n cap) es) (k m : Nat) (hk : k + m ≤ n) (a : Option Addr) (c : Nat) (hmc : m ≤ c) (hc : c ≤ maxLen) (ha : 0 < m → ∀ b off, ao = some ⟨b, off, none⟩ → a = some ⟨b, off + k * 11, none⟩) : TabV w (.slice a m c) ((es.drop k).take m) := by
  obtain ⟨ao', cap', e, h1, h2, h3⟩ := h
  injection e with e1 e2 e3
  subst e1
  have hl : ((es.drop k).take m).length = m := by rw [List.length_take, List.length_drop]; omega
  refine ⟨a, c, by rw [hl], by omega, hc, fun hp => ?_⟩
  rw [hl] at hp
  obtain ⟨b, off, e4, h4, h5⟩ := h3 (by omega)
  refine ⟨b, off + k * 11, ha hp b off e4, h4, fun i hi => ?_⟩
  rw [hl] at hi
  rw [det_sub hi, Nat.add_assoc, ← Nat.add_mul]
  exact h5 (k + i) (by omega)

set_option maxRecDepth 100000 in
theorem djoin_lit (w : World) (d : DnV) (a1 a3 : Option Addr) (n1 n3 c1 c3 : Nat) (l1 l3 : List Dn) (h1 : Tab w (.slice a1 n1 c1) l1) (h3 : Tab w (.slice a3 n3 c3) l3) (hs : n1 + n3 ≤ 900) (hN : ∀ x ∈ l1 ++ [d.1] ++ l3, dN x = 0) :
    Calls Try.prog 29 #[.slice (some ⟨w.heap.size + 1, 0, none⟩) 3 3] ((w.alloc (.cells #[.int .i64 d.1.1, .int .i64 d.1.2.1, .int .i64 d.1.2.2.1, .int .i64 d.1.2.2.2.1.1, .int .i64 d.1.2.2.2.1.2.1, .int .i64 d.1.2.2.2.1.2.2, .bool d.1.2.2.2.2.1, .string d.1.2.2.2.2.2.1, .slice d.2.1 d.1.2.2.2.2.2.2.1 d.2.2, .string d.1.2.2.2.2.2.2.2.1, .bool d.1.2.2.2.2.2.2.2.2] 33)).alloc (.cells #[.slice a1 n1 c1, .slice (some ⟨w.heap.size, 0, none⟩) 1 1, .slice a3 n3 c3] 22)) fun e w' => ∃ v', e = .returned v' ∧ SoEnd w (l1 ++ [d.1] ++ l3) v' w' := by
  have hD := DBox.new w d
  generalize hw2 : w.alloc _ = w2 at hD ⊢
  have hs2 : w2.heap.size = w.heap.size + 1 := by rw [← hw2]; simp
  have hb2 : Below w.heap.size w w2 := by rw [← hw2]; exact (Below.refl _ _).alloc (Nat.le_refl _) _
  have hal : Below w2.heap.size w2 (w2.alloc (.cells #[.slice a1 n1 c1, .slice (some ⟨w.heap.size, 0, none⟩) 1 1, .slice a3 n3 c3] 22)) := (Below.refl _ _).alloc (Nat.le_refl _) _
  have hb3 := hb2.trans (hal.mono hb2.size)
  rw [← hs2]
  refine (djoined_three _ w2.heap.size a1 (some ⟨w.heap.size, 0, none⟩) a3 n1 1 n3 c1 1 c3 l1 [d.1] l3 (h1.next hb3) ((tab_lit hD).next hal) (h3.next hb3) (by omega) (by simp) (by simp) (by simp) (by simp) hN).mono ?_
  rintro e w' ⟨v', rfl, h4, h5⟩
  exact ⟨v', rfl, h4, hb3.trans (h5.mono hb3.size)⟩

/-- The row's box, and the request of a row that lies somewhere. -/
def PkRel (w : World) (d : DnV) (b o : Nat) (q : Int) (W : World) : Prop := b < w.heap.size ∧ PbRel w d W ∧ W.cell? ⟨b, o, none⟩ = some (.int .i64 q)
theorem PkRel.next {w W W' : World} {d : DnV} {b o : Nat} {q : Int} (H : PkRel w d b o q W) (hb : Below W.heap.size W W') : PkRel w d b o q W' := by
  obtain ⟨h0, h1, h2⟩ := H
  have := h1.1.size
  exact ⟨h0, h1.next hb, (hb.cell (p := ⟨b, o, none⟩) (by show b < _; omega)).trans h2⟩

set_option maxRecDepth 100000 in
set_option maxHeartbeats 2000000 in
theorem dput_bad (w : World) (c r e x y z : Int) (f : Bool) (vv : ByteArray) (ai : Option Addr) (ni ci : Nat) (nx : ByteArray) (mo : Bool) (v : Value) (g1 g2 : Bool) (hbad : g1 = false ∨ g2 = false) (HR : Hid (∀ W, Below w.heap.size w W → Calls Try.prog 11 #[v] W fun e w' => e = .returned (.bool g1) ∧ Below W.heap.size W w')) (HD : Hid (∀ W, Calls Try.prog 23 #[(Go.Value.agg #[Go.Value.int Go.IntKind.i64 c, Go.Value.int Go.IntKind.i64 r, Go.Value.int Go.IntKind.i64 e, Go.Value.int Go.IntKind.i64 x, Go.Value.int Go.IntKind.i64 y, Go.Value.int Go.IntKind.i64 z, Go.Value.bool f, Go.Value.string vv, Go.Value.slice ai ni ci, Go.Value.string nx, Go.Value.bool mo])] W fun e w' => e = .returned (.bool g2) ∧ Below W.heap.size W w')) :
    Calls Try.prog 17 #[v, (Go.Value.agg #[Go.Value.int Go.IntKind.i64 c, Go.Value.int Go.IntKind.i64 r, Go.Value.int Go.IntKind.i64 e, Go.Value.int Go.IntKind.i64 x, Go.Value.int Go.IntKind.i64 y, Go.Value.int Go.IntKind.i64 z, Go.Value.bool f, Go.Value.string vv, Go.Value.slice ai ni ci, Go.Value.string nx, Go.Value.bool mo])] w fun e' w' => ∃ v', e' = .returned (.tuple #[v', .int .i64 1]) ∧ SoEnd w [] v' w' := by
  have HP0 : Hid (PbRel w ((c, r, e, (x, y, z), f, vv, ni, nx, mo), ai, ci) (w.alloc (.cells #[Go.Value.int Go.IntKind.i64 c, Go.Value.int Go.IntKind.i64 r, Go.Value.int Go.IntKind.i64 e, Go.Value.int Go.IntKind.i64 x, Go.Value.int Go.IntKind.i64 y, Go.Value.int Go.IntKind.i64 z, Go.Value.bool f, Go.Value.string vv, Go.Value.slice ai ni ci, Go.Value.string nx, Go.Value.bool mo] 33))) := PbRel.new w c r e x y z f vv ai ni ci nx mo
  cases g1
  · clear hbad
    go_enter Try.func17, Try.ntmps17
    go_wp2_with fail
    refine (HR.out _ HP0.out.1).mono ?_
    rintro e' w1 ⟨rfl, hb1⟩
    have H6 := Lib.hid (HP0.out.next hb1)
    clear hb1 HP0
    go_wp2_with fail
    go_ret2
    exact ⟨_, rfl, tab_nil _, H6.out.1⟩
  · obtain rfl : g2 = false := by rcases hbad with h | h; cases h; exact h
    clear hbad
    go_enter Try.func17, Try.ntmps17
    go_wp2_with fail
    refine (HR.out _ HP0.out.1).mono ?_
    rintro e' w1 ⟨rfl, hb1⟩
    have H1 := Lib.hid (HP0.out.next hb1)
    clear hb1 HP0
    obtain ⟨x0, x1, x2, x3, x4, x5, x6, x7, x8, x9, x10⟩ := H1.out.2.cell
    dsimp only at x0 x1 x2 x3 x4 x5 x6 x7 x8 x9 x10
    go_wp2_with fail
    refine (HD.out _).mono ?_
    rintro e' w2 ⟨rfl, hb2⟩
    have H2 := Lib.hid (H1.out.next hb2)
    clear hb2 H1 x0 x1 x2 x3 x4 x5 x6 x7 x8 x9 x10
    have H6 := H2
    go_wp2_with fail
    go_ret2
    exact ⟨_, rfl, tab_nil _, H6.out.1⟩

set_option maxRecDepth 100000 in
set_option maxHeartbeats 2000000 in
theorem dput_late (w : World) (c r e x y z : Int) (f : Bool) (vv : ByteArray) (ai : Option Addr) (ni ci : Nat) (nx : ByteArray) (mo : Bool) (b0 off n cap p : Nat) (q : Int) (hpn : p < n) (hnc : n ≤ cap) (hcm : cap ≤ 9223372036854775807) (hq : r ≤ q) (HR : Hid (∀ W, Below w.heap.size w W → Calls Try.prog 11 #[Value.slice (some ⟨b0, off, none⟩) n cap] W fun e w' => e = .returned (.bool true) ∧ Below W.heap.size W w')) (HD : Hid (∀ W, Calls Try.prog 23 #[(Go.Value.agg #[Go.Value.int Go.IntKind.i64 c, Go.Value.int Go.IntKind.i64 r, Go.Value.int Go.IntKind.i64 e, Go.Value.int Go.IntKind.i64 x, Go.Value.int Go.IntKind.i64 y, Go.Value.int Go.IntKind.i64 z, Go.Value.bool f, Go.Value.string vv, Go.Value.slice ai ni ci, Go.Value.string nx, Go.Value.bool mo])] W fun e w' => e = .returned (.bool true) ∧ Below W.heap.size W w')) (HF : Hid (∀ W, Below w.heap.size w W → Calls Try.prog 26 #[Value.slice (some ⟨b0, off, none⟩) n cap, .int .i64 c] W fun e w' => e = .returned (.tuple #[.int .i64 p, .bool true]) ∧ Below W.heap.size W w')) (hb0 : b0 < w.heap.size) (HC : Hid (∀ W, Below w.heap.size w W → W.cell? ⟨b0, off + p * 11 + 1, none⟩ = some (.int .i64 q))) :
    Calls Try.prog 17 #[Value.slice (some ⟨b0, off, none⟩) n cap, (Go.Value.agg #[Go.Value.int Go.IntKind.i64 c, Go.Value.int Go.IntKind.i64 r, Go.Value.int Go.IntKind.i64 e, Go.Value.int Go.IntKind.i64 x, Go.Value.int Go.IntKind.i64 y, Go.Value.int Go.IntKind.i64 z, Go.Value.bool f, Go.Value.string vv, Go.Value.slice ai ni ci, Go.Value.string nx, Go.Value.bool mo])] w fun e' w' => ∃ v', e' = .returned (.tuple #[v', .int .i64 9]) ∧ SoEnd w [] v' w' := by
  have HP0 : Hid (PbRel w ((c, r, e, (x, y, z), f, vv, ni, nx, mo), ai, ci) (w.alloc (.cells #[Go.Value.int Go.IntKind.i64 c, Go.Value.int Go.IntKind.i64 r, Go.Value.int Go.IntKind.i64 e, Go.Value.int Go.IntKind.i64 x, Go.Value.int Go.IntKind.i64 y, Go.Value.int Go.IntKind.i64 z, Go.Value.bool f, Go.Value.string vv, Go.Value.slice ai ni ci, Go.Value.string nx, Go.Value.bool mo] 33))) := PbRel.new w c r e x y z f vv ai ni ci nx mo
  obtain ⟨r2, hr2⟩ : ∃ r2, n - p = r2 := ⟨_, rfl⟩
  obtain ⟨c2, hc2⟩ : ∃ c2, cap - p = c2 := ⟨_, rfl⟩
  have q1 : p ≤ cap := by omega
  have q2 : ¬ p = cap := by omega
  have q22 : ¬ cap = p := by omega
  have q3 : ¬ cap ≤ p := by omega
  have q4 : ¬ c2 = 0 := by omega
  have q5 : p ≤ n := by omega
  have q9 : r2 ≤ c2 := by omega
  have q6 : 1 ≤ r2 := by omega
  have q7 : 0 < r2 := by omega
  have q13 : ¬ r2 = 0 := by omega
  have q14 : (0 : Int) < (r2 : Int) := by omega
  have d1 : decide (r ≤ q) = true := decide_eq_true hq
  clear hq
  go_enter Try.func17, Try.ntmps17
  go_wp2_with fail
  refine (HR.out _ HP0.out.1).mono ?_
  rintro e' w1 ⟨rfl, hb1⟩
  have H1 := Lib.hid (HP0.out.next hb1)
  clear hb1 HP0
  obtain ⟨x0, x1, x2, x3, x4, x5, x6, x7, x8, x9, x10⟩ := H1.out.2.cell
  dsimp only at x0 x1 x2 x3 x4 x5 x6 x7 x8 x9 x10
  go_wp2_with fail
  refine (HD.out _).mono ?_
  rintro e' w2 ⟨rfl, hb2⟩
  have H2 := Lib.hid (H1.out.next hb2)
  clear hb2 H1 x0 x1 x2 x3 x4 x5 x6 x7 x8 x9 x10
  obtain ⟨x0, x1, x2, x3, x4, x5, x6, x7, x8, x9, x10⟩ := H2.out.2.cell
  dsimp only at x0 x1 x2 x3 x4 x5 x6 x7 x8 x9 x10
  go_wp2_with fail
  refine (HF.out _ H2.out.1).mono ?_
  rintro e' w3 ⟨rfl, hb3⟩
  have H3 := Lib.hid (H2.out.next hb3)
  clear hb3 H2 HR HD HF x0 x1 x2 x3 x4 x5 x6 x7 x8 x9 x10
  go_upto_region 4 with (fail)
  refine wp_region_calm (PbRel w ((c, r, e, (x, y, z), f, vv, ni, nx, mo), ai, ci)) (by kernel_rfl) (by kernel_rfl) (H3.out.next ((Below.refl _ _).drew)) ?_
  repeat ((with_reducible refine wpQuiet_step (fun K hK => ?_)); go_simp; first | (refine hK _ ?_; clear hK K) | (apply Exists.intro; refine ⟨fun wc hwc => ?_, hK _ ?_⟩; (focus (first | (fail) | ((skip); go_simp; done) | ((skip); go_simp; exact rfl))); clear hK K))
  refine wpQuiet_nil ?_
  intro wc hwc
  have H4 := Lib.hid hwc
  clear hwc H3
  have H5 : Hid (PkRel w ((c, r, e, (x, y, z), f, vv, ni, nx, mo), ai, ci) b0 (off + p * 11 + 1) q wc) := ⟨hb0, H4.out, HC.out _ H4.out.1⟩
  clear H4 HC
  go_upto_region 5 with (fail)
  refine wp_region_calm (PkRel w ((c, r, e, (x, y, z), f, vv, ni, nx, mo), ai, ci) b0 (off + p * 11 + 1) q) (by kernel_rfl) (by kernel_rfl) (H5.out.next ((Below.refl _ _).drew)) ?_
  repeat ((with_reducible refine wpQuiet_step (fun K hK => ?_)); go_simp; first | (refine hK _ ?_; clear hK K) | (apply Exists.intro; refine ⟨fun wc hwc => ?_, hK _ ?_⟩; (focus (first | (fail) | (((have z0 := hwc.2.2; have y0 := hwc.2.1.2.cell.2.1; dsimp only at y0)); go_simp; done) | (((have z0 := hwc.2.2; have y0 := hwc.2.1.2.cell.2.1; dsimp only at y0)); go_simp; exact rfl))); clear hK K))
  refine wpQuiet_nil ?_
  intro wc hwc
  have H6 := Lib.hid hwc.2.1
  clear hwc H5
  go_wp2_with fail
  go_ret2
  exact ⟨_, rfl, tab_nil _, H6.out.1⟩

set_option maxRecDepth 100000 in
set_option maxHeartbeats 2000000 in
theorem dput_full (w : World) (c r e x y z : Int) (f : Bool) (vv : ByteArray) (ai : Option Addr) (ni ci : Nat) (nx : ByteArray) (mo : Bool) (b0 off n cap p : Nat) (HN8 : Hid (n = 8)) (hpn : p ≤ n) (hnc : n ≤ cap) (hcm : cap ≤ 9223372036854775807) (HR : Hid (∀ W, Below w.heap.size w W → Calls Try.prog 11 #[Value.slice (some ⟨b0, off, none⟩) n cap] W fun e w' => e = .returned (.bool true) ∧ Below W.heap.size W w')) (HD : Hid (∀ W, Calls Try.prog 23 #[(Go.Value.agg #[Go.Value.int Go.IntKind.i64 c, Go.Value.int Go.IntKind.i64 r, Go.Value.int Go.IntKind.i64 e, Go.Value.int Go.IntKind.i64 x, Go.Value.int Go.IntKind.i64 y, Go.Value.int Go.IntKind.i64 z, Go.Value.bool f, Go.Value.string vv, Go.Value.slice ai ni ci, Go.Value.string nx, Go.Value.bool mo])] W fun e w' => e = .returned (.bool true) ∧ Below W.heap.size W w')) (HF : Hid (∀ W, Below w.heap.size w W → Calls Try.prog 26 #[Value.slice (some ⟨b0, off, none⟩) n cap, .int .i64 c] W fun e w' => e = .returned (.tuple #[.int .i64 p, .bool false]) ∧ Below W.heap.size W w')) :
    Calls Try.prog 17 #[Value.slice (some ⟨b0, off, none⟩) n cap, (Go.Value.agg #[Go.Value.int Go.IntKind.i64 c, Go.Value.int Go.IntKind.i64 r, Go.Value.int Go.IntKind.i64 e, Go.Value.int Go.IntKind.i64 x, Go.Value.int Go.IntKind.i64 y, Go.Value.int Go.IntKind.i64 z, Go.Value.bool f, Go.Value.string vv, Go.Value.slice ai ni ci, Go.Value.string nx, Go.Value.bool mo])] w fun e' w' => ∃ v', e' = .returned (.tuple #[v', .int .i64 6]) ∧ SoEnd w [] v' w' := by
  have HP0 : Hid (PbRel w ((c, r, e, (x, y, z), f, vv, ni, nx, mo), ai, ci) (w.alloc (.cells #[Go.Value.int Go.IntKind.i64 c, Go.Value.int Go.IntKind.i64 r, Go.Value.int Go.IntKind.i64 e, Go.Value.int Go.IntKind.i64 x, Go.Value.int Go.IntKind.i64 y, Go.Value.int Go.IntKind.i64 z, Go.Value.bool f, Go.Value.string vv, Go.Value.slice ai ni ci, Go.Value.string nx, Go.Value.bool mo] 33))) := PbRel.new w c r e x y z f vv ai ni ci nx mo
  rcases Nat.lt_or_ge p cap with hlt | hge
  · obtain ⟨r2, hr2⟩ : ∃ r2, n - p = r2 := ⟨_, rfl⟩
    obtain ⟨c2, hc2⟩ : ∃ c2, cap - p = c2 := ⟨_, rfl⟩
    have q1 : p ≤ cap := by omega
    have q2 : ¬ p = cap := by omega
    have q22 : ¬ cap = p := by omega
    have q3 : ¬ cap ≤ p := by omega
    have q4 : ¬ c2 = 0 := by omega
    have q5 : p ≤ n := by omega
    have q9 : r2 ≤ c2 := by omega
    have d8 : ((n : Int) == 8) = true := by rw [HN8.out]; rfl
    go_enter Try.func17, Try.ntmps17
    go_wp2_with fail
    refine (HR.out _ HP0.out.1).mono ?_
    rintro e' w1 ⟨rfl, hb1⟩
    have H1 := Lib.hid (HP0.out.next hb1)
    clear hb1 HP0
    obtain ⟨x0, x1, x2, x3, x4, x5, x6, x7, x8, x9, x10⟩ := H1.out.2.cell
    dsimp only at x0 x1 x2 x3 x4 x5 x6 x7 x8 x9 x10
    go_wp2_with fail
    refine (HD.out _).mono ?_
    rintro e' w2 ⟨rfl, hb2⟩
    have H2 := Lib.hid (H1.out.next hb2)
    clear hb2 H1 x0 x1 x2 x3 x4 x5 x6 x7 x8 x9 x10
    obtain ⟨x0, x1, x2, x3, x4, x5, x6, x7, x8, x9, x10⟩ := H2.out.2.cell
    dsimp only at x0 x1 x2 x3 x4 x5 x6 x7 x8 x9 x10
    go_wp2_with fail
    refine (HF.out _ H2.out.1).mono ?_
    rintro e' w3 ⟨rfl, hb3⟩
    have H3 := Lib.hid (H2.out.next hb3)
    clear hb3 H2 HR HD HF x0 x1 x2 x3 x4 x5 x6 x7 x8 x9 x10
    go_upto_region 4 with (fail)
    refine wp_region_calm (PbRel w ((c, r, e, (x, y, z), f, vv, ni, nx, mo), ai, ci)) (by kernel_rfl) (by kernel_rfl) (H3.out.next ((Below.refl _ _).drew)) ?_
    repeat ((with_reducible refine wpQuiet_step (fun K hK => ?_)); go_simp; first | (refine hK _ ?_; clear hK K) | (apply Exists.intro; refine ⟨fun wc hwc => ?_, hK _ ?_⟩; (focus (first | (fail) | ((skip); go_simp; done) | ((skip); go_simp; exact rfl))); clear hK K))
    refine wpQuiet_nil ?_
    intro wc hwc
    have H4 := Lib.hid hwc
    clear hwc H3
    go_upto_region 5 with (fail)
    refine wp_region_calm (PbRel w ((c, r, e, (x, y, z), f, vv, ni, nx, mo), ai, ci)) (by kernel_rfl) (by kernel_rfl) (H4.out.next ((Below.refl _ _).drew)) ?_
    repeat ((with_reducible refine wpQuiet_step (fun K hK => ?_)); go_simp; first | (refine hK _ ?_; clear hK K) | (apply Exists.intro; refine ⟨fun wc hwc => ?_, hK _ ?_⟩; (focus (first | (fail) | ((skip); go_simp; done) | ((skip); go_simp; exact rfl))); clear hK K))
    refine wpQuiet_nil ?_
    intro wc hwc
    have H6 := Lib.hid hwc
    clear hwc H4
    go_wp2_with fail
    go_ret2
    exact ⟨_, rfl, tab_nil _, H6.out.1⟩
  · obtain rfl : p = cap := by omega
    obtain rfl : p = n := by omega
    have d8 : ((p : Int) == 8) = true := by rw [HN8.out]; rfl
    go_enter Try.func17, Try.ntmps17
    go_wp2_with fail
    refine (HR.out _ HP0.out.1).mono ?_
    rintro e' w1 ⟨rfl, hb1⟩
    have H1 := Lib.hid (HP0.out.next hb1)
    clear hb1 HP0
    obtain ⟨x0, x1, x2, x3, x4, x5, x6, x7, x8, x9, x10⟩ := H1.out.2.cell
    dsimp only at x0 x1 x2 x3 x4 x5 x6 x7 x8 x9 x10
    go_wp2_with fail
    refine (HD.out _).mono ?_
    rintro e' w2 ⟨rfl, hb2⟩
    have H2 := Lib.hid (H1.out.next hb2)
    clear hb2 H1 x0 x1 x2 x3 x4 x5 x6 x7 x8 x9 x10
    obtain ⟨x0, x1, x2, x3, x4, x5, x6, x7, x8, x9, x10⟩ := H2.out.2.cell
    dsimp only at x0 x1 x2 x3 x4 x5 x6 x7 x8 x9 x10
    go_wp2_with fail
    refine (HF.out _ H2.out.1).mono ?_
    rintro e' w3 ⟨rfl, hb3⟩
    have H3 := Lib.hid (H2.out.next hb3)
    clear hb3 H2 HR HD HF x0 x1 x2 x3 x4 x5 x6 x7 x8 x9 x10
    go_upto_region 4 with (fail)
    refine wp_region_calm (PbRel w ((c, r, e, (x, y, z), f, vv, ni, nx, mo), ai, ci)) (by kernel_rfl) (by kernel_rfl) (H3.out.next ((Below.refl _ _).drew)) ?_
    repeat ((with_reducible refine wpQuiet_step (fun K hK => ?_)); go_simp; first | (refine hK _ ?_; clear hK K) | (apply Exists.intro; refine ⟨fun wc hwc => ?_, hK _ ?_⟩; (focus (first | (fail) | ((skip); go_simp; done) | ((skip); go_simp; exact rfl))); clear hK K))
    refine wpQuiet_nil ?_
    intro wc hwc
    have H4 := Lib.hid hwc
    clear hwc H3
    go_upto_region 5 with (fail)
    refine wp_region_calm (PbRel w ((c, r, e, (x, y, z), f, vv, ni, nx, mo), ai, ci)) (by kernel_rfl) (by kernel_rfl) (H4.out.next ((Below.refl _ _).drew)) ?_
    repeat ((with_reducible refine wpQuiet_step (fun K hK => ?_)); go_simp; first | (refine hK _ ?_; clear hK K) | (apply Exists.intro; refine ⟨fun wc hwc => ?_, hK _ ?_⟩; (focus (first | (fail) | ((skip); go_simp; done) | ((skip); go_simp; exact rfl))); clear hK K))
    refine wpQuiet_nil ?_
    intro wc hwc
    have H6 := Lib.hid hwc
    clear hwc H4
    go_wp2_with fail
    go_ret2
    exact ⟨_, rfl, tab_nil _, H6.out.1⟩

set_option maxRecDepth 100000 in
set_option maxHeartbeats 4000000 in
theorem dput_over (w : World) (c r e x y z : Int) (f : Bool) (vv : ByteArray) (ai : Option Addr) (ni ci : Nat) (nx : ByteArray) (mo : Bool) (b0 off n cap p : Nat) (q : Int) (hpn : p < n) (hnc : n ≤ cap) (hcm : cap ≤ 9223372036854775807) (l : List Dn) (hn8 : n ≤ 8) (hml : maxLen ≤ 9223372036854775807) (hcl : cap ≤ maxLen) (hq : q < r) (HR : Hid (∀ W, Below w.heap.size w W → Calls Try.prog 11 #[Value.slice (some ⟨b0, off, none⟩) n cap] W fun e w' => e = .returned (.bool true) ∧ Below W.heap.size W w')) (HD : Hid (∀ W, Calls Try.prog 23 #[(Go.Value.agg #[Go.Value.int Go.IntKind.i64 c, Go.Value.int Go.IntKind.i64 r, Go.Value.int Go.IntKind.i64 e, Go.Value.int Go.IntKind.i64 x, Go.Value.int Go.IntKind.i64 y, Go.Value.int Go.IntKind.i64 z, Go.Value.bool f, Go.Value.string vv, Go.Value.slice ai ni ci, Go.Value.string nx, Go.Value.bool mo])] W fun e w' => e = .returned (.bool true) ∧ Below W.heap.size W w')) (HF : Hid (∀ W, Below w.heap.size w W → Calls Try.prog 26 #[Value.slice (some ⟨b0, off, none⟩) n cap, .int .i64 c] W fun e w' => e = .returned (.tuple #[.int .i64 p, .bool true]) ∧ Below W.heap.size W w')) (hb0 : b0 < w.heap.size) (HC : Hid (∀ W, Below w.heap.size w W → W.cell? ⟨b0, off + p * 11 + 1, none⟩ = some (.int .i64 q))) (HN0 : Hid (∀ u ∈ l.take p ++ [(c, r, e, (x, y, z), f, vv, ni, nx, mo)] ++ l.drop (p + 1), dN u = 0)) (HT1 : Hid (∀ W (a : Option Addr) (k : Nat), Below w.heap.size w W → p ≤ k → k ≤ maxLen → (0 < p → a = some ⟨b0, off, none⟩) → Tab W (.slice a p k) (l.take p))) (HT3 : Hid (∀ W (a : Option Addr) (m k : Nat), Below w.heap.size w W → m = n - (p + 1) → m ≤ k → k ≤ maxLen → (0 < m → ∀ b1 off1, some (⟨b0, off, none⟩ : Addr) = some ⟨b1, off1, none⟩ → a = some ⟨b1, off1 + (p + 1) * 11, none⟩) → Tab W (.slice a m k) (l.drop (p + 1)))) :
    Calls Try.prog 17 #[Value.slice (some ⟨b0, off, none⟩) n cap, (Go.Value.agg #[Go.Value.int Go.IntKind.i64 c, Go.Value.int Go.IntKind.i64 r, Go.Value.int Go.IntKind.i64 e, Go.Value.int Go.IntKind.i64 x, Go.Value.int Go.IntKind.i64 y, Go.Value.int Go.IntKind.i64 z, Go.Value.bool f, Go.Value.string vv, Go.Value.slice ai ni ci, Go.Value.string nx, Go.Value.bool mo])] w fun e' w' => ∃ v', e' = .returned (.tuple #[v', .int .i64 0]) ∧ SoEnd w (l.take p ++ [(c, r, e, (x, y, z), f, vv, ni, nx, mo)] ++ l.drop (p + 1)) v' w' := by
  have HP0 : Hid (PbRel w ((c, r, e, (x, y, z), f, vv, ni, nx, mo), ai, ci) (w.alloc (.cells #[Go.Value.int Go.IntKind.i64 c, Go.Value.int Go.IntKind.i64 r, Go.Value.int Go.IntKind.i64 e, Go.Value.int Go.IntKind.i64 x, Go.Value.int Go.IntKind.i64 y, Go.Value.int Go.IntKind.i64 z, Go.Value.bool f, Go.Value.string vv, Go.Value.slice ai ni ci, Go.Value.string nx, Go.Value.bool mo] 33))) := PbRel.new w c r e x y z f vv ai ni ci nx mo
  obtain ⟨r2, hr2⟩ : ∃ r2, n - p = r2 := ⟨_, rfl⟩
  obtain ⟨c2, hc2⟩ : ∃ c2, cap - p = c2 := ⟨_, rfl⟩
  have q1 : p ≤ cap := by omega
  have q2 : ¬ p = cap := by omega
  have q22 : ¬ cap = p := by omega
  have q3 : ¬ cap ≤ p := by omega
  have q4 : ¬ c2 = 0 := by omega
  have q5 : p ≤ n := by omega
  have q9 : r2 ≤ c2 := by omega
  have q6 : 1 ≤ r2 := by omega
  have q7 : 0 < r2 := by omega
  have q13 : ¬ r2 = 0 := by omega
  have q14 : (0 : Int) < (r2 : Int) := by omega
  obtain ⟨r3, hr3⟩ : ∃ r3, r2 - 1 = r3 := ⟨_, rfl⟩
  obtain ⟨c3, hc3⟩ : ∃ c3, c2 - 1 = c3 := ⟨_, rfl⟩
  have q8 : 1 ≤ c2 := by omega
  have q15 : ¬ (r2 : Int) < 1 := by omega
  have q16 : (1 : Int) ≤ (r2 : Int) := by omega
  have q17 : ¬ c2 < r2 := by omega
  have HQ : Hid (c2 = c3 + 1) := by show _ = _; omega
  have d1 : decide (r ≤ q) = false := decide_eq_false (by omega)
  rcases Nat.eq_zero_or_pos c3 with h0 | h0
  · subst h0
    obtain rfl : c2 = 1 := HQ.out
    clear hc3
    go_enter Try.func17, Try.ntmps17
    go_wp2_with fail
    refine (HR.out _ HP0.out.1).mono ?_
    rintro e' w1 ⟨rfl, hb1⟩
    have H1 := Lib.hid (HP0.out.next hb1)
    clear hb1 HP0
    obtain ⟨x0, x1, x2, x3, x4, x5, x6, x7, x8, x9, x10⟩ := H1.out.2.cell
    dsimp only at x0 x1 x2 x3 x4 x5 x6 x7 x8 x9 x10
    go_wp2_with fail
    refine (HD.out _).mono ?_
    rintro e' w2 ⟨rfl, hb2⟩
    have H2 := Lib.hid (H1.out.next hb2)
    clear hb2 H1 x0 x1 x2 x3 x4 x5 x6 x7 x8 x9 x10
    obtain ⟨x0, x1, x2, x3, x4, x5, x6, x7, x8, x9, x10⟩ := H2.out.2.cell
    dsimp only at x0 x1 x2 x3 x4 x5 x6 x7 x8 x9 x10
    go_wp2_with fail
    refine (HF.out _ H2.out.1).mono ?_
    rintro e' w3 ⟨rfl, hb3⟩
    have H3 := Lib.hid (H2.out.next hb3)
    clear hb3 H2 HR HD HF x0 x1 x2 x3 x4 x5 x6 x7 x8 x9 x10
    go_upto_region 4 with (fail)
    refine wp_region_calm (PbRel w ((c, r, e, (x, y, z), f, vv, ni, nx, mo), ai, ci)) (by kernel_rfl) (by kernel_rfl) (H3.out.next ((Below.refl _ _).drew)) ?_
    repeat ((with_reducible refine wpQuiet_step (fun K hK => ?_)); go_simp; first | (refine hK _ ?_; clear hK K) | (apply Exists.intro; refine ⟨fun wc hwc => ?_, hK _ ?_⟩; (focus (first | (fail) | ((skip); go_simp; done) | ((skip); go_simp; exact rfl))); clear hK K))
    refine wpQuiet_nil ?_
    intro wc hwc
    have H4 := Lib.hid hwc
    clear hwc H3
    have H5 : Hid (PkRel w ((c, r, e, (x, y, z), f, vv, ni, nx, mo), ai, ci) b0 (off + p * 11 + 1) q wc) := ⟨hb0, H4.out, HC.out _ H4.out.1⟩
    clear H4 HC
    go_upto_region 5 with (fail)
    refine wp_region_calm (PkRel w ((c, r, e, (x, y, z), f, vv, ni, nx, mo), ai, ci) b0 (off + p * 11 + 1) q) (by kernel_rfl) (by kernel_rfl) (H5.out.next ((Below.refl _ _).drew)) ?_
    repeat ((with_reducible refine wpQuiet_step (fun K hK => ?_)); go_simp; first | (refine hK _ ?_; clear hK K) | (apply Exists.intro; refine ⟨fun wc hwc => ?_, hK _ ?_⟩; (focus (first | (fail) | (((have z0 := hwc.2.2; have y0 := hwc.2.1.2.cell.2.1; dsimp only at y0)); go_simp; done) | (((have z0 := hwc.2.2; have y0 := hwc.2.1.2.cell.2.1; dsimp only at y0)); go_simp; exact rfl))); clear hK K))
    refine wpQuiet_nil ?_
    intro wc hwc
    have H6 := Lib.hid hwc.2.1
    clear hwc H5
    obtain ⟨x0, x1, x2, x3, x4, x5, x6, x7, x8, x9, x10⟩ := H6.out.2.cell
    dsimp only at x0 x1 x2 x3 x4 x5 x6 x7 x8 x9 x10
    go_wp2_with fail
    refine (djoin_lit _ ((c, r, e, (x, y, z), f, vv, ni, nx, mo), ai, ci) _ _ _ _ _ _ (l.take p) (l.drop (p + 1)) (HT1.out _ _ _ H6.out.1 (by omega) (by omega) (by intro h; first | rfl | omega)) (HT3.out _ _ _ _ H6.out.1 (by omega) (by omega) (by omega) (by intro h; first | rfl | omega | (intro b1 off1 he; injection he with he; injection he with he1 he2; subst he1; subst he2; first | rfl | (congr 2; omega)))) (by omega) HN0.out).mono ?_
    rintro e' w9 ⟨v9, rfl, ht9, hb9⟩
    have H9 : Hid (SoEnd w (l.take p ++ [(c, r, e, (x, y, z), f, vv, ni, nx, mo)] ++ l.drop (p + 1)) v9 w9) := ⟨ht9, H6.out.1.trans (hb9.mono H6.out.1.size)⟩
    clear ht9 hb9 H6 HT1 HT3 x0 x1 x2 x3 x4 x5 x6 x7 x8 x9 x10
    go_wp2_with fail
    go_ret2
    exact ⟨v9, rfl, H9.out⟩
  · have q10 : ¬ c3 = 0 := by omega
    have q11 : ¬ c2 ≤ 1 := by omega
    have q12 : ¬ c2 = 1 := by omega
    go_enter Try.func17, Try.ntmps17
    go_wp2_with fail
    refine (HR.out _ HP0.out.1).mono ?_
    rintro e' w1 ⟨rfl, hb1⟩
    have H1 := Lib.hid (HP0.out.next hb1)
    clear hb1 HP0
    obtain ⟨x0, x1, x2, x3, x4, x5, x6, x7, x8, x9, x10⟩ := H1.out.2.cell
    dsimp only at x0 x1 x2 x3 x4 x5 x6 x7 x8 x9 x10
    go_wp2_with fail
    refine (HD.out _).mono ?_
    rintro e' w2 ⟨rfl, hb2⟩
    have H2 := Lib.hid (H1.out.next hb2)
    clear hb2 H1 x0 x1 x2 x3 x4 x5 x6 x7 x8 x9 x10
    obtain ⟨x0, x1, x2, x3, x4, x5, x6, x7, x8, x9, x10⟩ := H2.out.2.cell
    dsimp only at x0 x1 x2 x3 x4 x5 x6 x7 x8 x9 x10
    go_wp2_with fail
    refine (HF.out _ H2.out.1).mono ?_
    rintro e' w3 ⟨rfl, hb3⟩
    have H3 := Lib.hid (H2.out.next hb3)
    clear hb3 H2 HR HD HF x0 x1 x2 x3 x4 x5 x6 x7 x8 x9 x10
    go_upto_region 4 with (fail)
    refine wp_region_calm (PbRel w ((c, r, e, (x, y, z), f, vv, ni, nx, mo), ai, ci)) (by kernel_rfl) (by kernel_rfl) (H3.out.next ((Below.refl _ _).drew)) ?_
    repeat ((with_reducible refine wpQuiet_step (fun K hK => ?_)); go_simp; first | (refine hK _ ?_; clear hK K) | (apply Exists.intro; refine ⟨fun wc hwc => ?_, hK _ ?_⟩; (focus (first | (fail) | ((skip); go_simp; done) | ((skip); go_simp; exact rfl))); clear hK K))
    refine wpQuiet_nil ?_
    intro wc hwc
    have H4 := Lib.hid hwc
    clear hwc H3
    have H5 : Hid (PkRel w ((c, r, e, (x, y, z), f, vv, ni, nx, mo), ai, ci) b0 (off + p * 11 + 1) q wc) := ⟨hb0, H4.out, HC.out _ H4.out.1⟩
    clear H4 HC
    go_upto_region 5 with (fail)
    refine wp_region_calm (PkRel w ((c, r, e, (x, y, z), f, vv, ni, nx, mo), ai, ci) b0 (off + p * 11 + 1) q) (by kernel_rfl) (by kernel_rfl) (H5.out.next ((Below.refl _ _).drew)) ?_
    repeat ((with_reducible refine wpQuiet_step (fun K hK => ?_)); go_simp; first | (refine hK _ ?_; clear hK K) | (apply Exists.intro; refine ⟨fun wc hwc => ?_, hK _ ?_⟩; (focus (first | (fail) | (((have z0 := hwc.2.2; have y0 := hwc.2.1.2.cell.2.1; dsimp only at y0)); go_simp; done) | (((have z0 := hwc.2.2; have y0 := hwc.2.1.2.cell.2.1; dsimp only at y0)); go_simp; exact rfl))); clear hK K))
    refine wpQuiet_nil ?_
    intro wc hwc
    have H6 := Lib.hid hwc.2.1
    clear hwc H5
    obtain ⟨x0, x1, x2, x3, x4, x5, x6, x7, x8, x9, x10⟩ := H6.out.2.cell
    dsimp only at x0 x1 x2 x3 x4 x5 x6 x7 x8 x9 x10
    go_wp2_with fail
    refine (djoin_lit _ ((c, r, e, (x, y, z), f, vv, ni, nx, mo), ai, ci) _ _ _ _ _ _ (l.take p) (l.drop (p + 1)) (HT1.out _ _ _ H6.out.1 (by omega) (by omega) (by intro h; first | rfl | omega)) (HT3.out _ _ _ _ H6.out.1 (by omega) (by omega) (by omega) (by intro h; first | rfl | omega | (intro b1 off1 he; injection he with he; injection he with he1 he2; subst he1; subst he2; first | rfl | (congr 2; omega)))) (by omega) HN0.out).mono ?_
    rintro e' w9 ⟨v9, rfl, ht9, hb9⟩
    have H9 : Hid (SoEnd w (l.take p ++ [(c, r, e, (x, y, z), f, vv, ni, nx, mo)] ++ l.drop (p + 1)) v9 w9) := ⟨ht9, H6.out.1.trans (hb9.mono H6.out.1.size)⟩
    clear ht9 hb9 H6 HT1 HT3 x0 x1 x2 x3 x4 x5 x6 x7 x8 x9 x10
    go_wp2_with fail
    go_ret2
    exact ⟨v9, rfl, H9.out⟩

set_option maxRecDepth 100000 in
set_option maxHeartbeats 4000000 in
theorem dput_new (w : World) (c r e x y z : Int) (f : Bool) (vv : ByteArray) (ai : Option Addr) (ni ci : Nat) (nx : ByteArray) (mo : Bool) (ao : Option Addr) (n cap p : Nat) (l : List Dn) (hpn : p ≤ n) (hnc : n ≤ cap) (hcm : cap ≤ 9223372036854775807) (hn8 : n < 8) (hml : maxLen ≤ 9223372036854775807) (hcl : cap ≤ maxLen) (hao : (ao = none ∧ n = 0) ∨ (n = 0 ∧ ∃ ad, ao = some ad) ∨ ∃ b0 off, ao = some ⟨b0, off, none⟩) (HR : Hid (∀ W, Below w.heap.size w W → Calls Try.prog 11 #[Value.slice ao n cap] W fun e w' => e = .returned (.bool true) ∧ Below W.heap.size W w')) (HD : Hid (∀ W, Calls Try.prog 23 #[(Go.Value.agg #[Go.Value.int Go.IntKind.i64 c, Go.Value.int Go.IntKind.i64 r, Go.Value.int Go.IntKind.i64 e, Go.Value.int Go.IntKind.i64 x, Go.Value.int Go.IntKind.i64 y, Go.Value.int Go.IntKind.i64 z, Go.Value.bool f, Go.Value.string vv, Go.Value.slice ai ni ci, Go.Value.string nx, Go.Value.bool mo])] W fun e w' => e = .returned (.bool true) ∧ Below W.heap.size W w')) (HF : Hid (∀ W, Below w.heap.size w W → Calls Try.prog 26 #[Value.slice ao n cap, .int .i64 c] W fun e w' => e = .returned (.tuple #[.int .i64 p, .bool false]) ∧ Below W.heap.size W w')) (HN0 : Hid (∀ u ∈ l.take p ++ [(c, r, e, (x, y, z), f, vv, ni, nx, mo)] ++ l.drop p, dN u = 0)) (HT1 : Hid (∀ W (a : Option Addr) (k : Nat), Below w.heap.size w W → p ≤ k → k ≤ maxLen → (0 < p → a = ao) → Tab W (.slice a p k) (l.take p))) (HT3 : Hid (∀ W (a : Option Addr) (m k : Nat), Below w.heap.size w W → m = n - p → m ≤ k → k ≤ maxLen → (0 < m → ∀ b off, ao = some ⟨b, off, none⟩ → a = some ⟨b, off + p * 11, none⟩) → Tab W (.slice a m k) (l.drop p))) :
    Calls Try.prog 17 #[Value.slice ao n cap, (Go.Value.agg #[Go.Value.int Go.IntKind.i64 c, Go.Value.int Go.IntKind.i64 r, Go.Value.int Go.IntKind.i64 e, Go.Value.int Go.IntKind.i64 x, Go.Value.int Go.IntKind.i64 y, Go.Value.int Go.IntKind.i64 z, Go.Value.bool f, Go.Value.string vv, Go.Value.slice ai ni ci, Go.Value.string nx, Go.Value.bool mo])] w fun e' w' => ∃ v', e' = .returned (.tuple #[v', .int .i64 0]) ∧ SoEnd w (l.take p ++ [(c, r, e, (x, y, z), f, vv, ni, nx, mo)] ++ l.drop p) v' w' := by
  have HP0 : Hid (PbRel w ((c, r, e, (x, y, z), f, vv, ni, nx, mo), ai, ci) (w.alloc (.cells #[Go.Value.int Go.IntKind.i64 c, Go.Value.int Go.IntKind.i64 r, Go.Value.int Go.IntKind.i64 e, Go.Value.int Go.IntKind.i64 x, Go.Value.int Go.IntKind.i64 y, Go.Value.int Go.IntKind.i64 z, Go.Value.bool f, Go.Value.string vv, Go.Value.slice ai ni ci, Go.Value.string nx, Go.Value.bool mo] 33))) := PbRel.new w c r e x y z f vv ai ni ci nx mo
  rcases hao with ⟨rfl, rfl⟩ | ⟨rfl, ad, rfl⟩ | ⟨b0, off, rfl⟩
  · obtain rfl : p = 0 := by omega
    go_enter Try.func17, Try.ntmps17
    go_wp2_with fail
    refine (HR.out _ HP0.out.1).mono ?_
    rintro e' w1 ⟨rfl, hb1⟩
    have H1 := Lib.hid (HP0.out.next hb1)
    clear hb1 HP0
    obtain ⟨x0, x1, x2, x3, x4, x5, x6, x7, x8, x9, x10⟩ := H1.out.2.cell
    dsimp only at x0 x1 x2 x3 x4 x5 x6 x7 x8 x9 x10
    go_wp2_with fail
    refine (HD.out _).mono ?_
    rintro e' w2 ⟨rfl, hb2⟩
    have H2 := Lib.hid (H1.out.next hb2)
    clear hb2 H1 x0 x1 x2 x3 x4 x5 x6 x7 x8 x9 x10
    obtain ⟨x0, x1, x2, x3, x4, x5, x6, x7, x8, x9, x10⟩ := H2.out.2.cell
    dsimp only at x0 x1 x2 x3 x4 x5 x6 x7 x8 x9 x10
    go_wp2_with fail
    refine (HF.out _ H2.out.1).mono ?_
    rintro e' w3 ⟨rfl, hb3⟩
    have H3 := Lib.hid (H2.out.next hb3)
    clear hb3 H2 HR HD HF x0 x1 x2 x3 x4 x5 x6 x7 x8 x9 x10
    go_upto_region 4 with (fail)
    refine wp_region_calm (PbRel w ((c, r, e, (x, y, z), f, vv, ni, nx, mo), ai, ci)) (by kernel_rfl) (by kernel_rfl) (H3.out.next ((Below.refl _ _).drew)) ?_
    repeat ((with_reducible refine wpQuiet_step (fun K hK => ?_)); go_simp; first | (refine hK _ ?_; clear hK K) | (apply Exists.intro; refine ⟨fun wc hwc => ?_, hK _ ?_⟩; (focus (first | (fail) | ((skip); go_simp; done) | ((skip); go_simp; exact rfl))); clear hK K))
    refine wpQuiet_nil ?_
    intro wc hwc
    have H4 := Lib.hid hwc
    clear hwc H3
    go_upto_region 5 with (fail)
    refine wp_region_calm (PbRel w ((c, r, e, (x, y, z), f, vv, ni, nx, mo), ai, ci)) (by kernel_rfl) (by kernel_rfl) (H4.out.next ((Below.refl _ _).drew)) ?_
    repeat ((with_reducible refine wpQuiet_step (fun K hK => ?_)); go_simp; first | (refine hK _ ?_; clear hK K) | (apply Exists.intro; refine ⟨fun wc hwc => ?_, hK _ ?_⟩; (focus (first | (fail) | ((skip); go_simp; done) | ((skip); go_simp; exact rfl))); clear hK K))
    refine wpQuiet_nil ?_
    intro wc hwc
    have H6 := Lib.hid hwc
    clear hwc H4
    obtain ⟨x0, x1, x2, x3, x4, x5, x6, x7, x8, x9, x10⟩ := H6.out.2.cell
    dsimp only at x0 x1 x2 x3 x4 x5 x6 x7 x8 x9 x10
    go_wp2_with fail
    refine (djoin_lit _ ((c, r, e, (x, y, z), f, vv, ni, nx, mo), ai, ci) _ _ _ _ _ _ (l.take 0) (l.drop 0) (HT1.out _ _ _ H6.out.1 (by omega) (by omega) (by intro h; first | rfl | omega)) (HT3.out _ _ _ _ H6.out.1 (by omega) (by omega) (by omega) (by intro h; first | rfl | omega | (intro b1 off1 he; injection he with he; injection he with he1 he2; subst he1; subst he2; first | rfl | (congr 2; omega)))) (by omega) HN0.out).mono ?_
    rintro e' w9 ⟨v9, rfl, ht9, hb9⟩
    have H9 : Hid (SoEnd w (l.take 0 ++ [(c, r, e, (x, y, z), f, vv, ni, nx, mo)] ++ l.drop 0) v9 w9) := ⟨ht9, H6.out.1.trans (hb9.mono H6.out.1.size)⟩
    clear ht9 hb9 H6 HT1 HT3 x0 x1 x2 x3 x4 x5 x6 x7 x8 x9 x10
    go_wp2_with fail
    go_ret2
    exact ⟨v9, rfl, H9.out⟩
  · obtain rfl : p = 0 := by omega
    go_enter Try.func17, Try.ntmps17
    go_wp2_with fail
    refine (HR.out _ HP0.out.1).mono ?_
    rintro e' w1 ⟨rfl, hb1⟩
    have H1 := Lib.hid (HP0.out.next hb1)
    clear hb1 HP0
    obtain ⟨x0, x1, x2, x3, x4, x5, x6, x7, x8, x9, x10⟩ := H1.out.2.cell
    dsimp only at x0 x1 x2 x3 x4 x5 x6 x7 x8 x9 x10
    go_wp2_with fail
    refine (HD.out _).mono ?_
    rintro e' w2 ⟨rfl, hb2⟩
    have H2 := Lib.hid (H1.out.next hb2)
    clear hb2 H1 x0 x1 x2 x3 x4 x5 x6 x7 x8 x9 x10
    obtain ⟨x0, x1, x2, x3, x4, x5, x6, x7, x8, x9, x10⟩ := H2.out.2.cell
    dsimp only at x0 x1 x2 x3 x4 x5 x6 x7 x8 x9 x10
    go_wp2_with fail
    refine (HF.out _ H2.out.1).mono ?_
    rintro e' w3 ⟨rfl, hb3⟩
    have H3 := Lib.hid (H2.out.next hb3)
    clear hb3 H2 HR HD HF x0 x1 x2 x3 x4 x5 x6 x7 x8 x9 x10
    go_upto_region 4 with (fail)
    refine wp_region_calm (PbRel w ((c, r, e, (x, y, z), f, vv, ni, nx, mo), ai, ci)) (by kernel_rfl) (by kernel_rfl) (H3.out.next ((Below.refl _ _).drew)) ?_
    repeat ((with_reducible refine wpQuiet_step (fun K hK => ?_)); go_simp; first | (refine hK _ ?_; clear hK K) | (apply Exists.intro; refine ⟨fun wc hwc => ?_, hK _ ?_⟩; (focus (first | (fail) | ((skip); go_simp; done) | ((skip); go_simp; exact rfl))); clear hK K))
    refine wpQuiet_nil ?_
    intro wc hwc
    have H4 := Lib.hid hwc
    clear hwc H3
    go_upto_region 5 with (fail)
    refine wp_region_calm (PbRel w ((c, r, e, (x, y, z), f, vv, ni, nx, mo), ai, ci)) (by kernel_rfl) (by kernel_rfl) (H4.out.next ((Below.refl _ _).drew)) ?_
    repeat ((with_reducible refine wpQuiet_step (fun K hK => ?_)); go_simp; first | (refine hK _ ?_; clear hK K) | (apply Exists.intro; refine ⟨fun wc hwc => ?_, hK _ ?_⟩; (focus (first | (fail) | ((skip); go_simp; done) | ((skip); go_simp; exact rfl))); clear hK K))
    refine wpQuiet_nil ?_
    intro wc hwc
    have H6 := Lib.hid hwc
    clear hwc H4
    obtain ⟨x0, x1, x2, x3, x4, x5, x6, x7, x8, x9, x10⟩ := H6.out.2.cell
    dsimp only at x0 x1 x2 x3 x4 x5 x6 x7 x8 x9 x10
    go_wp2_with fail
    refine (djoin_lit _ ((c, r, e, (x, y, z), f, vv, ni, nx, mo), ai, ci) _ _ _ _ _ _ (l.take 0) (l.drop 0) (HT1.out _ _ _ H6.out.1 (by omega) (by omega) (by intro h; first | rfl | omega)) (HT3.out _ _ _ _ H6.out.1 (by omega) (by omega) (by omega) (by intro h; first | rfl | omega | (intro b1 off1 he; injection he with he; injection he with he1 he2; subst he1; subst he2; first | rfl | (congr 2; omega)))) (by omega) HN0.out).mono ?_
    rintro e' w9 ⟨v9, rfl, ht9, hb9⟩
    have H9 : Hid (SoEnd w (l.take 0 ++ [(c, r, e, (x, y, z), f, vv, ni, nx, mo)] ++ l.drop 0) v9 w9) := ⟨ht9, H6.out.1.trans (hb9.mono H6.out.1.size)⟩
    clear ht9 hb9 H6 HT1 HT3 x0 x1 x2 x3 x4 x5 x6 x7 x8 x9 x10
    go_wp2_with fail
    go_ret2
    exact ⟨v9, rfl, H9.out⟩
  · rcases Nat.lt_or_ge p cap with hlt | hge
    · obtain ⟨r2, hr2⟩ : ∃ r2, n - p = r2 := ⟨_, rfl⟩
      obtain ⟨c2, hc2⟩ : ∃ c2, cap - p = c2 := ⟨_, rfl⟩
      have q1 : p ≤ cap := by omega
      have q2 : ¬ p = cap := by omega
      have q22 : ¬ cap = p := by omega
      have q3 : ¬ cap ≤ p := by omega
      have q4 : ¬ c2 = 0 := by omega
      have q5 : p ≤ n := by omega
      have q9 : r2 ≤ c2 := by omega
      have d8 : ((n : Int) == 8) = false := beq_eq_false_iff_ne.2 (by omega)
      have e8 : ¬ n = 8 := by omega
      go_enter Try.func17, Try.ntmps17
      go_wp2_with fail
      refine (HR.out _ HP0.out.1).mono ?_
      rintro e' w1 ⟨rfl, hb1⟩
      have H1 := Lib.hid (HP0.out.next hb1)
      clear hb1 HP0
      obtain ⟨x0, x1, x2, x3, x4, x5, x6, x7, x8, x9, x10⟩ := H1.out.2.cell
      dsimp only at x0 x1 x2 x3 x4 x5 x6 x7 x8 x9 x10
      go_wp2_with fail
      refine (HD.out _).mono ?_
      rintro e' w2 ⟨rfl, hb2⟩
      have H2 := Lib.hid (H1.out.next hb2)
      clear hb2 H1 x0 x1 x2 x3 x4 x5 x6 x7 x8 x9 x10
      obtain ⟨x0, x1, x2, x3, x4, x5, x6, x7, x8, x9, x10⟩ := H2.out.2.cell
      dsimp only at x0 x1 x2 x3 x4 x5 x6 x7 x8 x9 x10
      go_wp2_with fail
      refine (HF.out _ H2.out.1).mono ?_
      rintro e' w3 ⟨rfl, hb3⟩
      have H3 := Lib.hid (H2.out.next hb3)
      clear hb3 H2 HR HD HF x0 x1 x2 x3 x4 x5 x6 x7 x8 x9 x10
      go_upto_region 4 with (fail)
      refine wp_region_calm (PbRel w ((c, r, e, (x, y, z), f, vv, ni, nx, mo), ai, ci)) (by kernel_rfl) (by kernel_rfl) (H3.out.next ((Below.refl _ _).drew)) ?_
      repeat ((with_reducible refine wpQuiet_step (fun K hK => ?_)); go_simp; first | (refine hK _ ?_; clear hK K) | (apply Exists.intro; refine ⟨fun wc hwc => ?_, hK _ ?_⟩; (focus (first | (fail) | ((skip); go_simp; done) | ((skip); go_simp; exact rfl))); clear hK K))
      refine wpQuiet_nil ?_
      intro wc hwc
      have H4 := Lib.hid hwc
      clear hwc H3
      go_upto_region 5 with (fail)
      refine wp_region_calm (PbRel w ((c, r, e, (x, y, z), f, vv, ni, nx, mo), ai, ci)) (by kernel_rfl) (by kernel_rfl) (H4.out.next ((Below.refl _ _).drew)) ?_
      repeat ((with_reducible refine wpQuiet_step (fun K hK => ?_)); go_simp; first | (refine hK _ ?_; clear hK K) | (apply Exists.intro; refine ⟨fun wc hwc => ?_, hK _ ?_⟩; (focus (first | (fail) | ((skip); go_simp; done) | ((skip); go_simp; exact rfl))); clear hK K))
      refine wpQuiet_nil ?_
      intro wc hwc
      have H6 := Lib.hid hwc
      clear hwc H4
      obtain ⟨x0, x1, x2, x3, x4, x5, x6, x7, x8, x9, x10⟩ := H6.out.2.cell
      dsimp only at x0 x1 x2 x3 x4 x5 x6 x7 x8 x9 x10
      go_wp2_with fail
      refine (djoin_lit _ ((c, r, e, (x, y, z), f, vv, ni, nx, mo), ai, ci) _ _ _ _ _ _ (l.take p) (l.drop p) (HT1.out _ _ _ H6.out.1 (by omega) (by omega) (by intro h; first | rfl | omega)) (HT3.out _ _ _ _ H6.out.1 (by omega) (by omega) (by omega) (by intro h; first | rfl | omega | (intro b1 off1 he; injection he with he; injection he with he1 he2; subst he1; subst he2; first | rfl | (congr 2; omega)))) (by omega) HN0.out).mono ?_
      rintro e' w9 ⟨v9, rfl, ht9, hb9⟩
      have H9 : Hid (SoEnd w (l.take p ++ [(c, r, e, (x, y, z), f, vv, ni, nx, mo)] ++ l.drop p) v9 w9) := ⟨ht9, H6.out.1.trans (hb9.mono H6.out.1.size)⟩
      clear ht9 hb9 H6 HT1 HT3 x0 x1 x2 x3 x4 x5 x6 x7 x8 x9 x10
      go_wp2_with fail
      go_ret2
      exact ⟨v9, rfl, H9.out⟩
    · obtain rfl : p = cap := by omega
      obtain rfl : p = n := by omega
      have d8 : ((p : Int) == 8) = false := beq_eq_false_iff_ne.2 (by omega)
      have e8 : ¬ p = 8 := by omega
      go_enter Try.func17, Try.ntmps17
      go_wp2_with fail
      refine (HR.out _ HP0.out.1).mono ?_
      rintro e' w1 ⟨rfl, hb1⟩
      have H1 := Lib.hid (HP0.out.next hb1)
      clear hb1 HP0
      obtain ⟨x0, x1, x2, x3, x4, x5, x6, x7, x8, x9, x10⟩ := H1.out.2.cell
      dsimp only at x0 x1 x2 x3 x4 x5 x6 x7 x8 x9 x10
      go_wp2_with fail
      refine (HD.out _).mono ?_
      rintro e' w2 ⟨rfl, hb2⟩
      have H2 := Lib.hid (H1.out.next hb2)
      clear hb2 H1 x0 x1 x2 x3 x4 x5 x6 x7 x8 x9 x10
      obtain ⟨x0, x1, x2, x3, x4, x5, x6, x7, x8, x9, x10⟩ := H2.out.2.cell
      dsimp only at x0 x1 x2 x3 x4 x5 x6 x7 x8 x9 x10
      go_wp2_with fail
      refine (HF.out _ H2.out.1).mono ?_
      rintro e' w3 ⟨rfl, hb3⟩
      have H3 := Lib.hid (H2.out.next hb3)
      clear hb3 H2 HR HD HF x0 x1 x2 x3 x4 x5 x6 x7 x8 x9 x10
      go_upto_region 4 with (fail)
      refine wp_region_calm (PbRel w ((c, r, e, (x, y, z), f, vv, ni, nx, mo), ai, ci)) (by kernel_rfl) (by kernel_rfl) (H3.out.next ((Below.refl _ _).drew)) ?_
      repeat ((with_reducible refine wpQuiet_step (fun K hK => ?_)); go_simp; first | (refine hK _ ?_; clear hK K) | (apply Exists.intro; refine ⟨fun wc hwc => ?_, hK _ ?_⟩; (focus (first | (fail) | ((skip); go_simp; done) | ((skip); go_simp; exact rfl))); clear hK K))
      refine wpQuiet_nil ?_
      intro wc hwc
      have H4 := Lib.hid hwc
      clear hwc H3
      go_upto_region 5 with (fail)
      refine wp_region_calm (PbRel w ((c, r, e, (x, y, z), f, vv, ni, nx, mo), ai, ci)) (by kernel_rfl) (by kernel_rfl) (H4.out.next ((Below.refl _ _).drew)) ?_
      repeat ((with_reducible refine wpQuiet_step (fun K hK => ?_)); go_simp; first | (refine hK _ ?_; clear hK K) | (apply Exists.intro; refine ⟨fun wc hwc => ?_, hK _ ?_⟩; (focus (first | (fail) | ((skip); go_simp; done) | ((skip); go_simp; exact rfl))); clear hK K))
      refine wpQuiet_nil ?_
      intro wc hwc
      have H6 := Lib.hid hwc
      clear hwc H4
      obtain ⟨x0, x1, x2, x3, x4, x5, x6, x7, x8, x9, x10⟩ := H6.out.2.cell
      dsimp only at x0 x1 x2 x3 x4 x5 x6 x7 x8 x9 x10
      go_wp2_with fail
      refine (djoin_lit _ ((c, r, e, (x, y, z), f, vv, ni, nx, mo), ai, ci) _ _ _ _ _ _ (l.take p) (l.drop p) (HT1.out _ _ _ H6.out.1 (by omega) (by omega) (by intro h; first | rfl | omega)) (HT3.out _ _ _ _ H6.out.1 (by omega) (by omega) (by omega) (by intro h; first | rfl | omega | (intro b1 off1 he; injection he with he; injection he with he1 he2; subst he1; subst he2; first | rfl | (congr 2; omega)))) (by omega) HN0.out).mono ?_
      rintro e' w9 ⟨v9, rfl, ht9, hb9⟩
      have H9 : Hid (SoEnd w (l.take p ++ [(c, r, e, (x, y, z), f, vv, ni, nx, mo)] ++ l.drop p) v9 w9) := ⟨ht9, H6.out.1.trans (hb9.mono H6.out.1.size)⟩
      clear ht9 hb9 H6 HT1 HT3 x0 x1 x2 x3 x4 x5 x6 x7 x8 x9 x10
      go_wp2_with fail
      go_ret2
      exact ⟨v9, rfl, H9.out⟩

end Go.Proofs.Ytdiabcdpnbhibaa
