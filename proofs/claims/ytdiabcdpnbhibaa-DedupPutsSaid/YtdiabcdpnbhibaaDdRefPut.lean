/-
  The contract of the document's Put into a table.
-/
import Derived.Test.YtdiabcdpnbhibaaDdRefSorted
import Derived.Lib.AppendZeros
set_option linter.unusedVariables false
namespace Go.Proofs.Ytdiabcdpnbhibaa
open Go.RowKit

theorem DBox.cell {w : World} {h : Nat} {d : DnV} (H : DBox w h d) : w.cell? ⟨h, 0, none⟩ = some (.int .i64 d.1.1) ∧ w.cell? ⟨h, 1, none⟩ = some (.int .i64 d.1.2.1) ∧ w.cell? ⟨h, 2, none⟩ = some (.int .i64 d.1.2.2.1) ∧ w.cell? ⟨h, 3, none⟩ = some (.int .i64 d.1.2.2.2.1.1) ∧
  w.cell? ⟨h, 4, none⟩ = some (.int .i64 d.1.2.2.2.1.2.1) ∧ w.cell? ⟨h, 5, none⟩ = some (.int .i64 d.1.2.2.2.1.2.2) ∧ w.cell? ⟨h, 6, none⟩ = some (.bool d.1.2.2.2.2.1) ∧ w.cell? ⟨h, 7, none⟩ = some (.string d.1.2.2.2.2.2.1) ∧
  w.cell? ⟨h, 8, none⟩ = some (.slice d.2.1 d.1.2.2.2.2.2.2.1 d.2.2) ∧ w.cell? ⟨h, 9, none⟩ = some (.string d.1.2.2.2.2.2.2.2.1) ∧ w.cell? ⟨h, 10, none⟩ = some (.bool d.1.2.2.2.2.2.2.2.2) := by
  unfold DBox at H
  refine ⟨?_, ?_, ?_, ?_, ?_, ?_, ?_, ?_, ?_, ?_, ?_⟩ <;> simp [World.cell?, H]
/-- One row in a block of its own is a table of one's own. -/
theorem owns_lit {w : World} {g B : Nat} {d : DnV} (H : DBox w g d) (hB : B ≤ g) : OwnsD w B (.slice (some ⟨g, 0, none⟩) 1 1) [d] := by
  refine ⟨by simp [dnsC, dnC], .inr ⟨g, 1, _, rfl, hB, H, Nat.le_refl _, by unfold maxLen; omega, rfl, ?_⟩⟩
  simp [dnsC, dnC]
theorem dns_news {w : World} {b off n : Nat} {l : List DnV} (hl : l.length = n) (h : ∀ i, i < n → DnAt w b (off + i * 11) (det l i)) : ∀ j u, (dnsC l)[j]? = some u → w.cell? ((⟨b, off, none⟩ : Addr).add j) = some u := by
  intro j u hj
  have hlt : j < l.length * 11 := by rw [← dnsC_len]; exact (List.getElem?_eq_some_iff.1 hj).1
  have e : j = j / 11 * 11 + j % 11 := by omega
  rw [e, dnsC_at l (j / 11) (j % 11) (by omega) (by omega)] at hj
  obtain ⟨h0, h1, h2, h3, h4, h5, h6, h7, h8, h9, h10⟩ := h (j / 11) (by omega)
  have ha : (⟨b, off, none⟩ : Addr).add j = ⟨b, off + j / 11 * 11 + j % 11, none⟩ := by
    rw [Addr.add_lit, show off + j = off + j / 11 * 11 + j % 11 by omega]
  rw [ha]
  have hs : j % 11 = 0 ∨ j % 11 = 1 ∨ j % 11 = 2 ∨ j % 11 = 3 ∨ j % 11 = 4 ∨ j % 11 = 5 ∨ j % 11 = 6 ∨ j % 11 = 7 ∨ j % 11 = 8 ∨ j % 11 = 9 ∨ j % 11 = 10 := by omega
  rcases hs with e | e | e | e | e | e | e | e | e | e | e <;> rw [e] at hj ⊢ <;> simp [dnC] at hj <;> subst hj <;> assumption
theorem run_append_nil_dn {P : Program} {w : World} (base : Nat) (t ty e : TypeId) (i : TypeInfo) (size c : Nat) (ht : P.underlying t = some (.slice e)) (hi : P.info? e = some i)
    (v : Value) (n : Nat) (xs : List Value) (hown : w.ownsRow base e size v n xs) :
    (Builtin.append_ #[t, t] ty #[v, .slice none 0 c]).run P w = .ok v w := by
  rcases hown.2 with ⟨rfl, rfl⟩ | ⟨g, cap, cur, rfl, _, _, hnc, _⟩
  · simp [Builtin.append_, run_underlying ht, sizeOf, typeInfo, hi, Builtin.lenOf, Builtin.firstCells]
  · simp [Builtin.append_, run_underlying ht, sizeOf, typeInfo, hi, Builtin.lenOf, Builtin.firstCells, hnc, storeCells]
theorem wpList_append_dns {w : World} {ops : Array Oper} {rest : List Oper} {o : Oper} {a : Act} {Q : Exit → Act → World → Prop} (hgd : o.guard = none) (s x : Operand)
    (ho : o.op = .call { callee := .builtin .append, args := #[s, x], argTypes := #[22, 22] }) (base : Nat) (v u : Value) (xs l : List DnV) (hs : a.eval s = v) (hown : OwnsD w base v xs) (hx : a.eval x = u) (hu : TabV w u l)
    (hlen : xs.length + l.length ≤ 1000000) (hbase : base ≤ w.heap.size)
    (h : ∀ v' w', OwnsD w' base v' (xs ++ l) → w.grownBy w' v.ownBlock → wpList Try.prog ops Q rest (a.put o.dst v') w') : wpList Try.prog ops Q (o :: rest) a w := by
  obtain ⟨i0, hi, hz0, hz1, hz2⟩ := info_parts info_dn
  have hown' : w.ownsRow base 33 11 v xs.length (dnsC xs) := hown
  obtain ⟨ao, cap, rfl, h1, h2, h3⟩ := hu
  have hmany : ∀ ad, ao = some ad → (∀ j u, (dnsC l)[j]? = some u → w.cell? (ad.add j) = some u) → wpList Try.prog ops Q (o :: rest) a w := by
    rintro ad rfl hn
    refine wpList_append_own w hgd s x 22 ho base 33 i0 _ 11 120 Try.underlying22 hi hz0 hz1 hz2 rfl (by decide) v _ _ hs hown' ad _ cap (dnsC l) hx (dnsC_len l) hn (dnsC_one l) (by unfold maxLen; omega) (by omega) hbase fun v' w' hown1 hg _ => h v' w' ?_ hg
    show World.ownsRow w' base _ 11 v' (xs ++ l).length (dnsC (xs ++ l))
    rw [List.length_append, ← dnsC_app]
    exact hown1
  rcases Nat.eq_zero_or_pos l.length with h0 | h0
  · obtain rfl : l = [] := List.length_eq_zero_iff.1 h0
    cases ao with
    | some ad => exact hmany ad rfl (by intro j u hj; simp [dnsC] at hj)
    | none =>
      have h' := h v w (by rw [List.append_nil]; exact hown) ⟨rfl, rfl, rfl, Nat.le_refl _, fun _ _ _ => rfl⟩
      exact Lib.wpList_append_run w hgd s x _ _ ho v _ hs hx v w (run_append_nil_dn base _ _ _ i0 11 cap Try.underlying22 hi v _ _ hown') h'
  · obtain ⟨b, off, e, hb, hcl⟩ := h3 h0
    exact hmany _ e (dns_news rfl hcl)

/-- What putting a row gives, and the error's number. -/
def IsDPut (t : List Dn) (d : Dn) (m : List Dn) (e : Int) : Prop :=
  ((rightT t = false ∨ rowB d = false) ∧ m = [] ∧ e = 1) ∨
  (rightT t = true ∧ rowB d = true ∧ dR d ≤ reqT t (dC d) ∧ m = [] ∧ e = 9) ∨
  (rightT t = true ∧ rowB d = true ∧ reqT t (dC d) < dR d ∧ 8 < (putT t d).length ∧ m = [] ∧ e = 6) ∨
  (rightT t = true ∧ rowB d = true ∧ reqT t (dC d) < dR d ∧ (putT t d).length ≤ 8 ∧ m = putT t d ∧ e = 0)
theorem dput_ex (t : List Dn) (d : Dn) : ∃ m e, IsDPut t d m e := by
  cases h1 : rightT t
  · exact ⟨_, _, .inl ⟨.inl h1, rfl, rfl⟩⟩
  cases h2 : rowB d
  · exact ⟨_, _, .inl ⟨.inr h2, rfl, rfl⟩⟩
  rcases Int.lt_or_le (reqT t (dC d)) (dR d) with h3 | h3
  · rcases Nat.lt_or_ge 8 (putT t d).length with h4 | h4
    · exact ⟨_, _, .inr (.inr (.inl ⟨h1, h2, h3, h4, rfl, rfl⟩))⟩
    · exact ⟨_, _, .inr (.inr (.inr ⟨h1, h2, h3, h4, rfl, rfl⟩))⟩
  · exact ⟨_, _, .inr (.inl ⟨h1, h2, h3, rfl, rfl⟩)⟩
/-- The row's box. -/
def PbRel (w : World) (d : DnV) (W : World) : Prop := Below w.heap.size w W ∧ DBox W w.heap.size d
theorem PbRel.next {w W W' : World} {d : DnV} (H : PbRel w d W) (hb : Below W.heap.size W W') : PbRel w d W' := ⟨H.1.trans (hb.mono H.1.size), H.2.over hb⟩
theorem PbRel.new (w : World) (c r e x y z : Int) (f : Bool) (vv : ByteArray) (ai : Option Addr) (ni ci : Nat) (nx : ByteArray) (mo : Bool) : PbRel w ((c, r, e, (x, y, z), f, vv, ni, nx, mo), ai, ci) (w.alloc (.cells #[Go.Value.int Go.IntKind.i64 c, Go.Value.int Go.IntKind.i64 r, Go.Value.int Go.IntKind.i64 e, Go.Value.int Go.IntKind.i64 x, Go.Value.int Go.IntKind.i64 y, Go.Value.int Go.IntKind.i64 z, Go.Value.bool f, Go.Value.string vv, Go.Value.slice ai ni ci, Go.Value.string nx, Go.Value.bool mo] 33)) := ⟨(Below.refl _ _).alloc (Nat.le_refl _) _, DBox.new w ((c, r, e, (x, y, z), f, vv, ni, nx, mo), ai, ci)⟩

set_option maxRecDepth 100000 in
set_option maxHeartbeats 4000000 in
theorem refTPut_row (w : World) (v : Value) (t : List Dn) (c r e x y z : Int) (f : Bool) (vv : ByteArray) (ai : Option Addr) (ni ci : Nat) (nx : ByteArray) (mo : Bool) (m : List Dn) (er : Int) (g1 g2 : Bool) (q : Int) (ao : Option Addr) (len cap : Nat) (hv : v = .slice ao len cap)
    (HR : Hid (∀ W, Below w.heap.size w W → Calls Try.prog 10 #[.slice ao len cap] W fun e0 w' => e0 = .returned (.bool g1) ∧ Below W.heap.size W w'))
    (HD : Hid (∀ W g, DBox W g ((c, r, e, (x, y, z), f, vv, ni, nx, mo), ai, ci) → Calls Try.prog 10 #[.slice (some ⟨g, 0, none⟩) 1 1] W fun e0 w' => e0 = .returned (.bool g2) ∧ Below W.heap.size W w'))
    (HQ : Hid (∀ W, Below w.heap.size w W → Calls Try.prog 25 #[.slice ao len cap, .int .i64 c] W fun e0 w' => e0 = .returned (.int .i64 q) ∧ w' = W))
    (HT : Hid (∃ es : List DnV, TabV w (.slice ao len cap) es ∧ es.map Prod.fst = t)) (hlen : g1 = true → len ≤ 8)
    (HS : Hid (∀ W u, g1 = true → Tab W u ((c, r, e, (x, y, z), f, vv, ni, nx, mo) :: t) → Calls Try.prog 30 #[u] W fun e0 w' => ∃ v', e0 = .returned v' ∧ SoEnd W (putT t (c, r, e, (x, y, z), f, vv, ni, nx, mo)) v' w'))
    (hm : (g1 = false ∨ g2 = false) ∧ m = [] ∧ er = 1 ∨ g1 = true ∧ g2 = true ∧ r ≤ q ∧ m = [] ∧ er = 9 ∨ g1 = true ∧ g2 = true ∧ q < r ∧ 8 < (putT t (c, r, e, (x, y, z), f, vv, ni, nx, mo)).length ∧ m = [] ∧ er = 6 ∨ g1 = true ∧ g2 = true ∧ q < r ∧ (putT t (c, r, e, (x, y, z), f, vv, ni, nx, mo)).length ≤ 8 ∧ m = putT t (c, r, e, (x, y, z), f, vv, ni, nx, mo) ∧ er = 0) :
    Calls Try.prog 18 #[.slice ao len cap, (Go.Value.agg #[Go.Value.int Go.IntKind.i64 c, Go.Value.int Go.IntKind.i64 r, Go.Value.int Go.IntKind.i64 e, Go.Value.int Go.IntKind.i64 x, Go.Value.int Go.IntKind.i64 y, Go.Value.int Go.IntKind.i64 z, Go.Value.bool f, Go.Value.string vv, Go.Value.slice ai ni ci, Go.Value.string nx, Go.Value.bool mo])] w fun e' w' => ∃ v', e' = .returned (.tuple #[v', .int .i64 er]) ∧ SoEnd w m v' w' := by
  have HP0 : Hid (PbRel w ((c, r, e, (x, y, z), f, vv, ni, nx, mo), ai, ci) (w.alloc (.cells #[Go.Value.int Go.IntKind.i64 c, Go.Value.int Go.IntKind.i64 r, Go.Value.int Go.IntKind.i64 e, Go.Value.int Go.IntKind.i64 x, Go.Value.int Go.IntKind.i64 y, Go.Value.int Go.IntKind.i64 z, Go.Value.bool f, Go.Value.string vv, Go.Value.slice ai ni ci, Go.Value.string nx, Go.Value.bool mo] 33))) := PbRel.new w c r e x y z f vv ai ni ci nx mo
  clear hv
  rcases hm with ⟨hbad, rfl, rfl⟩ | ⟨rfl, rfl, h3, rfl, rfl⟩ | ⟨rfl, rfl, h3, h4, rfl, rfl⟩ | ⟨rfl, rfl, h3, h4, rfl, rfl⟩
  · cases g1
    · clear hbad
      go_enter Try.func18, Try.ntmps18
      go_wp2_with fail
      refine (HR.out _ HP0.out.1).mono ?_
      rintro e' w1 ⟨rfl, hb1⟩
      have H1 := Lib.hid (HP0.out.next hb1)
      clear hb1 HP0
      go_wp2_with fail
      go_ret2
      exact ⟨_, rfl, tab_nil _, H1.out.1⟩
    · obtain rfl : g2 = false := by rcases hbad with h | h; cases h; exact h
      clear hbad
      go_enter Try.func18, Try.ntmps18
      go_wp2_with fail
      refine (HR.out _ HP0.out.1).mono ?_
      rintro e' w1 ⟨rfl, hb1⟩
      have H1 := Lib.hid (HP0.out.next hb1)
      clear hb1 HP0
      obtain ⟨x0, x1, x2, x3, x4, x5, x6, x7, x8, x9, x10⟩ := H1.out.2.cell
      dsimp only at x0 x1 x2 x3 x4 x5 x6 x7 x8 x9 x10
      have H2 : Hid (PbRel w ((c, r, e, (x, y, z), f, vv, ni, nx, mo), ai, ci) (w1.alloc (.cells #[Go.Value.int Go.IntKind.i64 c, Go.Value.int Go.IntKind.i64 r, Go.Value.int Go.IntKind.i64 e, Go.Value.int Go.IntKind.i64 x, Go.Value.int Go.IntKind.i64 y, Go.Value.int Go.IntKind.i64 z, Go.Value.bool f, Go.Value.string vv, Go.Value.slice ai ni ci, Go.Value.string nx, Go.Value.bool mo] 33)) ∧ DBox (w1.alloc (.cells #[Go.Value.int Go.IntKind.i64 c, Go.Value.int Go.IntKind.i64 r, Go.Value.int Go.IntKind.i64 e, Go.Value.int Go.IntKind.i64 x, Go.Value.int Go.IntKind.i64 y, Go.Value.int Go.IntKind.i64 z, Go.Value.bool f, Go.Value.string vv, Go.Value.slice ai ni ci, Go.Value.string nx, Go.Value.bool mo] 33)) w1.heap.size ((c, r, e, (x, y, z), f, vv, ni, nx, mo), ai, ci)) := ⟨H1.out.next ((Below.refl _ _).alloc (Nat.le_refl _) _), DBox.new w1 ((c, r, e, (x, y, z), f, vv, ni, nx, mo), ai, ci)⟩
      go_wp2_with fail
      refine (HD.out _ _ H2.out.2).mono ?_
      rintro e' w2 ⟨rfl, hb2⟩
      have H3 := Lib.hid (H2.out.1.next hb2)
      clear hb2 H2 H1 x0 x1 x2 x3 x4 x5 x6 x7 x8 x9 x10 HD HR
      go_wp2_with fail
      go_ret2
      exact ⟨_, rfl, tab_nil _, H3.out.1⟩
  · have d1 : decide (r ≤ q) = true := decide_eq_true h3
    go_enter Try.func18, Try.ntmps18
    go_wp2_with fail
    refine (HR.out _ HP0.out.1).mono ?_
    rintro e' w1 ⟨rfl, hb1⟩
    have H1 := Lib.hid (HP0.out.next hb1)
    clear hb1 HP0
    obtain ⟨x0, x1, x2, x3, x4, x5, x6, x7, x8, x9, x10⟩ := H1.out.2.cell
    dsimp only at x0 x1 x2 x3 x4 x5 x6 x7 x8 x9 x10
    have H2 : Hid (PbRel w ((c, r, e, (x, y, z), f, vv, ni, nx, mo), ai, ci) (w1.alloc (.cells #[Go.Value.int Go.IntKind.i64 c, Go.Value.int Go.IntKind.i64 r, Go.Value.int Go.IntKind.i64 e, Go.Value.int Go.IntKind.i64 x, Go.Value.int Go.IntKind.i64 y, Go.Value.int Go.IntKind.i64 z, Go.Value.bool f, Go.Value.string vv, Go.Value.slice ai ni ci, Go.Value.string nx, Go.Value.bool mo] 33)) ∧ DBox (w1.alloc (.cells #[Go.Value.int Go.IntKind.i64 c, Go.Value.int Go.IntKind.i64 r, Go.Value.int Go.IntKind.i64 e, Go.Value.int Go.IntKind.i64 x, Go.Value.int Go.IntKind.i64 y, Go.Value.int Go.IntKind.i64 z, Go.Value.bool f, Go.Value.string vv, Go.Value.slice ai ni ci, Go.Value.string nx, Go.Value.bool mo] 33)) w1.heap.size ((c, r, e, (x, y, z), f, vv, ni, nx, mo), ai, ci)) := ⟨H1.out.next ((Below.refl _ _).alloc (Nat.le_refl _) _), DBox.new w1 ((c, r, e, (x, y, z), f, vv, ni, nx, mo), ai, ci)⟩
    go_wp2_with fail
    refine (HD.out _ _ H2.out.2).mono ?_
    rintro e' w2 ⟨rfl, hb2⟩
    have H3 := Lib.hid (H2.out.1.next hb2)
    clear hb2 H2 H1 x0 x1 x2 x3 x4 x5 x6 x7 x8 x9 x10 HD HR
    go_upto_region 3 with (fail)
    refine wp_region_calm (PbRel w ((c, r, e, (x, y, z), f, vv, ni, nx, mo), ai, ci)) (by kernel_rfl) (by kernel_rfl) (H3.out.next ((Below.refl _ _).drew)) ?_
    repeat ((with_reducible refine wpQuiet_step (fun K hK => ?_)); go_simp; first | (refine hK _ ?_; clear hK K) | (apply Exists.intro; refine ⟨fun wc hwc => ?_, hK _ ?_⟩; (focus (first | (first | (go_at_call 25; refine (HQ.out _ hwc.1).mono ?_; rintro e' w3 ⟨rfl, rfl⟩; exact ⟨rfl, hwc⟩)) | (((obtain ⟨x0, x1, x2, x3, x4, x5, x6, x7, x8, x9, x10⟩ := hwc.2.cell; dsimp only at x0 x1 x2 x3 x4 x5 x6 x7 x8 x9 x10)); go_simp; done) | (((obtain ⟨x0, x1, x2, x3, x4, x5, x6, x7, x8, x9, x10⟩ := hwc.2.cell; dsimp only at x0 x1 x2 x3 x4 x5 x6 x7 x8 x9 x10)); go_simp; exact rfl))); clear hK K))
    refine wpQuiet_nil ?_
    intro wc hwc
    have H4 := Lib.hid hwc
    clear hwc H3 HQ
    go_wp2_with fail
    go_ret2
    exact ⟨_, rfl, tab_nil _, H4.out.1⟩
  · have d1 : decide (r ≤ q) = false := decide_eq_false (by omega)
    go_enter Try.func18, Try.ntmps18
    go_wp2_with fail
    refine (HR.out _ HP0.out.1).mono ?_
    rintro e' w1 ⟨rfl, hb1⟩
    have H1 := Lib.hid (HP0.out.next hb1)
    clear hb1 HP0
    obtain ⟨x0, x1, x2, x3, x4, x5, x6, x7, x8, x9, x10⟩ := H1.out.2.cell
    dsimp only at x0 x1 x2 x3 x4 x5 x6 x7 x8 x9 x10
    have H2 : Hid (PbRel w ((c, r, e, (x, y, z), f, vv, ni, nx, mo), ai, ci) (w1.alloc (.cells #[Go.Value.int Go.IntKind.i64 c, Go.Value.int Go.IntKind.i64 r, Go.Value.int Go.IntKind.i64 e, Go.Value.int Go.IntKind.i64 x, Go.Value.int Go.IntKind.i64 y, Go.Value.int Go.IntKind.i64 z, Go.Value.bool f, Go.Value.string vv, Go.Value.slice ai ni ci, Go.Value.string nx, Go.Value.bool mo] 33)) ∧ DBox (w1.alloc (.cells #[Go.Value.int Go.IntKind.i64 c, Go.Value.int Go.IntKind.i64 r, Go.Value.int Go.IntKind.i64 e, Go.Value.int Go.IntKind.i64 x, Go.Value.int Go.IntKind.i64 y, Go.Value.int Go.IntKind.i64 z, Go.Value.bool f, Go.Value.string vv, Go.Value.slice ai ni ci, Go.Value.string nx, Go.Value.bool mo] 33)) w1.heap.size ((c, r, e, (x, y, z), f, vv, ni, nx, mo), ai, ci)) := ⟨H1.out.next ((Below.refl _ _).alloc (Nat.le_refl _) _), DBox.new w1 ((c, r, e, (x, y, z), f, vv, ni, nx, mo), ai, ci)⟩
    go_wp2_with fail
    refine (HD.out _ _ H2.out.2).mono ?_
    rintro e' w2 ⟨rfl, hb2⟩
    have H3 := Lib.hid (H2.out.1.next hb2)
    clear hb2 H2 H1 x0 x1 x2 x3 x4 x5 x6 x7 x8 x9 x10 HD HR
    go_upto_region 3 with (fail)
    refine wp_region_calm (PbRel w ((c, r, e, (x, y, z), f, vv, ni, nx, mo), ai, ci)) (by kernel_rfl) (by kernel_rfl) (H3.out.next ((Below.refl _ _).drew)) ?_
    repeat ((with_reducible refine wpQuiet_step (fun K hK => ?_)); go_simp; first | (refine hK _ ?_; clear hK K) | (apply Exists.intro; refine ⟨fun wc hwc => ?_, hK _ ?_⟩; (focus (first | (first | (go_at_call 25; refine (HQ.out _ hwc.1).mono ?_; rintro e' w3 ⟨rfl, rfl⟩; exact ⟨rfl, hwc⟩)) | (((obtain ⟨x0, x1, x2, x3, x4, x5, x6, x7, x8, x9, x10⟩ := hwc.2.cell; dsimp only at x0 x1 x2 x3 x4 x5 x6 x7 x8 x9 x10)); go_simp; done) | (((obtain ⟨x0, x1, x2, x3, x4, x5, x6, x7, x8, x9, x10⟩ := hwc.2.cell; dsimp only at x0 x1 x2 x3 x4 x5 x6 x7 x8 x9 x10)); go_simp; exact rfl))); clear hK K))
    refine wpQuiet_nil ?_
    intro wc hwc
    have H4 := Lib.hid hwc
    clear hwc H3 HQ
    obtain ⟨x0, x1, x2, x3, x4, x5, x6, x7, x8, x9, x10⟩ := H4.out.2.cell
    dsimp only at x0 x1 x2 x3 x4 x5 x6 x7 x8 x9 x10
    have H5 : Hid (PbRel w ((c, r, e, (x, y, z), f, vv, ni, nx, mo), ai, ci) (wc.alloc (.cells #[Go.Value.int Go.IntKind.i64 c, Go.Value.int Go.IntKind.i64 r, Go.Value.int Go.IntKind.i64 e, Go.Value.int Go.IntKind.i64 x, Go.Value.int Go.IntKind.i64 y, Go.Value.int Go.IntKind.i64 z, Go.Value.bool f, Go.Value.string vv, Go.Value.slice ai ni ci, Go.Value.string nx, Go.Value.bool mo] 33)) ∧ DBox (wc.alloc (.cells #[Go.Value.int Go.IntKind.i64 c, Go.Value.int Go.IntKind.i64 r, Go.Value.int Go.IntKind.i64 e, Go.Value.int Go.IntKind.i64 x, Go.Value.int Go.IntKind.i64 y, Go.Value.int Go.IntKind.i64 z, Go.Value.bool f, Go.Value.string vv, Go.Value.slice ai ni ci, Go.Value.string nx, Go.Value.bool mo] 33)) wc.heap.size ((c, r, e, (x, y, z), f, vv, ni, nx, mo), ai, ci)) := ⟨H4.out.next ((Below.refl _ _).alloc (Nat.le_refl _) _), DBox.new wc ((c, r, e, (x, y, z), f, vv, ni, nx, mo), ai, ci)⟩
    obtain ⟨es, hes, hmap⟩ := HT.out
    have HES : Hid (TabV w (.slice ao len cap) es) := hes
    have HMAP := Lib.hid hmap
    have HEL : Hid (es.length = len) := by
      obtain ⟨_, _, e1, _⟩ := hes
      injection e1 with _ e1 _
      exact e1.symm
    have HLN : Hid (len ≤ 8) := hlen (by first | rfl | trivial)
    clear hes hmap HT hlen
    go_wp2_with (at_builtin; refine wpList_append_dns rfl _ _ rfl w.heap.size _ _ [((c, r, e, (x, y, z), f, vv, ni, nx, mo), ai, ci)] es rfl (owns_lit H5.out.2 H4.out.1.size) rfl (HES.out.next H5.out.1.1) (by have := HEL.out; have := HLN.out; simp; omega) H5.out.1.1.size ?_; intro v2 w4 ho2 hg2; have H6 : Hid (OwnsD w4 w.heap.size v2 ([((c, r, e, (x, y, z), f, vv, ni, nx, mo), ai, ci)] ++ es) ∧ Below w.heap.size w w4) := ⟨ho2, H5.out.1.1.grown hg2 H5.out.1.1.size (fun j hj => (OwnsD.block (owns_lit H5.out.2 H4.out.1.size) j hj).1)⟩; clear ho2 hg2 H5 H4 x0 x1 x2 x3 x4 x5 x6 x7 x8 x9 x10)
    have H7 : Hid (Tab w4 v2 ((c, r, e, (x, y, z), f, vv, ni, nx, mo) :: t) ∧ Below w.heap.size w w4) := ⟨own_tab H6.out.1 (by rw [List.map_append, HMAP.out]; rfl), H6.out.2⟩
    clear H6
    refine (HS.out _ _ (by first | rfl | trivial) H7.out.1).mono ?_
    rintro e' w5 ⟨v5, rfl, ht5, hb5⟩
    obtain ⟨a5, c5, rfl⟩ := tab_slice ht5
    obtain ⟨k5, hk5⟩ : ∃ k5, k5 = (putT t (c, r, e, (x, y, z), f, vv, ni, nx, mo)).length := ⟨_, rfl⟩
    rw [← hk5] at ht5 h4 ⊢
    have H8 : Hid (Tab w5 (.slice a5 k5 c5) (putT t (c, r, e, (x, y, z), f, vv, ni, nx, mo)) ∧ Below w.heap.size w w5) := ⟨ht5, H7.out.2.trans (hb5.mono H7.out.2.size)⟩
    clear ht5 hb5 H7 hk5 HS
    have d2 : decide (8 < (k5 : Int)) = true := decide_eq_true (by omega)
    go_wp2_with fail
    go_ret2
    exact ⟨_, rfl, tab_nil _, H8.out.2⟩
  · have d1 : decide (r ≤ q) = false := decide_eq_false (by omega)
    go_enter Try.func18, Try.ntmps18
    go_wp2_with fail
    refine (HR.out _ HP0.out.1).mono ?_
    rintro e' w1 ⟨rfl, hb1⟩
    have H1 := Lib.hid (HP0.out.next hb1)
    clear hb1 HP0
    obtain ⟨x0, x1, x2, x3, x4, x5, x6, x7, x8, x9, x10⟩ := H1.out.2.cell
    dsimp only at x0 x1 x2 x3 x4 x5 x6 x7 x8 x9 x10
    have H2 : Hid (PbRel w ((c, r, e, (x, y, z), f, vv, ni, nx, mo), ai, ci) (w1.alloc (.cells #[Go.Value.int Go.IntKind.i64 c, Go.Value.int Go.IntKind.i64 r, Go.Value.int Go.IntKind.i64 e, Go.Value.int Go.IntKind.i64 x, Go.Value.int Go.IntKind.i64 y, Go.Value.int Go.IntKind.i64 z, Go.Value.bool f, Go.Value.string vv, Go.Value.slice ai ni ci, Go.Value.string nx, Go.Value.bool mo] 33)) ∧ DBox (w1.alloc (.cells #[Go.Value.int Go.IntKind.i64 c, Go.Value.int Go.IntKind.i64 r, Go.Value.int Go.IntKind.i64 e, Go.Value.int Go.IntKind.i64 x, Go.Value.int Go.IntKind.i64 y, Go.Value.int Go.IntKind.i64 z, Go.Value.bool f, Go.Value.string vv, Go.Value.slice ai ni ci, Go.Value.string nx, Go.Value.bool mo] 33)) w1.heap.size ((c, r, e, (x, y, z), f, vv, ni, nx, mo), ai, ci)) := ⟨H1.out.next ((Below.refl _ _).alloc (Nat.le_refl _) _), DBox.new w1 ((c, r, e, (x, y, z), f, vv, ni, nx, mo), ai, ci)⟩
    go_wp2_with fail
    refine (HD.out _ _ H2.out.2).mono ?_
    rintro e' w2 ⟨rfl, hb2⟩
    have H3 := Lib.hid (H2.out.1.next hb2)
    clear hb2 H2 H1 x0 x1 x2 x3 x4 x5 x6 x7 x8 x9 x10 HD HR
    go_upto_region 3 with (fail)
    refine wp_region_calm (PbRel w ((c, r, e, (x, y, z), f, vv, ni, nx, mo), ai, ci)) (by kernel_rfl) (by kernel_rfl) (H3.out.next ((Below.refl _ _).drew)) ?_
    repeat ((with_reducible refine wpQuiet_step (fun K hK => ?_)); go_simp; first | (refine hK _ ?_; clear hK K) | (apply Exists.intro; refine ⟨fun wc hwc => ?_, hK _ ?_⟩; (focus (first | (first | (go_at_call 25; refine (HQ.out _ hwc.1).mono ?_; rintro e' w3 ⟨rfl, rfl⟩; exact ⟨rfl, hwc⟩)) | (((obtain ⟨x0, x1, x2, x3, x4, x5, x6, x7, x8, x9, x10⟩ := hwc.2.cell; dsimp only at x0 x1 x2 x3 x4 x5 x6 x7 x8 x9 x10)); go_simp; done) | (((obtain ⟨x0, x1, x2, x3, x4, x5, x6, x7, x8, x9, x10⟩ := hwc.2.cell; dsimp only at x0 x1 x2 x3 x4 x5 x6 x7 x8 x9 x10)); go_simp; exact rfl))); clear hK K))
    refine wpQuiet_nil ?_
    intro wc hwc
    have H4 := Lib.hid hwc
    clear hwc H3 HQ
    obtain ⟨x0, x1, x2, x3, x4, x5, x6, x7, x8, x9, x10⟩ := H4.out.2.cell
    dsimp only at x0 x1 x2 x3 x4 x5 x6 x7 x8 x9 x10
    have H5 : Hid (PbRel w ((c, r, e, (x, y, z), f, vv, ni, nx, mo), ai, ci) (wc.alloc (.cells #[Go.Value.int Go.IntKind.i64 c, Go.Value.int Go.IntKind.i64 r, Go.Value.int Go.IntKind.i64 e, Go.Value.int Go.IntKind.i64 x, Go.Value.int Go.IntKind.i64 y, Go.Value.int Go.IntKind.i64 z, Go.Value.bool f, Go.Value.string vv, Go.Value.slice ai ni ci, Go.Value.string nx, Go.Value.bool mo] 33)) ∧ DBox (wc.alloc (.cells #[Go.Value.int Go.IntKind.i64 c, Go.Value.int Go.IntKind.i64 r, Go.Value.int Go.IntKind.i64 e, Go.Value.int Go.IntKind.i64 x, Go.Value.int Go.IntKind.i64 y, Go.Value.int Go.IntKind.i64 z, Go.Value.bool f, Go.Value.string vv, Go.Value.slice ai ni ci, Go.Value.string nx, Go.Value.bool mo] 33)) wc.heap.size ((c, r, e, (x, y, z), f, vv, ni, nx, mo), ai, ci)) := ⟨H4.out.next ((Below.refl _ _).alloc (Nat.le_refl _) _), DBox.new wc ((c, r, e, (x, y, z), f, vv, ni, nx, mo), ai, ci)⟩
    obtain ⟨es, hes, hmap⟩ := HT.out
    have HES : Hid (TabV w (.slice ao len cap) es) := hes
    have HMAP := Lib.hid hmap
    have HEL : Hid (es.length = len) := by
      obtain ⟨_, _, e1, _⟩ := hes
      injection e1 with _ e1 _
      exact e1.symm
    have HLN : Hid (len ≤ 8) := hlen (by first | rfl | trivial)
    clear hes hmap HT hlen
    go_wp2_with (at_builtin; refine wpList_append_dns rfl _ _ rfl w.heap.size _ _ [((c, r, e, (x, y, z), f, vv, ni, nx, mo), ai, ci)] es rfl (owns_lit H5.out.2 H4.out.1.size) rfl (HES.out.next H5.out.1.1) (by have := HEL.out; have := HLN.out; simp; omega) H5.out.1.1.size ?_; intro v2 w4 ho2 hg2; have H6 : Hid (OwnsD w4 w.heap.size v2 ([((c, r, e, (x, y, z), f, vv, ni, nx, mo), ai, ci)] ++ es) ∧ Below w.heap.size w w4) := ⟨ho2, H5.out.1.1.grown hg2 H5.out.1.1.size (fun j hj => (OwnsD.block (owns_lit H5.out.2 H4.out.1.size) j hj).1)⟩; clear ho2 hg2 H5 H4 x0 x1 x2 x3 x4 x5 x6 x7 x8 x9 x10)
    have H7 : Hid (Tab w4 v2 ((c, r, e, (x, y, z), f, vv, ni, nx, mo) :: t) ∧ Below w.heap.size w w4) := ⟨own_tab H6.out.1 (by rw [List.map_append, HMAP.out]; rfl), H6.out.2⟩
    clear H6
    refine (HS.out _ _ (by first | rfl | trivial) H7.out.1).mono ?_
    rintro e' w5 ⟨v5, rfl, ht5, hb5⟩
    obtain ⟨a5, c5, rfl⟩ := tab_slice ht5
    obtain ⟨k5, hk5⟩ : ∃ k5, k5 = (putT t (c, r, e, (x, y, z), f, vv, ni, nx, mo)).length := ⟨_, rfl⟩
    rw [← hk5] at ht5 h4 ⊢
    have H8 : Hid (Tab w5 (.slice a5 k5 c5) (putT t (c, r, e, (x, y, z), f, vv, ni, nx, mo)) ∧ Below w.heap.size w w5) := ⟨ht5, H7.out.2.trans (hb5.mono H7.out.2.size)⟩
    clear ht5 hb5 H7 hk5 HS
    have d2 : decide (8 < (k5 : Int)) = false := decide_eq_false (by omega)
    go_wp2_with fail
    go_ret2
    exact ⟨_, rfl, H8.out⟩

theorem refTPut_any {w : World} {v : Value} {t : List Dn} (h : Tab w v t) (c r e x y z : Int) (f : Bool) (vv : ByteArray) (ai : Option Addr) (ni ci : Nat) (nx : ByteArray) (mo : Bool) {m : List Dn} {er : Int} (hp : IsDPut t (c, r, e, (x, y, z), f, vv, ni, nx, mo) m er) :
    Calls Try.prog 18 #[v, (Go.Value.agg #[Go.Value.int Go.IntKind.i64 c, Go.Value.int Go.IntKind.i64 r, Go.Value.int Go.IntKind.i64 e, Go.Value.int Go.IntKind.i64 x, Go.Value.int Go.IntKind.i64 y, Go.Value.int Go.IntKind.i64 z, Go.Value.bool f, Go.Value.string vv, Go.Value.slice ai ni ci, Go.Value.string nx, Go.Value.bool mo])] w fun e' w' => ∃ v', e' = .returned (.tuple #[v', .int .i64 er]) ∧ SoEnd w m v' w' := by
  obtain ⟨ao, cap, rfl⟩ := tab_slice h
  refine refTPut_row w _ t c r e x y z f vv ai ni ci nx mo m er (rightT t) (rowB (c, r, e, (x, y, z), f, vv, ni, nx, mo)) (reqT t c) ao t.length cap rfl ?_ ?_ ?_ h (fun h1 => (rightT_spec h1).1) ?_ hp
  · show ∀ W, _
    intro W hW
    exact refTRight_any (h.next hW)
  · show ∀ W, _
    intro W g hg
    have h1 := refTRight_any (tab_lit hg)
    rw [right_one] at h1
    exact h1
  · show ∀ W, _
    intro W hW
    exact refReq_any (h.next hW) c
  · show ∀ W, _
    intro W u h1 hu
    exact refSorted_any hu (put_sorted (right_parts h1).2.2) (by have := (rightT_spec h1).1; simp; omega)

end Go.Proofs.Ytdiabcdpnbhibaa
