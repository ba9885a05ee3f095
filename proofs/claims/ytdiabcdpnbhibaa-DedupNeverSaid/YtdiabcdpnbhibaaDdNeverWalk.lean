/-
  DedupNever over the contracts' forms.
-/
import Derived.Test.YtdiabcdpnbhibaaDdForms
set_option linter.unusedVariables false
namespace Go.Proofs.Ytdiabcdpnbhibaa
open Go.RowKit

/-- A right table that has the client's request, or a later one. -/
def InvN (c r : Int) (m : List Dn) : Prop := rightT m = true ∧ r ≤ reqT m c
theorem put_right {t : List Dn} {d : Dn} (h : rightT t = true) (hd : rowB d = true) (h8 : (putT t d).length ≤ 8) : rightT (putT t d) = true :=
  right_whole h8 (put_rows (right_parts h).2.1 hd) (put_inc (right_parts h).2.2)
theorem inv_first {t m : List Dn} {d : Dn} (h : IsDPut t d m 0) : InvN (dC d) (dR d) m ∧ numB (dC d) = true ∧ numB (dR d) = true := by
  rcases h with ⟨_, _, h⟩ | ⟨_, _, _, _, h⟩ | ⟨_, _, _, _, _, h⟩ | ⟨h1, h2, h3, h4, rfl, _⟩
  · cases h
  · cases h
  · cases h
  · refine ⟨⟨put_right h1 h2 h4, ?_⟩, ?_, ?_⟩
    · rw [put_req (right_parts h1).2.2, if_pos rfl]; exact Int.le_refl _
    · unfold rowB at h2; rw [Bool.and_eq_true] at h2; exact h2.1
    · unfold rowB at h2; rw [Bool.and_eq_true, Bool.and_eq_true] at h2; exact h2.2.1
theorem inv_put {t m : List Dn} {d : Dn} {c r : Int} (hi : InvN c r t) (h : IsDPut t d m 0) : InvN c r m := by
  rcases h with ⟨_, _, h⟩ | ⟨_, _, _, _, h⟩ | ⟨_, _, _, _, _, h⟩ | ⟨h1, h2, h3, h4, rfl, _⟩
  · cases h
  · cases h
  · cases h
  · refine ⟨put_right h1 h2 h4, ?_⟩
    rw [put_req (right_parts h1).2.2]
    by_cases hc : dC d = c
    · rw [if_pos hc]
      have := hi.2
      rw [← hc] at this
      omega
    · rw [if_neg hc]; exact hi.2
theorem dput_err {t m : List Dn} {d : Dn} {e : Int} (h : IsDPut t d m e) : (m = [] ∧ (e = 1 ∨ e = 6 ∨ e = 9)) ∨ e = 0 := by
  rcases h with ⟨_, h1, h⟩ | ⟨_, _, _, h1, h⟩ | ⟨_, _, _, _, h1, h⟩ | ⟨h1, h2, h3, h4, _, h⟩
  · exact .inl ⟨h1, .inl h⟩
  · exact .inl ⟨h1, .inr (.inr h)⟩
  · exact .inl ⟨h1, .inr (.inl h)⟩
  · exact .inr h
theorem dmerge_err {a b m : List Dn} {e : Int} (h : IsDMerge a b m e) : e = 1 ∨ e = 6 ∨ e = 0 := by
  rcases h with ⟨_, _, h⟩ | ⟨_, _, _, _, h⟩ | ⟨_, _, _, _, h⟩
  · exact .inl h
  · exact .inr (.inl h)
  · exact .inr (.inr h)
theorem merged_len {a b m : List Dn} (ha : incT a) (hb : incT b) (h : IsMerged a b m) : m.length ≤ (unT a b).length := by
  have hnd : ∀ (l k : List Dn), incT l → (∀ d ∈ l, d ∈ k) → l.length ≤ k.length := by
    intro l
    induction l with
    | nil => intro k _ _; exact Nat.zero_le _
    | cons d l ih =>
      intro k hl hk
      have hd := hk d List.mem_cons_self
      obtain ⟨k1, k2, rfl⟩ := List.append_of_mem hd
      rw [inc_cons] at hl
      have h3 := ih (k1 ++ k2) hl.2 fun x hx => by
        have h4 := hk x (List.mem_cons_of_mem _ hx)
        rcases List.mem_append.1 h4 with h5 | h5
        · exact List.mem_append.2 (.inl h5)
        · rcases List.mem_cons.1 h5 with h6 | h6
          · have := hl.1 x hx
            rw [h6] at this
            omega
          · exact List.mem_append.2 (.inr h6)
      rw [List.length_append] at h3 ⊢
      rw [List.length_cons, List.length_cons]
      omega
  exact hnd m _ h.1 fun d hd => (h.2 d).1 hd
theorem inv_merge {a b m : List Dn} {c r : Int} (h : IsDMerge a b m 0) : (InvN c r a → InvN c r m) ∧ (InvN c r b → InvN c r m) := by
  rcases h with ⟨_, _, h⟩ | ⟨_, _, _, _, h⟩ | ⟨h1, h2, h3, h4, _⟩
  · cases h
  · cases h
  · obtain ⟨p1, p2, p3⟩ := right_parts h1
    obtain ⟨q1, q2, q3⟩ := right_parts h2
    have hr : rightT m = true := right_whole (Nat.le_trans (merged_len p3 q3 h4) h3) (merged_rows p2 q2 h4) h4.1
    have hq := merged_req p3 q3 p2 q2 h4 c
    exact ⟨fun hi => ⟨hr, Int.le_trans hi.2 hq.1⟩, fun hi => ⟨hr, Int.le_trans hi.2 hq.2⟩⟩
theorem inv_judge {m : List Dn} {c r : Int} (h : InvN c r m) (hc : numB c = true) (hr : numB r = true) : judT m c r = 2 ∨ judT m c r = 3 := by
  unfold judT
  rw [h.1, hc, hr]
  have h1 : ¬ reqT m c < r := by have := h.2; omega
  simp only [Bool.and_self, if_true, if_neg h1]
  by_cases h2 : r = reqT m c
  · rw [if_pos h2]; exact .inl rfl
  · rw [if_neg h2]; exact .inr rfl
/-- What the loop knows. -/
def LoRel (w : World) (d : DnV) (cv : Value) (W : World) : Prop := PbRel w d W ∧ ∃ m : List Dn, Tab W cv m ∧ InvN d.1.1 d.1.2.1 m
theorem LoRel.next {w W W' : World} {d : DnV} {cv : Value} (H : LoRel w d cv W) (hb : Below W.heap.size W W') : LoRel w d cv W' := by
  obtain ⟨h1, m, h2, h3⟩ := H
  exact ⟨h1.next hb, m, h2.next hb, h3⟩
def JudGe (d : DnV) (e : Ending) : Prop := e = .returned (.int .i64 2) ∨ e = .returned (.int .i64 3)
/-- What putting may do to the loop's table. -/
def LoPut (w : World) (d : DnV) (cv : Value) (e : Ending) (W : World) : Prop := ∃ (v' : Value) (er : Int), e = .returned (.tuple #[v', .int .i64 er]) ∧ LoRel w d cv W ∧ (er = 1 ∨ er = 6 ∨ er = 9 ∨ (er = 0 ∧ LoRel w d v' W))
def LoMerge (w : World) (d : DnV) (cv : Value) (e : Ending) (W : World) : Prop := ∃ (v' : Value) (er : Int), e = .returned (.tuple #[v', .int .i64 er]) ∧ LoRel w d cv W ∧ (er = 1 ∨ er = 6 ∨ (er = 0 ∧ LoRel w d v' W))

set_option maxRecDepth 100000 in
set_option maxHeartbeats 4000000 in
theorem dedupNever_core (hA : FDAwake) (hRt : FDRight) (hJ : FDJudge) (hP : FDPut) (hM : FDMerge) (w : World) (v : Value) (t : List Dn) (hv : Tab w v t) (c r e x y z : Int) (f : Bool) (vv : ByteArray) (ai : Option Addr) (ni ci : Nat) (nx : ByteArray) (mo : Bool)
    (lv : Value) (l : List Dn) (hlv : Tab w lv l) (ov : Value) (o : List Dn) (hov : Tab w ov o) :
    Calls Try.prog 6 #[v, (Go.Value.agg #[Go.Value.int Go.IntKind.i64 c, Go.Value.int Go.IntKind.i64 r, Go.Value.int Go.IntKind.i64 e, Go.Value.int Go.IntKind.i64 x, Go.Value.int Go.IntKind.i64 y, Go.Value.int Go.IntKind.i64 z, Go.Value.bool f, Go.Value.string vv, Go.Value.slice ai ni ci, Go.Value.string nx, Go.Value.bool mo]), lv, ov] w fun e' w' => e' = .returned (.bool true) ∧ Below w.heap.size w w' := by
  obtain ⟨g1, hg1⟩ : ∃ g, g = smallT t := ⟨_, rfl⟩
  obtain ⟨g2, hg2⟩ : ∃ g, g = smallT o := ⟨_, rfl⟩
  obtain ⟨g3, hg3⟩ : ∃ g, g = smallT [(c, r, e, (x, y, z), f, vv, ni, nx, mo)] := ⟨_, rfl⟩
  have H1 : Hid (∀ W, Below w.heap.size w W → Calls Try.prog 8 #[v] W fun e0 w' => e0 = .returned (.bool g1) ∧ w' = W) := fun W hW => by rw [hg1]; exact refTSmall_any (hv.next hW)
  have H2 : Hid (∀ W, Below w.heap.size w W → Calls Try.prog 8 #[ov] W fun e0 w' => e0 = .returned (.bool g2) ∧ w' = W) := fun W hW => by rw [hg2]; exact refTSmall_any (hov.next hW)
  have H3 : Hid (∀ W g, DBox W g ((c, r, e, (x, y, z), f, vv, ni, nx, mo), ai, ci) → Calls Try.prog 8 #[.slice (some ⟨g, 0, none⟩) 1 1] W fun e0 w' => e0 = .returned (.bool g3) ∧ w' = W) := by
    show ∀ W g, _ → _
    intro W g hg
    rw [hg3]; exact refTSmall_any (tab_lit hg)
  obtain ⟨m, er, hm⟩ := dput_ex t (c, r, e, (x, y, z), f, vv, ni, nx, mo)
  have HP : Hid (∀ W, Below w.heap.size w W → Calls Try.prog 17 #[v, (Go.Value.agg #[Go.Value.int Go.IntKind.i64 c, Go.Value.int Go.IntKind.i64 r, Go.Value.int Go.IntKind.i64 e, Go.Value.int Go.IntKind.i64 x, Go.Value.int Go.IntKind.i64 y, Go.Value.int Go.IntKind.i64 z, Go.Value.bool f, Go.Value.string vv, Go.Value.slice ai ni ci, Go.Value.string nx, Go.Value.bool mo])] W fun e' w' => ∃ v', e' = .returned (.tuple #[v', .int .i64 er]) ∧ SoEnd W m v' w') := fun W hW => hP W v t c r e x y z f vv ai ni ci nx mo m er (hv.next hW) hm
  have HIS : Hid (IsDPut t (c, r, e, (x, y, z), f, vv, ni, nx, mo) m er) := hm
  have hbd : er = 0 → InvN c r m ∧ numB c = true ∧ numB r = true := fun h => by subst h; exact inv_first hm
  have hbc : numB c = true → numB r = true → (-9223372036854775808 ≤ c ∧ c ≤ 9223372036854775807) ∧ (-9223372036854775808 ≤ r ∧ r ≤ 9223372036854775807) := fun h1 h2 => by
    unfold numB at h1 h2
    rw [Bool.and_eq_true, decide_eq_true_eq, decide_eq_true_eq] at h1 h2
    omega
  have HJ : Hid (er = 0 → ∀ W cv, LoRel w ((c, r, e, (x, y, z), f, vv, ni, nx, mo), ai, ci) cv W → Calls Try.prog 12 #[cv, .int .i64 c, .int .i64 r] W fun e0 w' => JudGe ((c, r, e, (x, y, z), f, vv, ni, nx, mo), ai, ci) e0 ∧ Below W.heap.size W w') := by
    show er = 0 → _
    rintro h0 W cv ⟨_, m', hm', hi⟩
    obtain ⟨_, hc, hr⟩ := hbd h0
    obtain ⟨b1, b2⟩ := hbc hc hr
    refine (hJ W cv m' c r hm' b1 b2).mono ?_
    rintro e0 w' ⟨rfl, hb⟩
    refine ⟨?_, hb⟩
    rcases inv_judge hi hc hr with h | h
    · exact .inl (by rw [h])
    · exact .inr (by rw [h])
  have HR : Hid (∀ W cv, LoRel w ((c, r, e, (x, y, z), f, vv, ni, nx, mo), ai, ci) cv W → Calls Try.prog 11 #[cv] W fun e0 w' => e0 = .returned (.bool true) ∧ Below W.heap.size W w') := by
    show ∀ W cv, _ → _
    rintro W cv ⟨_, m', hm', hi⟩
    have h9 := hRt W cv m' hm'
    rw [hi.1] at h9
    exact h9
  have HPL : Hid (∀ W cv (d : Dn) (q : Option Addr × Nat), LoRel w ((c, r, e, (x, y, z), f, vv, ni, nx, mo), ai, ci) cv W → Calls Try.prog 17 #[cv, dnV (d, q)] W fun e' w' => LoPut w ((c, r, e, (x, y, z), f, vv, ni, nx, mo), ai, ci) cv e' w') := by
    show ∀ W cv d q, _ → _
    rintro W cv ⟨c2, r2, e2, ⟨x2, y2, z2⟩, f2, v2, n2, t2, m2⟩ ⟨a2, k2⟩ ⟨h1, m', hm', hi⟩
    obtain ⟨m3, er3, h3⟩ := dput_ex m' (c2, r2, e2, (x2, y2, z2), f2, v2, n2, t2, m2)
    refine (hP W cv m' c2 r2 e2 x2 y2 z2 f2 v2 a2 n2 k2 t2 m2 m3 er3 hm' h3).mono ?_
    rintro e' w' ⟨v', rfl, h4, h5⟩
    refine ⟨v', er3, rfl, ⟨h1.next h5, m', hm'.next h5, hi⟩, ?_⟩
    rcases dput_err h3 with ⟨_, h6 | h6 | h6⟩ | h6
    · exact .inl h6
    · exact .inr (.inl h6)
    · exact .inr (.inr (.inl h6))
    · subst h6
      exact .inr (.inr (.inr ⟨rfl, h1.next h5, m3, h4, inv_put hi h3⟩))
  have HMG : Hid (∀ W cv, LoRel w ((c, r, e, (x, y, z), f, vv, ni, nx, mo), ai, ci) cv W → (Calls Try.prog 19 #[cv, ov] W fun e' w' => LoMerge w ((c, r, e, (x, y, z), f, vv, ni, nx, mo), ai, ci) cv e' w') ∧ (Calls Try.prog 19 #[ov, cv] W fun e' w' => LoMerge w ((c, r, e, (x, y, z), f, vv, ni, nx, mo), ai, ci) cv e' w')) := by
    show ∀ W cv, _ → _
    rintro W cv ⟨h1, m', hm', hi⟩
    refine ⟨?_, ?_⟩
    · obtain ⟨m3, er3, h3⟩ := dmerge_ex m' o
      refine (hM W cv ov m' o m3 er3 hm' (hov.next h1.1) h3).mono ?_
      rintro e' w' ⟨v', rfl, h4, h5⟩
      refine ⟨v', er3, rfl, ⟨h1.next h5, m', hm'.next h5, hi⟩, ?_⟩
      rcases dmerge_err h3 with h6 | h6 | h6
      · exact .inl h6
      · exact .inr (.inl h6)
      · subst h6
        exact .inr (.inr ⟨rfl, h1.next h5, m3, h4, (inv_merge h3).1 hi⟩)
    · obtain ⟨m3, er3, h3⟩ := dmerge_ex o m'
      refine (hM W ov cv o m' m3 er3 (hov.next h1.1) hm' h3).mono ?_
      rintro e' w' ⟨v', rfl, h4, h5⟩
      refine ⟨v', er3, rfl, ⟨h1.next h5, m', hm'.next h5, hi⟩, ?_⟩
      rcases dmerge_err h3 with h6 | h6 | h6
      · exact .inl h6
      · exact .inr (.inl h6)
      · subst h6
        exact .inr (.inr ⟨rfl, h1.next h5, m3, h4, (inv_merge h3).2 hi⟩)
  have HA : Hid (FDAwake) := hA
  have HP0 : Hid (PbRel w ((c, r, e, (x, y, z), f, vv, ni, nx, mo), ai, ci) (w.alloc (.cells #[Go.Value.int Go.IntKind.i64 c, Go.Value.int Go.IntKind.i64 r, Go.Value.int Go.IntKind.i64 e, Go.Value.int Go.IntKind.i64 x, Go.Value.int Go.IntKind.i64 y, Go.Value.int Go.IntKind.i64 z, Go.Value.bool f, Go.Value.string vv, Go.Value.slice ai ni ci, Go.Value.string nx, Go.Value.bool mo] 33))) := PbRel.new w c r e x y z f vv ai ni ci nx mo
  have HINV : Hid (er = 0 → InvN c r m) := fun h => (hbd h).1
  have HERR : Hid ((m = [] ∧ (er = 1 ∨ er = 6 ∨ er = 9)) ∨ er = 0) := dput_err hm
  obtain ⟨la, n, lc, es, rfl, hl, hle, hmx, hn, hrow, hmap⟩ := hlv.opened
  have HL := Lib.hid hrow
  clear hg1 hg2 hg3 hm hbd hbc hA hRt hJ hP hM hv hov hl hle hmx hrow hmap hlv
  go_enter Try.func6, Try.ntmps6
  go_upto_region 1 with (fail)
  generalize w.alloc (.cells #[Go.Value.int Go.IntKind.i64 c, Go.Value.int Go.IntKind.i64 r, Go.Value.int Go.IntKind.i64 e, Go.Value.int Go.IntKind.i64 x, Go.Value.int Go.IntKind.i64 y, Go.Value.int Go.IntKind.i64 z, Go.Value.bool f, Go.Value.string vv, Go.Value.slice ai ni ci, Go.Value.string nx, Go.Value.bool mo] 33) = w1 at HP0 ⊢
  cases g1
  · go_wp2_with fail
    refine (H1.out _ HP0.out.1).mono ?_
    rintro e' w2 ⟨rfl, rfl⟩
    go_wp2_with fail
    refine (HA.out _).mono ?_
    rintro e' w3 ⟨rfl, hb3⟩
    go_wp2_with fail
    go_ret
    exact ⟨rfl, (HP0.out.next hb3).1⟩
  cases g2
  · go_wp2_with fail
    refine (H1.out _ HP0.out.1).mono ?_
    rintro e' w2 ⟨rfl, rfl⟩
    go_wp2_with fail
    refine (H2.out _ HP0.out.1).mono ?_
    rintro e' w2 ⟨rfl, rfl⟩
    go_wp2_with fail
    refine (HA.out _).mono ?_
    rintro e' w3 ⟨rfl, hb3⟩
    go_wp2_with fail
    go_ret
    exact ⟨rfl, (HP0.out.next hb3).1⟩
  obtain ⟨x0, x1, x2, x3, x4, x5, x6, x7, x8, x9, x10⟩ := HP0.out.2.cell
  dsimp only at x0 x1 x2 x3 x4 x5 x6 x7 x8 x9 x10
  have H4 : Hid (PbRel w ((c, r, e, (x, y, z), f, vv, ni, nx, mo), ai, ci) (w1.alloc (.cells #[Go.Value.int Go.IntKind.i64 c, Go.Value.int Go.IntKind.i64 r, Go.Value.int Go.IntKind.i64 e, Go.Value.int Go.IntKind.i64 x, Go.Value.int Go.IntKind.i64 y, Go.Value.int Go.IntKind.i64 z, Go.Value.bool f, Go.Value.string vv, Go.Value.slice ai ni ci, Go.Value.string nx, Go.Value.bool mo] 33)) ∧ DBox (w1.alloc (.cells #[Go.Value.int Go.IntKind.i64 c, Go.Value.int Go.IntKind.i64 r, Go.Value.int Go.IntKind.i64 e, Go.Value.int Go.IntKind.i64 x, Go.Value.int Go.IntKind.i64 y, Go.Value.int Go.IntKind.i64 z, Go.Value.bool f, Go.Value.string vv, Go.Value.slice ai ni ci, Go.Value.string nx, Go.Value.bool mo] 33)) w1.heap.size ((c, r, e, (x, y, z), f, vv, ni, nx, mo), ai, ci)) := ⟨HP0.out.next ((Below.refl _ _).alloc (Nat.le_refl _) _), DBox.new w1 ((c, r, e, (x, y, z), f, vv, ni, nx, mo), ai, ci)⟩
  cases g3
  · go_wp2_with fail
    refine (H1.out _ HP0.out.1).mono ?_
    rintro e' w2 ⟨rfl, rfl⟩
    go_wp2_with fail
    refine (H2.out _ HP0.out.1).mono ?_
    rintro e' w2 ⟨rfl, rfl⟩
    go_wp2_with fail
    refine (H3.out _ _ H4.out.2).mono ?_
    rintro e' w3 ⟨rfl, rfl⟩
    go_wp2_with fail
    refine (HA.out _).mono ?_
    rintro e' w3 ⟨rfl, hb3⟩
    go_wp2_with fail
    go_ret
    exact ⟨rfl, (H4.out.1.next hb3).1⟩
  go_wp2_with fail
  refine (H1.out _ HP0.out.1).mono ?_
  rintro e' w2 ⟨rfl, rfl⟩
  go_wp2_with fail
  refine (H2.out _ HP0.out.1).mono ?_
  rintro e' w2 ⟨rfl, rfl⟩
  go_wp2_with fail
  refine (H3.out _ _ H4.out.2).mono ?_
  rintro e' w3 ⟨rfl, rfl⟩
  go_upto_region 3 with (fail)
  rename World => w9
  have H5 : Hid (PbRel w ((c, r, e, (x, y, z), f, vv, ni, nx, mo), ai, ci) (w9.alloc (.cells #[Go.Value.int Go.IntKind.i64 c, Go.Value.int Go.IntKind.i64 r, Go.Value.int Go.IntKind.i64 e, Go.Value.int Go.IntKind.i64 x, Go.Value.int Go.IntKind.i64 y, Go.Value.int Go.IntKind.i64 z, Go.Value.bool f, Go.Value.string vv, Go.Value.slice ai ni ci, Go.Value.string nx, Go.Value.bool mo] 33))) := H4.out.1
  generalize w9.alloc (.cells #[Go.Value.int Go.IntKind.i64 c, Go.Value.int Go.IntKind.i64 r, Go.Value.int Go.IntKind.i64 e, Go.Value.int Go.IntKind.i64 x, Go.Value.int Go.IntKind.i64 y, Go.Value.int Go.IntKind.i64 z, Go.Value.bool f, Go.Value.string vv, Go.Value.slice ai ni ci, Go.Value.string nx, Go.Value.bool mo] 33) = w4 at H5 ⊢
  clear x0 x1 x2 x3 x4 x5 x6 x7 x8 x9 x10 H4 HP0 H1 H2 H3
  obtain ⟨x0, x1, x2, x3, x4, x5, x6, x7, x8, x9, x10⟩ := H5.out.2.cell
  dsimp only at x0 x1 x2 x3 x4 x5 x6 x7 x8 x9 x10
  go_wp2_with fail
  refine (HP.out _ H5.out.1).mono ?_
  rintro e' w5 ⟨v5, rfl, h5⟩
  have H6 : Hid (PbRel w ((c, r, e, (x, y, z), f, vv, ni, nx, mo), ai, ci) w5 ∧ Tab w5 v5 m) := ⟨H5.out.next h5.2, h5.1⟩
  clear h5 x0 x1 x2 x3 x4 x5 x6 x7 x8 x9 x10 H5 HP
  rcases HERR.out with ⟨rfl, he⟩ | rfl
  · obtain ⟨a5, c5, rfl⟩ := tab_slice H6.out.2
    rcases he with rfl | rfl | rfl
    all_goals
      go_wp2_with fail
      refine (HA.out _).mono ?_
      rintro e' w6 ⟨rfl, hb6⟩
      go_wp2_with fail
      go_ret
      exact ⟨rfl, (H6.out.1.next hb6).1⟩
  have H7 : Hid (LoRel w ((c, r, e, (x, y, z), f, vv, ni, nx, mo), ai, ci) v5 w5) := ⟨H6.out.1, m, H6.out.2, HINV.out (by first | rfl | trivial)⟩
  have HJ' := Lib.hid (HJ.out (by first | rfl | trivial))
  clear H6 HINV HERR HIS HJ
  go_wp2_with fail
  go_loopw [0, 10] (fun cv iv wr => ∃ k : Nat, k ≤ n ∧ iv = .int .i64 k ∧ Hid (LoRel w ((c, r, e, (x, y, z), f, vv, ni, nx, mo), ai, ci) cv wr)) (fun _ iv _ => n - (intOf iv).toNat)
  case atStart => exact ⟨0, Nat.zero_le _, rfl, H7.out⟩
  case round =>
    obtain ⟨k, hk, rfl, hlo⟩ := hrel
    rename World => W5
    obtain ⟨cv, hcv⟩ : ∃ cv, cv = u0 := ⟨_, rfl⟩
    rw [← hcv] at hlo ⊢
    clear hcv H7
    by_cases hlt : k < n
    · by_cases h30 : k < 30
      · obtain ⟨b1, off1, rfl, hb1, hcl⟩ := HL.out (by omega)
        have HK : Hid (DnAt W5 b1 (off1 + k * 11) (det es k)) := (hcl k hlt).next hlo.out.1.1 hb1
        obtain ⟨⟨⟨c2, r2, e2, ⟨p2, y2, z2⟩, f2, v2, n2, t2, m2⟩, a2, k2⟩, hd⟩ : ∃ d, d = det es k := ⟨_, rfl⟩
        rw [← hd] at HK
        obtain ⟨x0, x1, x2, x3, x4, x5, x6, x7, x8, x9, x10⟩ := HK.out
        dsimp only at x0 x1 x2 x3 x4 x5 x6 x7 x8 x9 x10
        have q4 : k < n := hlt
        clear hd hcl
        by_cases h100 : n2 ≤ 100
        · have d1 : decide (100 < (n2 : Int)) = false := decide_eq_false (by omega)
          have d0 : decide ((k : Int) < 30) = true := decide_eq_true (by omega)
          have HPC : Hid (Calls Try.prog 17 #[cv, (Go.Value.agg #[Go.Value.int Go.IntKind.i64 c2, Go.Value.int Go.IntKind.i64 r2, Go.Value.int Go.IntKind.i64 e2, Go.Value.int Go.IntKind.i64 p2, Go.Value.int Go.IntKind.i64 y2, Go.Value.int Go.IntKind.i64 z2, Go.Value.bool f2, Go.Value.string v2, Go.Value.slice a2 n2 k2, Go.Value.string t2, Go.Value.bool m2])] W5 fun e' w' => LoPut w ((c, r, e, (x, y, z), f, vv, ni, nx, mo), ai, ci) cv e' w') := HPL.out W5 cv (c2, r2, e2, (p2, y2, z2), f2, v2, n2, t2, m2) (a2, k2) hlo.out
          clear h100
          go_wp2_with fail
          refine HPC.out.mono ?_
          intro e' w6 hput
          obtain ⟨v6, er6, he6, hlo6, hc6⟩ := hput
          subst he6
          have HLO6 := Lib.hid hlo6
          have HC6 := Lib.hid hc6
          clear hlo6 hc6 x0 x1 x2 x3 x4 x5 x6 x7 x8 x9 x10 HK HPC
          obtain ⟨x0, x1, x2, x3, x4, x5, x6, x7, x8, x9, x10⟩ := HLO6.out.1.2.cell
          dsimp only at x0 x1 x2 x3 x4 x5 x6 x7 x8 x9 x10
          rcases HC6.out with rfl | rfl | rfl | ⟨rfl, hlo7⟩
          · go_wp2_with fail
            refine (HJ'.out _ cv HLO6.out).mono ?_
            intro e' w7 hj
            obtain ⟨hjg, hb7⟩ := hj
            have HB7 := Lib.hid hb7
            clear hb7
            rcases hjg with rfl | rfl
            all_goals
              go_wp2_with fail
              go_roundw
              case rel => exact ⟨k + 1, by omega, by go_num, HLO6.out.next HB7.out⟩
              case measure => simp [intOf]; omega
          · go_wp2_with fail
            refine (HJ'.out _ cv HLO6.out).mono ?_
            intro e' w7 hj
            obtain ⟨hjg, hb7⟩ := hj
            have HB7 := Lib.hid hb7
            clear hb7
            rcases hjg with rfl | rfl
            all_goals
              go_wp2_with fail
              go_roundw
              case rel => exact ⟨k + 1, by omega, by go_num, HLO6.out.next HB7.out⟩
              case measure => simp [intOf]; omega
          · go_wp2_with fail
            refine (HJ'.out _ cv HLO6.out).mono ?_
            intro e' w7 hj
            obtain ⟨hjg, hb7⟩ := hj
            have HB7 := Lib.hid hb7
            clear hb7
            rcases hjg with rfl | rfl
            all_goals
              go_wp2_with fail
              go_roundw
              case rel => exact ⟨k + 1, by omega, by go_num, HLO6.out.next HB7.out⟩
              case measure => simp [intOf]; omega
          · have HLO7 := Lib.hid hlo7
            clear hlo7
            go_wp2_with fail
            refine (HJ'.out _ v6 HLO7.out).mono ?_
            intro e' w7 hj
            obtain ⟨hjg, hb7⟩ := hj
            have HB7 := Lib.hid hb7
            clear hb7
            rcases hjg with rfl | rfl
            all_goals
              go_wp2_with fail
              go_roundw
              case rel => exact ⟨k + 1, by omega, by go_num, HLO7.out.next HB7.out⟩
              case measure => simp [intOf]; omega
        · have d1 : decide (100 < (n2 : Int)) = true := decide_eq_true (by omega)
          have d0 : decide ((k : Int) < 30) = true := decide_eq_true (by omega)
          clear h100
          go_wp2_with fail
          go_roundw
          case rel => exact ⟨k + 1, by omega, by go_num, hlo.out⟩
          case measure => simp [intOf]; omega
      · have d0 : decide ((k : Int) < 30) = false := decide_eq_false (by omega)
        go_wp2_with fail
        refine ((HMG.out _ cv hlo.out).1).mono ?_
        intro e' w8 hmg
        obtain ⟨v8, er8, he8, hlo8, hc8⟩ := hmg
        subst he8
        have HL8 := Lib.hid hlo8
        have HC8 := Lib.hid hc8
        clear hlo8 hc8
        rcases HC8.out with rfl | rfl | ⟨rfl, hlo9⟩
        · go_wp2_with fail
          refine ((HMG.out _ cv HL8.out).2).mono ?_
          intro e' w12 hmg
          obtain ⟨v12, er12, he12, hlo12, hc12⟩ := hmg
          subst he12
          have HL12 := Lib.hid hlo12
          have HC12 := Lib.hid hc12
          clear hlo12 hc12
          rcases HC12.out with rfl | rfl | ⟨rfl, hlo13⟩
          · go_wp2_with fail
            refine (HA.out _).mono ?_
            rintro e' w19 ⟨rfl, hb19⟩
            go_wp2_with fail
            go_ret
            exact ⟨rfl, (HL12.out.next hb19).1.1⟩
          · go_wp2_with fail
            refine (HA.out _).mono ?_
            rintro e' w19 ⟨rfl, hb19⟩
            go_wp2_with fail
            go_ret
            exact ⟨rfl, (HL12.out.next hb19).1.1⟩
          · have HL13 := Lib.hid hlo13
            clear hlo13
            obtain ⟨s0, s1, s2, s3, s4, s5, s6, s7, s8, s9, s10⟩ := HL13.out.1.2.cell
            dsimp only at s0 s1 s2 s3 s4 s5 s6 s7 s8 s9 s10
            go_wp2_with fail
            refine (HJ'.out _ v12 HL13.out).mono ?_
            intro e' w14 hj
            obtain ⟨hjg, hb14⟩ := hj
            have HL14 := Lib.hid (HL13.out.next hb14)
            clear hb14 s0 s1 s2 s3 s4 s5 s6 s7 s8 s9 s10
            rcases hjg with rfl | rfl
            all_goals
              go_wp2_with fail
              refine (HA.out _).mono ?_
              rintro e' w19 ⟨rfl, hb19⟩
              go_wp2_with fail
              go_ret
              exact ⟨rfl, (HL14.out.next hb19).1.1⟩
        · go_wp2_with fail
          refine ((HMG.out _ cv HL8.out).2).mono ?_
          intro e' w12 hmg
          obtain ⟨v12, er12, he12, hlo12, hc12⟩ := hmg
          subst he12
          have HL12 := Lib.hid hlo12
          have HC12 := Lib.hid hc12
          clear hlo12 hc12
          rcases HC12.out with rfl | rfl | ⟨rfl, hlo13⟩
          · go_wp2_with fail
            refine (HA.out _).mono ?_
            rintro e' w19 ⟨rfl, hb19⟩
            go_wp2_with fail
            go_ret
            exact ⟨rfl, (HL12.out.next hb19).1.1⟩
          · go_wp2_with fail
            refine (HA.out _).mono ?_
            rintro e' w19 ⟨rfl, hb19⟩
            go_wp2_with fail
            go_ret
            exact ⟨rfl, (HL12.out.next hb19).1.1⟩
          · have HL13 := Lib.hid hlo13
            clear hlo13
            obtain ⟨s0, s1, s2, s3, s4, s5, s6, s7, s8, s9, s10⟩ := HL13.out.1.2.cell
            dsimp only at s0 s1 s2 s3 s4 s5 s6 s7 s8 s9 s10
            go_wp2_with fail
            refine (HJ'.out _ v12 HL13.out).mono ?_
            intro e' w14 hj
            obtain ⟨hjg, hb14⟩ := hj
            have HL14 := Lib.hid (HL13.out.next hb14)
            clear hb14 s0 s1 s2 s3 s4 s5 s6 s7 s8 s9 s10
            rcases hjg with rfl | rfl
            all_goals
              go_wp2_with fail
              refine (HA.out _).mono ?_
              rintro e' w19 ⟨rfl, hb19⟩
              go_wp2_with fail
              go_ret
              exact ⟨rfl, (HL14.out.next hb19).1.1⟩
        · have HL9 := Lib.hid hlo9
          clear hlo9
          obtain ⟨x0, x1, x2, x3, x4, x5, x6, x7, x8, x9, x10⟩ := HL9.out.1.2.cell
          dsimp only at x0 x1 x2 x3 x4 x5 x6 x7 x8 x9 x10
          go_wp2_with fail
          refine (HJ'.out _ v8 HL9.out).mono ?_
          intro e' w10 hj
          obtain ⟨hjg, hb10⟩ := hj
          have HL10 : Hid (LoRel w ((c, r, e, (x, y, z), f, vv, ni, nx, mo), ai, ci) v8 w10 ∧ LoRel w ((c, r, e, (x, y, z), f, vv, ni, nx, mo), ai, ci) cv w10) := ⟨HL9.out.next hb10, HL8.out.next hb10⟩
          clear hb10 x0 x1 x2 x3 x4 x5 x6 x7 x8 x9 x10
          rcases hjg with rfl | rfl
          all_goals
            go_wp2_with fail
            refine (HR.out _ v8 HL10.out.1).mono ?_
            rintro e' w11 ⟨rfl, hb11⟩
            have HL11 := Lib.hid (HL10.out.2.next hb11)
            clear hb11
            go_wp2_with fail
            refine ((HMG.out _ cv HL11.out).2).mono ?_
            intro e' w12 hmg
            obtain ⟨v12, er12, he12, hlo12, hc12⟩ := hmg
            subst he12
            have HL12 := Lib.hid hlo12
            have HC12 := Lib.hid hc12
            clear hlo12 hc12
            rcases HC12.out with rfl | rfl | ⟨rfl, hlo13⟩
            · go_wp2_with fail
              refine (HA.out _).mono ?_
              rintro e' w19 ⟨rfl, hb19⟩
              go_wp2_with fail
              go_ret
              exact ⟨rfl, (HL12.out.next hb19).1.1⟩
            · go_wp2_with fail
              refine (HA.out _).mono ?_
              rintro e' w19 ⟨rfl, hb19⟩
              go_wp2_with fail
              go_ret
              exact ⟨rfl, (HL12.out.next hb19).1.1⟩
            · have HL13 := Lib.hid hlo13
              clear hlo13
              obtain ⟨s0, s1, s2, s3, s4, s5, s6, s7, s8, s9, s10⟩ := HL13.out.1.2.cell
              dsimp only at s0 s1 s2 s3 s4 s5 s6 s7 s8 s9 s10
              go_wp2_with fail
              refine (HJ'.out _ v12 HL13.out).mono ?_
              intro e' w14 hj
              obtain ⟨hjg, hb14⟩ := hj
              have HL14 := Lib.hid (HL13.out.next hb14)
              clear hb14 s0 s1 s2 s3 s4 s5 s6 s7 s8 s9 s10
              rcases hjg with rfl | rfl
              all_goals
                go_wp2_with fail
                refine (HA.out _).mono ?_
                rintro e' w19 ⟨rfl, hb19⟩
                go_wp2_with fail
                go_ret
                exact ⟨rfl, (HL14.out.next hb19).1.1⟩
    · have hkn : ¬ k < n := hlt
      go_wp2_with fail
      refine ((HMG.out _ cv hlo.out).1).mono ?_
      intro e' w8 hmg
      obtain ⟨v8, er8, he8, hlo8, hc8⟩ := hmg
      subst he8
      have HL8 := Lib.hid hlo8
      have HC8 := Lib.hid hc8
      clear hlo8 hc8
      rcases HC8.out with rfl | rfl | ⟨rfl, hlo9⟩
      · go_wp2_with fail
        refine ((HMG.out _ cv HL8.out).2).mono ?_
        intro e' w12 hmg
        obtain ⟨v12, er12, he12, hlo12, hc12⟩ := hmg
        subst he12
        have HL12 := Lib.hid hlo12
        have HC12 := Lib.hid hc12
        clear hlo12 hc12
        rcases HC12.out with rfl | rfl | ⟨rfl, hlo13⟩
        · go_wp2_with fail
          refine (HA.out _).mono ?_
          rintro e' w19 ⟨rfl, hb19⟩
          go_wp2_with fail
          go_ret
          exact ⟨rfl, (HL12.out.next hb19).1.1⟩
        · go_wp2_with fail
          refine (HA.out _).mono ?_
          rintro e' w19 ⟨rfl, hb19⟩
          go_wp2_with fail
          go_ret
          exact ⟨rfl, (HL12.out.next hb19).1.1⟩
        · have HL13 := Lib.hid hlo13
          clear hlo13
          obtain ⟨s0, s1, s2, s3, s4, s5, s6, s7, s8, s9, s10⟩ := HL13.out.1.2.cell
          dsimp only at s0 s1 s2 s3 s4 s5 s6 s7 s8 s9 s10
          go_wp2_with fail
          refine (HJ'.out _ v12 HL13.out).mono ?_
          intro e' w14 hj
          obtain ⟨hjg, hb14⟩ := hj
          have HL14 := Lib.hid (HL13.out.next hb14)
          clear hb14 s0 s1 s2 s3 s4 s5 s6 s7 s8 s9 s10
          rcases hjg with rfl | rfl
          all_goals
            go_wp2_with fail
            refine (HA.out _).mono ?_
            rintro e' w19 ⟨rfl, hb19⟩
            go_wp2_with fail
            go_ret
            exact ⟨rfl, (HL14.out.next hb19).1.1⟩
      · go_wp2_with fail
        refine ((HMG.out _ cv HL8.out).2).mono ?_
        intro e' w12 hmg
        obtain ⟨v12, er12, he12, hlo12, hc12⟩ := hmg
        subst he12
        have HL12 := Lib.hid hlo12
        have HC12 := Lib.hid hc12
        clear hlo12 hc12
        rcases HC12.out with rfl | rfl | ⟨rfl, hlo13⟩
        · go_wp2_with fail
          refine (HA.out _).mono ?_
          rintro e' w19 ⟨rfl, hb19⟩
          go_wp2_with fail
          go_ret
          exact ⟨rfl, (HL12.out.next hb19).1.1⟩
        · go_wp2_with fail
          refine (HA.out _).mono ?_
          rintro e' w19 ⟨rfl, hb19⟩
          go_wp2_with fail
          go_ret
          exact ⟨rfl, (HL12.out.next hb19).1.1⟩
        · have HL13 := Lib.hid hlo13
          clear hlo13
          obtain ⟨s0, s1, s2, s3, s4, s5, s6, s7, s8, s9, s10⟩ := HL13.out.1.2.cell
          dsimp only at s0 s1 s2 s3 s4 s5 s6 s7 s8 s9 s10
          go_wp2_with fail
          refine (HJ'.out _ v12 HL13.out).mono ?_
          intro e' w14 hj
          obtain ⟨hjg, hb14⟩ := hj
          have HL14 := Lib.hid (HL13.out.next hb14)
          clear hb14 s0 s1 s2 s3 s4 s5 s6 s7 s8 s9 s10
          rcases hjg with rfl | rfl
          all_goals
            go_wp2_with fail
            refine (HA.out _).mono ?_
            rintro e' w19 ⟨rfl, hb19⟩
            go_wp2_with fail
            go_ret
            exact ⟨rfl, (HL14.out.next hb19).1.1⟩
      · have HL9 := Lib.hid hlo9
        clear hlo9
        obtain ⟨x0, x1, x2, x3, x4, x5, x6, x7, x8, x9, x10⟩ := HL9.out.1.2.cell
        dsimp only at x0 x1 x2 x3 x4 x5 x6 x7 x8 x9 x10
        go_wp2_with fail
        refine (HJ'.out _ v8 HL9.out).mono ?_
        intro e' w10 hj
        obtain ⟨hjg, hb10⟩ := hj
        have HL10 : Hid (LoRel w ((c, r, e, (x, y, z), f, vv, ni, nx, mo), ai, ci) v8 w10 ∧ LoRel w ((c, r, e, (x, y, z), f, vv, ni, nx, mo), ai, ci) cv w10) := ⟨HL9.out.next hb10, HL8.out.next hb10⟩
        clear hb10 x0 x1 x2 x3 x4 x5 x6 x7 x8 x9 x10
        rcases hjg with rfl | rfl
        all_goals
          go_wp2_with fail
          refine (HR.out _ v8 HL10.out.1).mono ?_
          rintro e' w11 ⟨rfl, hb11⟩
          have HL11 := Lib.hid (HL10.out.2.next hb11)
          clear hb11
          go_wp2_with fail
          refine ((HMG.out _ cv HL11.out).2).mono ?_
          intro e' w12 hmg
          obtain ⟨v12, er12, he12, hlo12, hc12⟩ := hmg
          subst he12
          have HL12 := Lib.hid hlo12
          have HC12 := Lib.hid hc12
          clear hlo12 hc12
          rcases HC12.out with rfl | rfl | ⟨rfl, hlo13⟩
          · go_wp2_with fail
            refine (HA.out _).mono ?_
            rintro e' w19 ⟨rfl, hb19⟩
            go_wp2_with fail
            go_ret
            exact ⟨rfl, (HL12.out.next hb19).1.1⟩
          · go_wp2_with fail
            refine (HA.out _).mono ?_
            rintro e' w19 ⟨rfl, hb19⟩
            go_wp2_with fail
            go_ret
            exact ⟨rfl, (HL12.out.next hb19).1.1⟩
          · have HL13 := Lib.hid hlo13
            clear hlo13
            obtain ⟨s0, s1, s2, s3, s4, s5, s6, s7, s8, s9, s10⟩ := HL13.out.1.2.cell
            dsimp only at s0 s1 s2 s3 s4 s5 s6 s7 s8 s9 s10
            go_wp2_with fail
            refine (HJ'.out _ v12 HL13.out).mono ?_
            intro e' w14 hj
            obtain ⟨hjg, hb14⟩ := hj
            have HL14 := Lib.hid (HL13.out.next hb14)
            clear hb14 s0 s1 s2 s3 s4 s5 s6 s7 s8 s9 s10
            rcases hjg with rfl | rfl
            all_goals
              go_wp2_with fail
              refine (HA.out _).mono ?_
              rintro e' w19 ⟨rfl, hb19⟩
              go_wp2_with fail
              go_ret
              exact ⟨rfl, (HL14.out.next hb19).1.1⟩

end Go.Proofs.Ytdiabcdpnbhibaa
