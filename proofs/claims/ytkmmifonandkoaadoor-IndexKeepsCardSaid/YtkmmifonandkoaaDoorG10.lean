/-
  Merged texts, in build order: IxRefPut IxRefPutAll IxPutsWalk.
-/
import Derived.Test.YtkmmifonandkoaaDoorG09
import Derived.Test.YtkmmifonandkoaaDoorG06
import Derived.Test.YtkmmifonandkoaaDoorG04
import Derived.Test.YtkmmifonandkoaaDoorG08

/-
  The contract of the document's Put.
-/
set_option linter.unusedVariables false
namespace Go.Proofs.YtkmmifonandkoaaDoor
open Go.RowKit

set_option maxRecDepth 100000 in
set_option maxHeartbeats 1000000 in
theorem refPut_bad (w : World) (v : Value) (k : ByteArray) (a b c : Int) (g : Bool) (s : ByteArray) (r1 r2 r3 : Bool) (hbad : r1 = false ∨ r2 = false ∨ r3 = false)
    (HR : Hid (∀ W, Below w.heap.size w W → Calls Tryd.prog 17 #[v] W fun e w' => e = .returned (.bool r1) ∧ Below W.heap.size W w'))
    (HK : Hid (∀ W, Calls Tryd.prog 36 #[.string k] W fun e w' => e = .returned (.bool r2) ∧ W = w'))
    (HO : Hid (∀ W, Calls Tryd.prog 37 #[(Go.Value.agg #[Go.Value.int Go.IntKind.i64 a, Go.Value.int Go.IntKind.i64 b, Go.Value.int Go.IntKind.i64 c, Go.Value.bool g, Go.Value.string s])] W fun e w' => e = .returned (.bool r3) ∧ Below W.heap.size W w')) :
    Calls Tryd.prog 14 #[v, .string k, (Go.Value.agg #[Go.Value.int Go.IntKind.i64 a, Go.Value.int Go.IntKind.i64 b, Go.Value.int Go.IntKind.i64 c, Go.Value.bool g, Go.Value.string s])] w fun e w' => e = .returned (.tuple #[.slice none 0 0, .int .i64 1]) ∧ Below w.heap.size w w' := by
  have HV0 : Hid (VBox (w.alloc (.cells #[.int .i64 a, .int .i64 b, .int .i64 c, .bool g, .string s] 26)) w.heap.size a b c g s) := VBox.new w a b c g s
  have HB0 : Hid (Below w.heap.size w (w.alloc (.cells #[.int .i64 a, .int .i64 b, .int .i64 c, .bool g, .string s] 26))) := (Below.refl _ _).alloc (Nat.le_refl _) _
  cases r1
  · clear hbad
    go_enter Tryd.func14, Tryd.ntmps14
    go_wp2_with fail
    refine (HR.out _ HB0.out).mono ?_
    rintro e w1 ⟨rfl, hb1⟩
    go_wp2_with fail
    go_ret2
    exact ⟨rfl, HB0.out.trans (hb1.mono HB0.out.size)⟩
  cases r2
  · clear hbad
    go_enter Tryd.func14, Tryd.ntmps14
    go_wp2_with fail
    refine (HR.out _ HB0.out).mono ?_
    rintro e w1 ⟨rfl, hb1⟩
    go_wp2_with fail
    refine (HK.out _).mono ?_
    rintro e w2 ⟨rfl, rfl⟩
    go_wp2_with fail
    go_ret2
    exact ⟨rfl, HB0.out.trans (hb1.mono HB0.out.size)⟩
  · obtain rfl : r3 = false := by rcases hbad with h | h | h <;> first | (cases h; done) | exact h
    clear hbad
    go_enter Tryd.func14, Tryd.ntmps14
    go_wp2_with fail
    refine (HR.out _ HB0.out).mono ?_
    rintro e w1 ⟨rfl, hb1⟩
    go_wp2_with fail
    refine (HK.out _).mono ?_
    rintro e w2 ⟨rfl, rfl⟩
    have hv1 := HV0.out.over hb1
    obtain ⟨x0, x1, x2, x3, x4⟩ := hv1.cell
    go_wp2_with fail
    refine (HO.out _).mono ?_
    rintro e w3 ⟨rfl, hb3⟩
    have hb := HB0.out.trans (hb1.mono HB0.out.size)
    go_wp2_with fail
    go_ret2
    exact ⟨rfl, hb.trans (hb3.mono hb.size)⟩

theorem wp_append_vers {w : World} {o : Oper} {a : Act} {K : Act → World → Prop} {Q : Exit → Act → World → Prop} (s x : Operand)
    (ho : o.op = .call { callee := .builtin .append, args := #[s, x], argTypes := #[39, 39] }) (base : Nat) (v u : Value) (xs l : List Ver) (hs : a.eval s = v) (hown : OwnsV w base v xs) (hx : a.eval x = u) (hu : Vers w u l)
    (hlen : xs.length + l.length ≤ 1000000) (hbase : base ≤ w.heap.size)
    (h : ∀ v' w', OwnsV w' base v' (xs ++ l) → w.grownBy w' v.ownBlock → K (a.put o.dst v') w') : o.wp Tryd.prog a w K Q := by
  obtain ⟨i0, hi, hz0, hz1, hz2⟩ := info_parts info_ver
  have hown' : w.ownsRow base 26 5 v xs.length (versC xs) := hown
  obtain ⟨ao, cap, rfl, h1, h2, h3⟩ := hu
  have hmany : ∀ ad, ao = some ad → (∀ j u, (versC l)[j]? = some u → w.cell? (ad.add j) = some u) → o.wp Tryd.prog a w K Q := by
    rintro ad rfl hn
    refine wp_append_own w s x 39 ho base 26 i0 _ 5 48 Tryd.underlying39 hi hz0 hz1 hz2 rfl (by decide) v _ _ hs hown' ad _ cap (versC l) hx (versC_len l) hn (versC_one l) (by unfold maxLen; omega) (by omega) hbase fun v' w' hown1 hg _ => h v' w' ?_ hg
    show World.ownsRow w' base _ 5 v' (xs ++ l).length (versC (xs ++ l))
    rw [List.length_append, show versC (xs ++ l) = versC xs ++ versC l by simp [versC]]
    exact hown1
  rcases Nat.eq_zero_or_pos l.length with h0 | h0
  · obtain rfl : l = [] := List.length_eq_zero_iff.1 h0
    cases ao with
    | some ad => exact hmany ad rfl (by intro j u hj; simp [versC] at hj)
    | none =>
      have h' := h v w (by rw [List.append_nil]; exact hown) ⟨rfl, rfl, rfl, Nat.le_refl _, fun _ _ _ => rfl⟩
      exact Lib.wp_append_run w s x _ _ ho v _ hs hx v w (run_append_none' base _ _ _ i0 5 cap Tryd.underlying39 hi v _ _ hown') h'
  · obtain ⟨b, off, e, hb, hcl⟩ := h3 h0
    exact hmany _ e (vers_news rfl hcl)
theorem OwnsV.block {w : World} {B : Nat} {v : Value} {l : List Ver} (h : OwnsV w B v l) : ∀ k, v.ownBlock = some k → B ≤ k ∧ ∃ cs, w.heap[k]? = some (.cells cs 26 (0, 0)) := by
  intro k hk
  rcases h.2 with ⟨rfl, _⟩ | ⟨g, cap, cur, rfl, hB, hg, _⟩
  · cases hk
  · simp only [Value.ownBlock, Option.some.injEq] at hk
    subst hk
    exact ⟨hB, cur, hg⟩

theorem vers_lit0 {w : World} {g : Nat} {a b c : Int} {k : Bool} {s : ByteArray} (H : VBox w g a b c k s) : Vers w (.slice (some ⟨g, 0, none⟩) 1 1) [(a, b, c, k, s)] :=
  ⟨_, 1, rfl, Nat.le_refl _, by unfold maxLen; omega, fun _ => ⟨g, 0, rfl, H.lt, fun i hi => by
    obtain rfl : i = 0 := by simpa using hi
    exact H.cell⟩⟩
theorem run_alloc_ent (ρ : Operand → Value) (o : Oper) (ho : o.op = .alloc 60) (w : World) : (execOp ρ o).run Tryd.prog w = .ok (.value (.pointer (some ⟨w.heap.size, 0, none⟩))) (w.alloc (.cells #[.string { data := #[] }, .slice none 0 0] 60)) := by
  unfold execOp
  rw [ho]
  kernel_rfl
theorem run_one_ver (w : World) (a b c : Int) (g : Bool) (s : ByteArray) : (Instr.buildSlice 39 1 #[(0, (Go.Value.agg #[Go.Value.int Go.IntKind.i64 a, Go.Value.int Go.IntKind.i64 b, Go.Value.int Go.IntKind.i64 c, Go.Value.bool g, Go.Value.string s]))]).run Tryd.prog w = .ok (.slice (some ⟨w.heap.size, 0, none⟩) 1 1) (w.alloc (.cells #[.int .i64 a, .int .i64 b, .int .i64 c, .bool g, .string s] 26)) := by kernel_rfl
theorem run_slice_ver (ρ : Operand → Value) (o : Oper) (x : Operand) (ho : o.op = .buildSlice 39 1 #[(0, x)]) (a b c : Int) (g : Bool) (s : ByteArray) (hx : ρ x = (Go.Value.agg #[Go.Value.int Go.IntKind.i64 a, Go.Value.int Go.IntKind.i64 b, Go.Value.int Go.IntKind.i64 c, Go.Value.bool g, Go.Value.string s])) (w : World) :
    (execOp ρ o).run Tryd.prog w = .ok (.value (.slice (some ⟨w.heap.size, 0, none⟩) 1 1)) (w.alloc (.cells #[.int .i64 a, .int .i64 b, .int .i64 c, .bool g, .string s] 26)) := by
  unfold execOp
  rw [ho]
  simp only [List.map_toArray, List.map_cons, List.map_nil, hx, Sem.run_bind, run_one_ver w a b c g s, Result.andThen_ok, Sem.run_pure]
theorem run_build_ent (ρ : Operand → Value) (o : Oper) (x y : Operand) (ho : o.op = .build 60 #[(0, x), (1, y)]) (k : ByteArray) (hx : ρ x = .string k) (ao : Option Addr) (n cap : Nat) (hy : ρ y = .slice ao n cap) (w : World) :
    (execOp ρ o).run Tryd.prog w = .ok (.value (.agg #[.string k, .slice ao n cap])) w := by
  unfold execOp
  rw [ho]
  simp only [List.map_toArray, List.map_cons, List.map_nil, hx, hy]
  kernel_rfl

/-- What is known while the entry is made: done operations d, their values f. -/
def PutI (wc : World) (k : ByteArray) (u : Ver) (cv : Value) (cl : List Ver) (d : Nat → Bool) (f : Nat → Value) (W : World) : Prop :=
  Below wc.heap.size wc W ∧ (d 0 = true → f 0 = .string k) ∧ (d 1 = true → f 1 = .slice none 0 0) ∧ (d 2 = true → f 2 = cv) ∧
  (d 3 = true → d 6 = false → OwnsV W wc.heap.size (f 3) cl) ∧ (d 4 = true → f 4 = verV u) ∧
  (d 5 = true → d 6 = false → ∃ B, f 5 = .slice (some ⟨B, 0, none⟩) 1 1 ∧ VBox W B u.1 u.2.1 u.2.2.1 u.2.2.2.1 u.2.2.2.2) ∧
  (d 6 = true → OwnsV W wc.heap.size (f 6) (cl ++ [u])) ∧ (d 7 = true → d 6 = true ∧ f 7 = .agg #[.string k, f 6]) ∧
  (d 8 = true → ∃ g, f 8 = .pointer (some ⟨g, 0, none⟩) ∧ wc.heap.size ≤ g ∧ W.heap[g]? = some (.cells (if d 9 then #[.string k, f 6] else #[.string { data := #[] }, .slice none 0 0]) 60 (0, 0))) ∧
  (d 9 = true → d 6 = true ∧ d 8 = true)
section
variable {wc W W' : World} {k : ByteArray} {u : Ver} {cv : Value} {cl : List Ver} {d : Nat → Bool} {f : Nat → Value}
theorem PutI.next (H : PutI wc k u cv cl d f W) (hb : Below W.heap.size W W') : PutI wc k u cv cl d f W' := by
  obtain ⟨h, h0, h1, h2, h3, h4, h5, h6, h7, h8, h9⟩ := H
  refine ⟨h.trans (hb.mono h.size), h0, h1, h2, fun a b => (h3 a b).next hb, h4, fun a b => ?_, fun a => (h6 a).next hb, h7, fun a => ?_, h9⟩
  · obtain ⟨B, e, hB⟩ := h5 a b
    exact ⟨B, e, hB.over hb⟩
  · obtain ⟨g, e, hg, hc⟩ := h8 a
    refine ⟨g, e, hg, (hb.block g ?_).trans hc⟩
    rcases Nat.lt_or_ge g W.heap.size with h1 | h1
    · exact h1
    · rw [Array.getElem?_eq_none h1] at hc; cases hc
theorem PutI.s0 (H : PutI wc k u cv cl d f W)  : PutI wc k u cv cl (Rg.upd d 0 true) (Rg.upd f 0 (.string k)) W := by
  obtain ⟨h, h0, h1, h2, h3, h4, h5, h6, h7, h8, h9⟩ := H
  exact ⟨h, fun _ => rfl, by simpa [Rg.upd] using h1, by simpa [Rg.upd] using h2, by simpa [Rg.upd] using h3, by simpa [Rg.upd] using h4, by simpa [Rg.upd] using h5, by simpa [Rg.upd] using h6, by simpa [Rg.upd] using h7, by simpa [Rg.upd] using h8, by simpa [Rg.upd] using h9⟩
theorem PutI.s1 (H : PutI wc k u cv cl d f W)  : PutI wc k u cv cl (Rg.upd d 1 true) (Rg.upd f 1 (.slice none 0 0)) W := by
  obtain ⟨h, h0, h1, h2, h3, h4, h5, h6, h7, h8, h9⟩ := H
  exact ⟨h, by simpa [Rg.upd] using h0, fun _ => rfl, by simpa [Rg.upd] using h2, by simpa [Rg.upd] using h3, by simpa [Rg.upd] using h4, by simpa [Rg.upd] using h5, by simpa [Rg.upd] using h6, by simpa [Rg.upd] using h7, by simpa [Rg.upd] using h8, by simpa [Rg.upd] using h9⟩
theorem PutI.s2 (H : PutI wc k u cv cl d f W)  : PutI wc k u cv cl (Rg.upd d 2 true) (Rg.upd f 2 cv) W := by
  obtain ⟨h, h0, h1, h2, h3, h4, h5, h6, h7, h8, h9⟩ := H
  exact ⟨h, by simpa [Rg.upd] using h0, by simpa [Rg.upd] using h1, fun _ => rfl, by simpa [Rg.upd] using h3, by simpa [Rg.upd] using h4, by simpa [Rg.upd] using h5, by simpa [Rg.upd] using h6, by simpa [Rg.upd] using h7, by simpa [Rg.upd] using h8, by simpa [Rg.upd] using h9⟩
theorem PutI.s3 (H : PutI wc k u cv cl d f W) {v : Value} (hv : OwnsV W wc.heap.size v cl) : PutI wc k u cv cl (Rg.upd d 3 true) (Rg.upd f 3 v) W := by
  obtain ⟨h, h0, h1, h2, h3, h4, h5, h6, h7, h8, h9⟩ := H
  exact ⟨h, by simpa [Rg.upd] using h0, by simpa [Rg.upd] using h1, by simpa [Rg.upd] using h2, fun _ _ => hv, by simpa [Rg.upd] using h4, by simpa [Rg.upd] using h5, by simpa [Rg.upd] using h6, by simpa [Rg.upd] using h7, by simpa [Rg.upd] using h8, by simpa [Rg.upd] using h9⟩
theorem PutI.s4 (H : PutI wc k u cv cl d f W)  : PutI wc k u cv cl (Rg.upd d 4 true) (Rg.upd f 4 (verV u)) W := by
  obtain ⟨h, h0, h1, h2, h3, h4, h5, h6, h7, h8, h9⟩ := H
  exact ⟨h, by simpa [Rg.upd] using h0, by simpa [Rg.upd] using h1, by simpa [Rg.upd] using h2, by simpa [Rg.upd] using h3, fun _ => rfl, by simpa [Rg.upd] using h5, by simpa [Rg.upd] using h6, by simpa [Rg.upd] using h7, by simpa [Rg.upd] using h8, by simpa [Rg.upd] using h9⟩
theorem PutI.s5 (H : PutI wc k u cv cl d f W) {B : Nat} (hB : VBox W B u.1 u.2.1 u.2.2.1 u.2.2.2.1 u.2.2.2.2) : PutI wc k u cv cl (Rg.upd d 5 true) (Rg.upd f 5 (.slice (some ⟨B, 0, none⟩) 1 1)) W := by
  obtain ⟨h, h0, h1, h2, h3, h4, h5, h6, h7, h8, h9⟩ := H
  exact ⟨h, by simpa [Rg.upd] using h0, by simpa [Rg.upd] using h1, by simpa [Rg.upd] using h2, by simpa [Rg.upd] using h3, by simpa [Rg.upd] using h4, fun _ _ => ⟨B, rfl, hB⟩, by simpa [Rg.upd] using h6, by simpa [Rg.upd] using h7, by simpa [Rg.upd] using h8, by simpa [Rg.upd] using h9⟩
theorem PutI.s6 (H : PutI wc k u cv cl d f W) (h3d : d 3 = true) (h6d : d 6 = false) {v : Value} (hv : OwnsV W' wc.heap.size v (cl ++ [u])) (hg : W.grownBy W' (f 3).ownBlock) : PutI wc k u cv cl (Rg.upd d 6 true) (Rg.upd f 6 v) W' := by
  obtain ⟨h, h0, h1, h2, h3, h4, h5, h6, h7, h8, h9⟩ := H
  have ho := h3 h3d h6d
  have h9d : d 9 = false := by
    cases e : d 9
    · rfl
    · rw [(h9 e).1] at h6d; cases h6d
  have h7d : d 7 = false := by
    cases e : d 7
    · rfl
    · rw [(h7 e).1] at h6d; cases h6d
  refine ⟨h.grown hg h.size (fun k hk => (OwnsV.block ho k hk).1), by simpa [Rg.upd] using h0, by simpa [Rg.upd] using h1, by simpa [Rg.upd] using h2, fun _ e => ?_, by simpa [Rg.upd] using h4, fun _ e => ?_, fun _ => hv, fun e => ?_, fun e => ?_, fun e => by rw [Rg.upd_other d true (by decide : (9 : Nat) ≠ 6), h9d] at e; cases e⟩
  · rw [Rg.upd_same] at e; cases e
  · rw [Rg.upd_same] at e; cases e
  · rw [Rg.upd_other d true (by decide), h7d] at e; cases e
  · obtain ⟨g, e1, hgb, hc⟩ := h8 (by simpa [Rg.upd] using e)
    rw [h9d] at hc
    have hne : some g ≠ (f 3).ownBlock := by
      intro he
      obtain ⟨_, cs, hcs⟩ := ho.block g he.symm
      rw [hc] at hcs
      injection hcs with hcs
      injection hcs with _ h10
      exact absurd h10 (by decide)
    have hlt : g < W.heap.size := by
      rcases Nat.lt_or_ge g W.heap.size with h1 | h1
      · exact h1
      · rw [Array.getElem?_eq_none h1] at hc; cases hc
    refine ⟨g, by simpa [Rg.upd] using e1, hgb, ?_⟩
    rw [Rg.upd_other d true (by decide : (9 : Nat) ≠ 6), h9d]
    exact (hg.block g hlt hne).trans hc
theorem PutI.s7 (H : PutI wc k u cv cl d f W) (h6d : d 6 = true) : PutI wc k u cv cl (Rg.upd d 7 true) (Rg.upd f 7 (.agg #[.string k, f 6])) W := by
  obtain ⟨h, h0, h1, h2, h3, h4, h5, h6, h7, h8, h9⟩ := H
  exact ⟨h, by simpa [Rg.upd] using h0, by simpa [Rg.upd] using h1, by simpa [Rg.upd] using h2, by simpa [Rg.upd] using h3, by simpa [Rg.upd] using h4, by simpa [Rg.upd] using h5, by simpa [Rg.upd] using h6, fun _ => ⟨by simpa [Rg.upd] using h6d, rfl⟩, by simpa [Rg.upd] using h8, by simpa [Rg.upd] using h9⟩
theorem PutI.s8 (H : PutI wc k u cv cl d f W) (h8d : d 8 = false) (h9d : d 9 = false) {g : Nat} (hg : wc.heap.size ≤ g) (hc : W.heap[g]? = some (.cells #[.string { data := #[] }, .slice none 0 0] 60 (0, 0))) : PutI wc k u cv cl (Rg.upd d 8 true) (Rg.upd f 8 (.pointer (some ⟨g, 0, none⟩))) W := by
  obtain ⟨h, h0, h1, h2, h3, h4, h5, h6, h7, h8, h9⟩ := H
  refine ⟨h, by simpa [Rg.upd] using h0, by simpa [Rg.upd] using h1, by simpa [Rg.upd] using h2, by simpa [Rg.upd] using h3, by simpa [Rg.upd] using h4, by simpa [Rg.upd] using h5, by simpa [Rg.upd] using h6, by simpa [Rg.upd] using h7, fun _ => ⟨g, rfl, hg, ?_⟩, fun e => by rw [Rg.upd_other d true (by decide : (9 : Nat) ≠ 8), h9d] at e; cases e⟩
  rw [Rg.upd_other d true (by decide : (9 : Nat) ≠ 8), h9d]
  exact hc
theorem OwnsV.other {w : World} {B g : Nat} {v : Value} {l : List Ver} (h : OwnsV w B v l) (hg : ∀ k, v.ownBlock = some k → k ≠ g) (cs : Array Value) : OwnsV (w.setRow g cs) B v l := by
  obtain ⟨hl, h2⟩ := h
  refine ⟨hl, ?_⟩
  rcases h2 with h2 | ⟨g', cap, cur, rfl, e2, e3, r⟩
  · exact .inl h2
  · exact .inr ⟨g', cap, cur, rfl, e2, (setRow_other w g g' cs (hg g' rfl)).trans e3, r⟩
theorem PutI.s9 (H : PutI wc k u cv cl d f W) (h6d : d 6 = true) (h8d : d 8 = true) (h9d : d 9 = false) {g : Nat} (hf : f 8 = .pointer (some ⟨g, 0, none⟩)) (x : Value) : PutI wc k u cv cl (Rg.upd d 9 true) (Rg.upd f 9 x) (W.setRow g #[.string k, f 6]) := by
  obtain ⟨h, h0, h1, h2, h3, h4, h5, h6, h7, h8, h9⟩ := H
  obtain ⟨g', e1, hgb, hc⟩ := h8 h8d
  rw [h9d] at hc
  obtain rfl : g' = g := by
    rw [hf] at e1
    injection e1 with e1
    injection e1 with e1
    injection e1 with e1
    exact e1.symm
  have ho := h6 h6d
  refine ⟨below_setRow h hgb _, by simpa [Rg.upd] using h0, by simpa [Rg.upd] using h1, by simpa [Rg.upd] using h2, fun _ e => ?_, by simpa [Rg.upd] using h4, fun _ e => ?_, fun _ => ?_, by simpa [Rg.upd] using h7, fun _ => ⟨g', by simpa [Rg.upd] using hf, hgb, ?_⟩, fun _ => ⟨by simpa [Rg.upd] using h6d, by simpa [Rg.upd] using h8d⟩⟩
  · rw [Rg.upd_other d true (by decide : (6 : Nat) ≠ 9), h6d] at e; cases e
  · rw [Rg.upd_other d true (by decide : (6 : Nat) ≠ 9), h6d] at e; cases e
  · rw [Rg.upd_other f x (by decide : (6 : Nat) ≠ 9)]
    refine ho.other (fun k hk e => ?_) _
    subst e
    obtain ⟨_, cs, hcs⟩ := ho.block _ hk
    rw [hc] at hcs
    injection hcs with hcs
    injection hcs with _ h10
    exact absurd h10 (by decide)
  · rw [Rg.upd_same, Rg.upd_other f x (by decide : (6 : Nat) ≠ 9)]
    exact setRow_heap W g' _ _ _ _ hc
end

/-- What Put knows once it has the chain: the version's box, the chain. -/
def PuRel (w : World) (g5 : Nat) (u : Ver) (cv : Value) (c : List Ver) (W : World) : Prop := Below w.heap.size w W ∧ VBox W g5 u.1 u.2.1 u.2.2.1 u.2.2.2.1 u.2.2.2.2 ∧ Vers W cv c
theorem PuRel.next {w W W' : World} {g5 : Nat} {u : Ver} {cv : Value} {c : List Ver} (H : PuRel w g5 u cv c W) (hb : Below W.heap.size W W') : PuRel w g5 u cv c W' := ⟨H.1.trans (hb.mono H.1.size), H.2.1.over hb, H.2.2.next hb⟩
theorem PuRel.drew {w W : World} {g5 : Nat} {u : Ver} {cv : Value} {c : List Ver} (H : PuRel w g5 u cv c W) : PuRel w g5 u cv c W.drew := H.next ((Below.refl _ _).drew)

/-- The same, with the chain's last version. -/
def PuL (W4 w : World) (g5 : Nat) (u : Ver) (cv : Value) (c : List Ver) (b o : Nat) (t : Ver) (W : World) : Prop := b < W4.heap.size ∧ Below W4.heap.size W4 W ∧ VerAt W b o t ∧ PuRel w g5 u cv c W
theorem PuL.next {W4 w W W' : World} {g5 b o : Nat} {u t : Ver} {cv : Value} {c : List Ver} (H : PuL W4 w g5 u cv c b o t W) (hb : Below W.heap.size W W') : PuL W4 w g5 u cv c b o t W' := by
  obtain ⟨h0, h1, h2, h3⟩ := H
  have := h1.size
  exact ⟨h0, h1.trans (hb.mono h1.size), h2.next hb (by omega), h3.next hb⟩
theorem PuL.drew {W4 w W : World} {g5 b o : Nat} {u t : Ver} {cv : Value} {c : List Ver} (H : PuL W4 w g5 u cv c b o t W) : PuL W4 w g5 u cv c b o t W.drew := H.next ((Below.refl _ _).drew)

set_option maxRecDepth 100000 in
set_option maxHeartbeats 2000000 in
theorem refPut_good (w : World) (v : Value) (l : List Ent) (k : ByteArray) (a b c : Int) (g : Bool) (s : ByteArray) (n : Nat) (hp : IsPos l k n) (hr : rightI l = true) (hk : Ky.right k = true) (hv : Ents w v l)
    (hks : ∀ i, i < l.length → (lat l i).1.size ≤ 1048576)
    (HR : Hid (∀ W, Below w.heap.size w W → Calls Tryd.prog 17 #[v] W fun e w' => e = .returned (.bool true) ∧ Below W.heap.size W w'))
    (HK : Hid (∀ W, Calls Tryd.prog 36 #[.string k] W fun e w' => e = .returned (.bool true) ∧ W = w'))
    (HO : Hid (∀ W, Calls Tryd.prog 37 #[(Go.Value.agg #[Go.Value.int Go.IntKind.i64 a, Go.Value.int Go.IntKind.i64 b, Go.Value.int Go.IntKind.i64 c, Go.Value.bool g, Go.Value.string s])] W fun e w' => e = .returned (.bool true) ∧ Below W.heap.size W w')) :
    (laterB (chainOf l k n) (a, b, c, g, s) = true → (chainOf l k n).length < 64 → ((chainOf l k n).length = 0 → l.length < 64) → Calls Tryd.prog 14 #[v, .string k, (Go.Value.agg #[Go.Value.int Go.IntKind.i64 a, Go.Value.int Go.IntKind.i64 b, Go.Value.int Go.IntKind.i64 c, Go.Value.bool g, Go.Value.string s])] w fun e w' => ∃ v', e = .returned (.tuple #[v', .int .i64 0]) ∧ Ents w' v' (putI l k n (a, b, c, g, s)) ∧ Below w.heap.size w w') := by
  have HV0 : Hid (VBox (w.alloc (.cells #[.int .i64 a, .int .i64 b, .int .i64 c, .bool g, .string s] 26)) w.heap.size a b c g s) := VBox.new w a b c g s
  have HB0 : Hid (Below w.heap.size w (w.alloc (.cells #[.int .i64 a, .int .i64 b, .int .i64 c, .bool g, .string s] 26))) := (Below.refl _ _).alloc (Nat.le_refl _) _
  have HOF : Hid (∀ W, Below w.heap.size w W → Calls Tryd.prog 20 #[v, .string k] W fun e w' => ∃ u, e = .returned u ∧ Vers w' u (chainOf l k n) ∧ w' = W) := fun W hW => refOf_any (hv.next hW) hr k hp
  obtain ⟨cl, hcl⟩ : ∃ cl, cl = chainOf l k n := ⟨_, rfl⟩
  rw [← hcl] at HOF ⊢
  have HCL := Lib.hid hcl
  obtain ⟨ai, ni, ci, es, rfl, hil, hile, himx, hin, hirow, hilead⟩ := hv.opened
  have HIL := Lib.hid hil
  have HIR := Lib.hid hirow
  have HIE := Lib.hid hilead
  have HPOS := Lib.hid hp
  have HRI := Lib.hid hr
  have HKR := Lib.hid hk
  have HKS := Lib.hid hks
  clear hv hp hr hk hks hil hile himx hirow hilead hcl
  intro hlat h64 h0
  go_enter Tryd.func14, Tryd.ntmps14
  go_wp2_with fail
  refine (HR.out _ HB0.out).mono ?_
  rintro e w1 ⟨rfl, hb1⟩
  go_wp2_with fail
  refine (HK.out _).mono ?_
  rintro e w2 ⟨rfl, rfl⟩
  have hv1 := HV0.out.over hb1
  obtain ⟨x0, x1, x2, x3, x4⟩ := hv1.cell
  go_wp2_with fail
  refine (HO.out _).mono ?_
  rintro e w3 ⟨rfl, hb3⟩
  have H3 : Hid (Below w.heap.size w w3 ∧ VBox w3 w.heap.size a b c g s) := ⟨(HB0.out.trans (hb1.mono HB0.out.size)).trans (hb3.mono (HB0.out.trans (hb1.mono HB0.out.size)).size), hv1.over hb3⟩
  clear hb1 hb3 hv1 x0 x1 x2 x3 x4
  go_wp2_with fail
  refine (HOF.out _ H3.out.1).mono ?_
  rintro e w4 ⟨cv, rfl, hcv, rfl⟩
  have H4 : Hid (PuRel w w.heap.size (a, b, c, g, s) cv cl w4) := ⟨H3.out.1, H3.out.2, hcv⟩
  obtain ⟨ao, cap, rfl, hz1, hz2, hz3⟩ := hcv
  obtain ⟨m, hm⟩ : ∃ m, cl.length = m := ⟨_, rfl⟩
  have HM := Lib.hid hm
  rw [hm] at H4 h64 h0 hz1 hz3 ⊢
  obtain ⟨la, hla⟩ : ∃ la, la = laterB cl (a, b, c, g, s) := ⟨_, rfl⟩
  have HLA := Lib.hid hla
  have HLAT : Hid (laterB cl (a, b, c, g, s) = true) := hlat
  clear hm H3 hla hlat
  go_upto_region 4 with (fail)
  go_cut [45] (fun s45 wx => s45 = .bool false ∧ Hid (PuRel w w.heap.size (a, b, c, g, s) (.slice ao m cap) cl wx))
  case first =>
    by_cases hm0 : m = 0
    · subst hm0
      refine wp_region_calm (PuRel w w.heap.size (a, b, c, g, s) (.slice ao 0 cap) cl) (by kernel_rfl) (by kernel_rfl) H4.out.drew ?_
      repeat ((with_reducible refine wpQuiet_step (fun K hK => ?_)); go_simp; first | (refine hK _ ?_; clear hK K) | (apply Exists.intro; refine ⟨fun wc hwc => ?_, hK _ ?_⟩; (focus (first | (fail) | ((skip); go_simp; done) | ((skip); go_simp; exact rfl))); clear hK K))
      refine wpQuiet_nil ?_
      intro wc hwc
      go_wp2_with fail
      go_meet
      exact ⟨rfl, hwc⟩
    · obtain ⟨j, hj⟩ : ∃ j, m = j + 1 := ⟨m - 1, by omega⟩
      obtain ⟨b0, off, rfl, hb0, hcl0⟩ := hz3 (by omega)
      obtain ⟨t, ht⟩ : ∃ t, t = vat cl j := ⟨_, rfl⟩
      have hv0 := hcl0 j (by omega)
      rw [← ht] at hv0
      have HT := Lib.hid ht
      obtain ⟨ta, tb, tc, tg, ts⟩ := t
      obtain ⟨d, hd⟩ : ∃ d, d = befB ta tb tc a b c := ⟨_, rfl⟩
      have hdt : d = true := by
        have h1 := HLAT.out
        unfold laterB at h1
        rw [decide_eq_false (by rw [HM.out]; omega), Bool.false_or, HM.out, show m - 1 = j by omega, ← HT.out] at h1
        rw [hd]; exact h1
      subst hdt
      have HBF : Hid (∀ W, Calls Tryd.prog 38 #[(Go.Value.agg #[Go.Value.int Go.IntKind.i64 ta, Go.Value.int Go.IntKind.i64 tb, Go.Value.int Go.IntKind.i64 tc]), (Go.Value.agg #[Go.Value.int Go.IntKind.i64 a, Go.Value.int Go.IntKind.i64 b, Go.Value.int Go.IntKind.i64 c])] W fun e w' => e = .returned (.bool true) ∧ Below W.heap.size W w') := fun W => by rw [hd]; exact Before_any _ _ _ _ _ _ W
      have H6 : Hid (PuL w4 w w.heap.size (a, b, c, g, s) (.slice (some ⟨b0, off, none⟩) m cap) cl b0 (off + j * 5) (ta, tb, tc, tg, ts) w4) := ⟨hb0, Below.refl _ _, hv0, H4.out⟩
      have q1 := IntWalk.i64_in (j : Int) (by have := h64; omega)
      have q2 : 0 < m := by omega
      have q3 : j < m := by omega
      have q4 : (m : Int) - 1 = (j : Int) := by omega
      have q5 : ¬ m = 0 := by omega
      have HJ := Lib.hid hj
      clear hj ht hd hv0 hcl0 hz3 hb0
      refine wp_region_calm (PuL w4 w w.heap.size (a, b, c, g, s) (.slice (some ⟨b0, off, none⟩) m cap) cl b0 (off + j * 5) (ta, tb, tc, tg, ts)) (by kernel_rfl) (by kernel_rfl) H6.out.drew ?_
      repeat ((with_reducible refine wpQuiet_step (fun K hK => ?_)); go_simp; first | (refine hK _ ?_; clear hK K) | (apply Exists.intro; refine ⟨fun wc hwc => ?_, hK _ ?_⟩; (focus (first | (first | (go_at_call 38; refine (HBF.out _).mono ?_; rintro e w1 ⟨rfl, hb1⟩; exact ⟨rfl, hwc.next hb1⟩)) | (((obtain ⟨_, _, ⟨x0, x1, x2, x3, x4⟩, _, hx, _⟩ := hwc; obtain ⟨y0, y1, y2, y3, y4⟩ := hx.cell; dsimp only at x0 x1 x2 x3 x4 y0 y1 y2 y3 y4; clear hx)); go_simp; done) | (((obtain ⟨_, _, ⟨x0, x1, x2, x3, x4⟩, _, hx, _⟩ := hwc; obtain ⟨y0, y1, y2, y3, y4⟩ := hx.cell; dsimp only at x0 x1 x2 x3 x4 y0 y1 y2 y3 y4; clear hx)); go_simp; exact rfl))); clear hK K))
      refine wpQuiet_nil ?_
      intro wc hwc
      go_wp2_with fail
      go_meet
      exact ⟨rfl, hwc.2.2.2⟩
  case rest =>
    obtain ⟨rfl, H5⟩ := hcut
    clear H4
    have e64 : ((m : Int) == 64) = false := beq_eq_false_iff_ne.2 (by omega)
    have e64' : ¬ m = 64 := by omega
    go_upto_region 6 with (fail)
    go_cut [58] (fun s58 wx => s58 = .bool false ∧ Hid (PuRel w w.heap.size (a, b, c, g, s) (.slice ao m cap) cl wx))
    case first =>
      by_cases hm0 : m = 0
      · have hni := h0 hm0
        have e1 : ((ni : Int) == 64) = false := beq_eq_false_iff_ne.2 (by have := HIL.out; omega)
        have e1' : ¬ ni = 64 := by have := HIL.out; omega
        subst hm0
        go_wp2_with fail
        go_meet
        exact ⟨rfl, H5.out⟩
      · have e2 : ((m : Int) == 0) = false := beq_eq_false_iff_ne.2 (by omega)
        go_wp2_with fail
        go_meet
        exact ⟨rfl, H5.out⟩
    case rest =>
      obtain ⟨rfl, H6⟩ := hcut
      clear H5
      go_upto_region 9 with (fail)
      have HZ := H6.out
      go_cut [10] (fun s10 wx => ∃ g9 v2, s10 = .pointer (some ⟨g9, 0, none⟩) ∧ Hid (Below wc.heap.size wc wx ∧ wc.heap.size ≤ g9 ∧ wx.heap[g9]? = some (.cells #[.string k, v2] 60 (0, 0)) ∧ OwnsV wx wc.heap.size v2 (cl ++ [(a, b, c, g, s)])))
      case first =>
        refine Rg.region_inv (fun i => i) (by kernel_rfl) (by kernel_rfl) (by kernel_rfl) (PutI wc k (a, b, c, g, s) (.slice ao m cap) cl) ?_ ?_ ?_
        · exact ⟨(Below.refl _ _).drew, (fun h => by cases h), (fun h => by cases h), (fun h => by cases h), (fun h => by cases h), (fun h => by cases h), (fun h => by cases h), (fun h => by cases h), (fun h => by cases h), (fun h => by cases h), (fun h => by cases h)⟩
        · refine ⟨?_, ?_, ?_, ?_, ?_, ?_, ?_, ?_, ?_, ?_, trivial⟩
          · intro d f b1 W hb1 hdi haft hI
            exact Rg.by_move rfl (.tmp 1) rfl (.string k) ((Rg.eval_old hb1 1 (by kernel_rfl)).trans rfl) hI.s0
          · intro d f b1 W hb1 hdi haft hI
            exact Rg.by_move rfl (.tmp 9) rfl (.slice none 0 0) ((Rg.eval_old hb1 9 (by kernel_rfl)).trans rfl) hI.s1
          · intro d f b1 W hb1 hdi haft hI
            exact Rg.by_move rfl (.tmp 8) rfl (.slice ao m cap) ((Rg.eval_old hb1 8 (by kernel_rfl)).trans rfl) hI.s2
          · intro d f b1 W hb1 hdi haft hI
            have q : d 1 = true ∧ d 2 = true := by simpa [Region.binds] using haft
            refine Rg.by_wp rfl (wp_append_vers (.tmp 60) (.tmp 61) rfl wc.heap.size (.slice none 0 0) (.slice ao m cap) [] cl ((Rg.eval_at hb1 1 _ 60 (by kernel_rfl) rfl rfl q.1 (by simp)).trans (hI.2.2.1 q.1)) (World.ownsRow_nil _ _ _ _) ((Rg.eval_at hb1 2 _ 61 (by kernel_rfl) rfl rfl q.2 (by simp)).trans (hI.2.2.2.1 q.2)) (HZ.2.2.next hI.1) (by have := HM.out; simp; omega) hI.1.size fun v' W' ho hg => ⟨v', rfl, ?_⟩)
            exact (hI.next (Rg.grown_below rfl hg)).s3 ho
          · intro d f b1 W hb1 hdi haft hI
            exact Rg.by_load rfl _ (.tmp 5) rfl w.heap.size ((Rg.eval_old hb1 5 (by kernel_rfl)).trans rfl) 26 #[.int .i64 a, .int .i64 b, .int .i64 c, .bool g, .string s] (0, 0) _ (HZ.2.1.over hI.1) Tryd.underlying26 rfl (by kernel_rfl) hI.s4
          · intro d f b1 W hb1 hdi haft hI
            have q : d 4 = true := by simpa [Region.binds] using haft
            exact Rg.by_run rfl _ _ (run_slice_ver _ _ (.tmp 63) rfl a b c g s ((Rg.eval_at hb1 4 _ 63 (by kernel_rfl) rfl rfl q (by simp)).trans (hI.2.2.2.2.2.1 q)) W) ((hI.next ((Below.refl _ _).alloc (Nat.le_refl _) _)).s5 (VBox.new _ _ _ _ _ _))
          · intro d f b1 W hb1 hdi haft hI
            have q : d 3 = true ∧ d 5 = true := by
              have q0 := haft
              simp [Region.binds] at q0
              exact ⟨q0.1, q0.2.1⟩
            obtain ⟨B, e5, hB⟩ := hI.2.2.2.2.2.2.1 q.2 hdi
            refine Rg.by_wp rfl (wp_append_vers (.tmp 62) (.tmp 64) rfl wc.heap.size (f 3) (.slice (some ⟨B, 0, none⟩) 1 1) cl [(a, b, c, g, s)] (Rg.eval_at hb1 3 _ 62 (by kernel_rfl) rfl rfl q.1 (by simp)) (hI.2.2.2.2.1 q.1 hdi) ((Rg.eval_at hb1 5 _ 64 (by kernel_rfl) rfl rfl q.2 (by simp)).trans e5) (vers_lit0 hB) (by have := HM.out; simp; omega) hI.1.size fun v' W' ho hg => ⟨v', rfl, ?_⟩)
            exact hI.s6 q.1 hdi ho hg
          · intro d f b1 W hb1 hdi haft hI
            have q : d 0 = true ∧ d 6 = true := by simpa [Region.binds] using haft
            obtain ⟨ao6, c6, e6⟩ := vers_slice' (hI.2.2.2.2.2.2.2.1 q.2).vers
            have hs7 := hI.s7 q.2
            rw [e6] at hs7
            exact Rg.by_run rfl _ _ (run_build_ent _ _ (.tmp 59) (.tmp 65) rfl k ((Rg.eval_at hb1 0 _ 59 (by kernel_rfl) rfl rfl q.1 (by simp)).trans (hI.2.1 q.1)) ao6 _ c6 ((Rg.eval_at hb1 6 _ 65 (by kernel_rfl) rfl rfl q.2 (by simp)).trans e6) W) hs7
          · intro d f b1 W hb1 hdi haft hI
            refine Rg.by_run rfl _ _ (run_alloc_ent _ _ rfl W) ?_
            have h9 : d 9 = false := by
              cases e : d 9
              · rfl
              · rw [(hI.2.2.2.2.2.2.2.2.2.2 e).2] at hdi; cases hdi
            exact (hI.next ((Below.refl _ _).alloc (Nat.le_refl _) _)).s8 hdi h9 hI.1.size (heap_alloc_new _ _)
          · intro d f b1 W hb1 hdi haft hI
            have q0 := haft
            simp [Region.binds] at q0
            have q : d 8 = true ∧ d 7 = true ∧ d 6 = true := ⟨q0.1, q0.2.1, q0.2.2.1⟩
            obtain ⟨g9, e8, hgb, hc⟩ := hI.2.2.2.2.2.2.2.2.2.1 q.1
            rw [hdi] at hc
            obtain ⟨ao6, c6, e6⟩ := vers_slice' (hI.2.2.2.2.2.2.2.1 q.2.2).vers
            have hs9 := hI.s9 q.2.2 q.1 hdi e8 undef
            have e7 := (hI.2.2.2.2.2.2.2.2.1 q.2.1).2
            rw [e6] at hs9 e7
            exact Rg.by_store rfl _ (.tmp 10) (.tmp 66) rfl g9 _ ((Rg.eval_at hb1 8 _ 10 (by kernel_rfl) rfl rfl q.1 (by simp)).trans e8) ((Rg.eval_at hb1 7 _ 66 (by kernel_rfl) rfl rfl q.2.1 (by simp)).trans e7) 60 _ hc (by kernel_rfl) rfl (by simp [Value.oneCell']) hs9
        · intro d f wx hI hall
          simp only [Rg.fillAll]
          go_simp
          go_wp2_with fail
          go_meet
          obtain ⟨g9, e8, hgb, hc⟩ := hI.2.2.2.2.2.2.2.2.2.1 (hall 8 (by decide))
          rw [hall 9 (by decide)] at hc
          exact ⟨g9, f 6, e8, hI.1, hgb, hc, hI.2.2.2.2.2.2.2.1 (hall 6 (by decide))⟩
      case rest =>
        rename World => W5
        obtain ⟨g9, v2, rfl, H9⟩ := hcut
        obtain ⟨i0, hii, hz0, hz1, hz2⟩ := info_parts info_ent
        have hx2 : VersX W5.heap.size W5 v2 (cl ++ [(a, b, c, g, s)]) := OwnsV.x H9.out.2.2.2
        obtain ⟨a2, c2, he2⟩ := vers_slice' hx2.1
        obtain ⟨n2, hn2⟩ : ∃ n2, n2 = (cl ++ [(a, b, c, g, s)]).length := ⟨_, rfl⟩
        rw [← hn2] at he2
        subst he2
        obtain ⟨one, hone⟩ : ∃ one : Ent, one = (k, cl ++ [(a, b, c, g, s)]) := ⟨_, rfl⟩
        have HX2 : Hid (VersX W5.heap.size W5 (.slice a2 n2 c2) one.2 ∧ one.1 = k) := by rw [hone]; exact ⟨hx2, rfl⟩
        have HONE : Hid (one = (k, chainOf l k n ++ [(a, b, c, g, s)])) := by show _ = _; rw [hone, HCL.out]
        have HB5 : Hid (Below w.heap.size w W5) := HZ.1.trans (H9.out.1.mono HZ.1.size)
        have HE9 : Hid (∀ W, Below W5.heap.size W5 W → W.cell? ⟨g9, 0, none⟩ = some (.string k) ∧ W.cell? ⟨g9, 1, none⟩ = some (.slice a2 n2 c2)) := fun W hW => by
          have h1 := H9.out.2.2.1
          have hlt : g9 < W5.heap.size := by
            rcases Nat.lt_or_ge g9 W5.heap.size with h2 | h2
            · exact h2
            · rw [Array.getElem?_eq_none h2] at h1; cases h1
          have h3 := (hW.block g9 hlt).trans h1
          exact ⟨by simp [World.cell?, h3], by simp [World.cell?, h3]⟩
        have H64 : Hid (ni ≤ 64 ∧ k.size ≤ 1048576) := ⟨by rw [← HIL.out]; exact (rightI_spec HRI.out).1, Nat.le_trans (Ky.right_pl k HKR.out).2.2 (by omega)⟩
        clear hx2 hn2 hone H9 HZ H6 HLAT HLA h64 h0 e64 e64'
        go_wp2_with fail
        go_loopw [11, 12, 13] (fun lv pu i wr => ∃ j : Nat, j ≤ ni ∧ i = .int .i64 j ∧ pu = .bool (decide (n < j)) ∧ Hid (Below W5.heap.size W5 wr) ∧ Hid (∃ fs, OwnsE wr W5.heap.size lv fs ∧ LeadsX W5.heap.size wr fs (putAt l k n one j))) (fun _ _ i _ => ni - (intOf i).toNat)
        case atStart => exact ⟨0, Nat.zero_le _, rfl, rfl, Below.refl _ _, [], OwnsE.nil _ _, LeadsX.nil _ _⟩
        case round =>
          obtain ⟨j, hj, rfl, rfl, hbel, hown0⟩ := hrel
          obtain ⟨fs, hfs, hld⟩ := hown0.out
          have hbw := HB5.out.trans (hbel.out.mono HB5.out.size)
          have hszw := hbel.out.size
          have HLEN : Hid (fs.length ≤ 65) := by
            show _ ≤ _
            rw [hld.1]
            unfold putAt
            have := HIL.out
            have := H64.out.1
            split
            · rw [List.length_take]; omega
            · rw [List.length_append, List.length_cons, List.length_take, List.length_drop, List.length_take]
              split <;> omega
          by_cases hlt : j < ni
          · obtain ⟨b0, off, rfl, hb0, hcl0⟩ := HIR.out (by omega)
            have hjl : j < l.length := by rw [HIL.out]; exact hlt
            obtain ⟨hkey, hvers⟩ := HIE.out.2 j hjl
            obtain ⟨t, ht⟩ : ∃ t, t = (lat l j).1 := ⟨_, rfl⟩
            obtain ⟨u, hu⟩ : ∃ u, u = (eat es j).2 := ⟨_, rfl⟩
            rw [← hu] at hvers
            have HCE : Hid (∀ W, Below w.heap.size w W → W.cell? ⟨b0, off + j * 2, none⟩ = some (.string t) ∧ W.cell? ⟨b0, off + j * 2 + 1, none⟩ = some u) := fun W hW => by
              have := (hcl0 j hlt).next hW hb0
              rw [ht, hu, ← hkey]; exact this
            have HUV : Hid (VersX W5.heap.size W5 u (lat l j).2 ∧ u.oneCell' = true) := ⟨(hvers.next HB5.out).old, vers_one hvers⟩
            have HKT : Hid (lat l j = (t, (lat l j).2)) := by show _ = _; rw [ht]
            obtain ⟨q, hq⟩ : ∃ q, q = Ky.compare k t := ⟨_, rfl⟩
            have ht1 := HKS.out j hjl
            rw [← ht] at ht1
            have HCMP : Hid (∀ W, Calls Tryd.prog 39 #[.string k, .string t] W fun e w' => e = .returned (.int .i64 q) ∧ Below W.heap.size W w') := fun W => by rw [hq]; exact refCompare_any k t W H64.out.2 ht1
            have hcn := cmp_neg' t k
            have HFS : Hid (OwnsE wr W5.heap.size u11 fs ∧ LeadsX W5.heap.size wr fs (putAt l k n one j)) := ⟨hfs, hld⟩
            have q0 : j < ni := hlt
            clear hcl0 hkey hvers hu ht1 hown0 hfs hld
            rcases Nat.lt_trichotomy j n with hjn | hjn | hjn
            · have hq1 : decide (q ≤ 0) = false := decide_eq_false (by have := HPOS.out.2.1 j hjn; rw [← ht] at this; omega)
              have hne : ¬ t = k := fun e => by
                have := HPOS.out.2.1 j hjn
                rw [← ht, e, cmp_self] at this
                omega
              have e1 : (t.toList == k.toList) = false := beq_eq_false_iff_ne.2 (fun e => hne (list_inj e))
              have e2 : ¬ t.toList = k.toList := fun e => hne (list_inj e)
              have d1 : decide (n < j) = false := decide_eq_false (by omega)
              have HD2 : Hid (decide (n < j + 1) = false) := decide_eq_false (by omega)
              have HPA : Hid (putAt l k n one (j + 1) = putAt l k n one j ++ [lat l j]) := putAt_before hjn HPOS.out.1
              rw [d1]
              clear hq hcn ht hne d1
              obtain ⟨x0, x1⟩ := HCE.out wr hbw
              go_wp2_with fail
              refine (HCMP.out _).mono ?_
              rintro e w1 ⟨rfl, hb1⟩
              have H1 : Hid (Below W5.heap.size W5 w1 ∧ OwnsE w1 W5.heap.size u11 fs ∧ LeadsX W5.heap.size w1 fs (putAt l k n one j)) := ⟨hbel.out.trans (hb1.mono hszw), HFS.out.1.next hb1, HFS.out.2.next hb1⟩
              clear hb1 x0 x1 hbel hszw hbw
              obtain ⟨x0, x1⟩ := HCE.out w1 (HB5.out.trans (H1.out.1.mono HB5.out.size))
              have hown : w1.ownsRow W5.heap.size 60 2 u11 fs.length (entsC fs) := H1.out.2.1
              have hsz1 := H1.out.1.size
              have hln := HLEN.out
              go_wp2_with (at_builtin; refine wpList_append_own _ rfl _ _ 22 rfl W5.heap.size 60 i0 _ 2 40 Tryd.underlying22 hii hz0 hz1 hz2 rfl (by decide) _ _ _ rfl (hown.alloc _) ⟨w1.heap.size, 0, none⟩ 1 1 (entC (t, u)) rfl rfl (ent_new w1 (t, u)) (entC_one HUV.out.2) (by unfold maxLen; omega) (by omega) (by simp; omega) ?_; intro v' w3 hown1 hgrow1 _)
              have hal : Below w1.heap.size w1 (w1.alloc (.cells #[.string t, u] 60)) := (Below.refl _ _).alloc (Nat.le_refl _) _
              have hb3 := (H1.out.1.alloc (by omega) _).grown hgrow1 (by simp; omega) (fun k hk => (hown.lt k hk).1)
              rw [entsC_snoc] at hown1
              have HN : Hid (∃ fs, OwnsE w3 W5.heap.size v' fs ∧ LeadsX W5.heap.size w3 fs (putAt l k n one (j + 1))) := by
                refine ⟨fs ++ [(t, u)], ?_, ?_⟩
                · unfold OwnsE
                  rw [List.length_append, List.length_singleton]
                  exact hown1
                · rw [HPA.out, HKT.out]
                  exact ((H1.out.2.2.next hal).snoc ((HUV.out.1.next H1.out.1).next hal)).grown (OwnsE.next H1.out.2.1 hal) hgrow1
              exact ⟨⟨j + 1, by omega, by go_num, by rw [HD2.out], hb3, HN⟩, by simp [intOf]; omega⟩
            · have hq1 : decide (q ≤ 0) = true := decide_eq_true (by have := HPOS.out.2.2 j (by omega) hjl; rw [← ht] at this; omega)
              have d1 : decide (n < j) = false := decide_eq_false (by omega)
              have HD2 : Hid (decide (n < j + 1) = true) := decide_eq_true (by omega)
              have hpa := putAt_here (l := l) (k := k) (n := n) (o := one) (by omega)
              have HPA : Hid (putAt l k n one (j + 1) = putAt l k n one j ++ [one] ++ (if thereB l k n then [] else [lat l n])) := by rw [hjn]; exact hpa
              have HTB : Hid (t = k → thereB l k n = true) := fun e => (only_there HRI.out HPOS.out hjl (by rw [← ht]; exact e)).2
              have HTN : Hid (¬ t = k → thereB l k n = false) := fun e => by
                cases hth : thereB l k n
                · rfl
                · have h7 := (there_yes hth).2
                  rw [← hjn, ← ht] at h7
                  exact absurd h7 e
              have HJN : Hid (j = n) := hjn
              rw [d1]
              clear hq hcn ht d1 hpa hjn hjl
              obtain ⟨x0, x1⟩ := HCE.out wr hbw
              go_wp2_with fail
              refine (HCMP.out _).mono ?_
              rintro e w1 ⟨rfl, hb1⟩
              have H1 : Hid (Below W5.heap.size W5 w1 ∧ OwnsE w1 W5.heap.size u11 fs ∧ LeadsX W5.heap.size w1 fs (putAt l k n one j)) := ⟨hbel.out.trans (hb1.mono hszw), HFS.out.1.next hb1, HFS.out.2.next hb1⟩
              clear hb1 x0 x1 hbel hszw hbw HFS
              obtain ⟨y0, y1⟩ := HE9.out w1 H1.out.1
              have hown : w1.ownsRow W5.heap.size 60 2 u11 fs.length (entsC fs) := H1.out.2.1
              have hsz1 := H1.out.1.size
              have hln := HLEN.out
              go_upto_region 16 with (fail)
              go_cut [11] (fun s11 wx => Hid (Below W5.heap.size W5 wx ∧ OwnsE wx W5.heap.size s11 (fs ++ [(k, .slice a2 n2 c2)]) ∧ LeadsX W5.heap.size wx (fs ++ [(k, .slice a2 n2 c2)]) (putAt l k n one j ++ [one])))
              case first =>
                go_wp2_with (at_builtin; refine wpList_append_own _ rfl _ _ 22 rfl W5.heap.size 60 i0 _ 2 40 Tryd.underlying22 hii hz0 hz1 hz2 rfl (by decide) _ _ _ rfl (hown.alloc _) ⟨w1.heap.size, 0, none⟩ 1 1 (entC (k, .slice a2 n2 c2)) rfl rfl (ent_new w1 (k, .slice a2 n2 c2)) (entC_one rfl) (by unfold maxLen; omega) (by omega) (by simp; omega) ?_; intro v' w3 hown1 hgrow1 _)
                have hal : Below w1.heap.size w1 (w1.alloc (.cells #[.string k, .slice a2 n2 c2] 60)) := (Below.refl _ _).alloc (Nat.le_refl _) _
                have hb3 := (H1.out.1.alloc (by omega) _).grown hgrow1 (by simp; omega) (fun k hk => (hown.lt k hk).1)
                rw [entsC_snoc] at hown1
                go_meet
                refine ⟨hb3, ?_, ?_⟩
                · unfold OwnsE
                  rw [List.length_append, List.length_singleton]
                  exact hown1
                · have e9 : one = (k, one.2) := by rw [← HX2.out.2]
                  have h10 := ((H1.out.2.2.next hal).snoc (k := k) ((HX2.out.1.next H1.out.1).next hal)).grown (OwnsE.next H1.out.2.1 hal) hgrow1
                  rwa [← e9] at h10
              case rest =>
                rename World => w2
                have H2 := Lib.hid hcut.out
                clear hcut H1 hown hsz1 y0 y1
                have hbw2 := HB5.out.trans (H2.out.1.mono HB5.out.size)
                obtain ⟨x0, x1⟩ := HCE.out w2 hbw2
                by_cases he : t = k
                · have hth := HTB.out he
                  subst he
                  have HN : Hid (∃ fs, OwnsE w2 W5.heap.size u11 fs ∧ LeadsX W5.heap.size w2 fs (putAt l t n one (j + 1))) := by
                    refine ⟨_, H2.out.2.1, ?_⟩
                    rw [HPA.out, hth]
                    simpa using H2.out.2.2
                  clear hth
                  go_wp2_with fail
                  go_roundw
                  case rel => exact ⟨j + 1, by omega, by go_num, by rw [HD2.out], H2.out.1, HN⟩
                  case measure => simp [intOf]; omega
                · have hth := HTN.out he
                  have e1 : (t.toList == k.toList) = false := beq_eq_false_iff_ne.2 (fun e => he (list_inj e))
                  have e2 : ¬ t.toList = k.toList := fun e => he (list_inj e)
                  have HPB : Hid (putAt l k n one (j + 1) = (putAt l k n one j ++ [one]) ++ [(t, (lat l j).2)]) := by
                    show _ = _
                    rw [HPA.out, hth, ← HJN.out, ← HKT.out]; simp
                  have hown : w2.ownsRow W5.heap.size 60 2 u11 (fs ++ [(k, Value.slice a2 n2 c2)]).length (entsC (fs ++ [(k, Value.slice a2 n2 c2)])) := H2.out.2.1
                  have hsz2 := H2.out.1.size
                  have hln2 : (fs ++ [(k, Value.slice a2 n2 c2)]).length ≤ 66 := by simp; omega
                  obtain ⟨gs, hgs⟩ : ∃ gs, gs = fs ++ [(k, Value.slice a2 n2 c2)] := ⟨_, rfl⟩
                  rw [← hgs] at hown hln2
                  have H3 : Hid (OwnsE w2 W5.heap.size u11 gs ∧ LeadsX W5.heap.size w2 gs (putAt l k n one j ++ [one])) := by show _ ∧ _; rw [hgs]; exact H2.out.2
                  clear he hth hgs
                  go_wp2_with (at_builtin; refine wpList_append_own _ rfl _ _ 22 rfl W5.heap.size 60 i0 _ 2 40 Tryd.underlying22 hii hz0 hz1 hz2 rfl (by decide) _ _ _ rfl (hown.alloc _) ⟨w2.heap.size, 0, none⟩ 1 1 (entC (t, u)) rfl rfl (ent_new w2 (t, u)) (entC_one HUV.out.2) (by unfold maxLen; omega) (by omega) (by simp; omega) ?_; intro v' w3 hown1 hgrow1 _)
                  have hal : Below w2.heap.size w2 (w2.alloc (.cells #[.string t, u] 60)) := (Below.refl _ _).alloc (Nat.le_refl _) _
                  have hb3 := (H2.out.1.alloc (by omega) _).grown hgrow1 (by simp; omega) (fun k hk => (hown.lt k hk).1)
                  rw [entsC_snoc] at hown1
                  have HN : Hid (∃ fs, OwnsE w3 W5.heap.size v' fs ∧ LeadsX W5.heap.size w3 fs (putAt l k n one (j + 1))) := by
                    refine ⟨gs ++ [(t, u)], ?_, ?_⟩
                    · unfold OwnsE
                      rw [List.length_append, List.length_singleton]
                      exact hown1
                    · rw [HPB.out]
                      exact ((H3.out.2.next hal).snoc ((HUV.out.1.next H2.out.1).next hal)).grown (OwnsE.next H3.out.1 hal) hgrow1
                  exact ⟨⟨j + 1, by omega, by go_num, by rw [HD2.out], hb3, HN⟩, by simp [intOf]; omega⟩
            · have hne : ¬ t = k := fun e => by
                have := (only_there HRI.out HPOS.out hjl (by rw [← ht]; exact e)).1
                omega
              have e1 : (t.toList == k.toList) = false := beq_eq_false_iff_ne.2 (fun e => hne (list_inj e))
              have e2 : ¬ t.toList = k.toList := fun e => hne (list_inj e)
              have d1 : decide (n < j) = true := decide_eq_true hjn
              have HD2 : Hid (decide (n < j + 1) = true) := decide_eq_true (by omega)
              have HPA : Hid (putAt l k n one (j + 1) = putAt l k n one j ++ [lat l j]) := putAt_behind hjn hjl
              rw [d1]
              clear hq hcn ht hne d1 hjn hjl
              obtain ⟨x0, x1⟩ := HCE.out wr hbw
              have hown : wr.ownsRow W5.heap.size 60 2 u11 fs.length (entsC fs) := HFS.out.1
              have hln := HLEN.out
              go_wp2_with (at_builtin; refine wpList_append_own _ rfl _ _ 22 rfl W5.heap.size 60 i0 _ 2 40 Tryd.underlying22 hii hz0 hz1 hz2 rfl (by decide) _ _ _ rfl (hown.alloc _) ⟨wr.heap.size, 0, none⟩ 1 1 (entC (t, u)) rfl rfl (ent_new wr (t, u)) (entC_one HUV.out.2) (by unfold maxLen; omega) (by omega) (by simp; omega) ?_; intro v' w3 hown1 hgrow1 _)
              have hal : Below wr.heap.size wr (wr.alloc (.cells #[.string t, u] 60)) := (Below.refl _ _).alloc (Nat.le_refl _) _
              have hb3 := (hbel.out.alloc (by omega) _).grown hgrow1 (by simp; omega) (fun k hk => (hown.lt k hk).1)
              rw [entsC_snoc] at hown1
              have HN : Hid (∃ fs, OwnsE w3 W5.heap.size v' fs ∧ LeadsX W5.heap.size w3 fs (putAt l k n one (j + 1))) := by
                refine ⟨fs ++ [(t, u)], ?_, ?_⟩
                · unfold OwnsE
                  rw [List.length_append, List.length_singleton]
                  exact hown1
                · rw [HPA.out, HKT.out]
                  exact ((HFS.out.2.next hal).snoc ((HUV.out.1.next hbel.out).next hal)).grown (OwnsE.next HFS.out.1 hal) hgrow1
              exact ⟨⟨j + 1, by omega, by go_num, by rw [HD2.out], hb3, HN⟩, by simp [intOf]; omega⟩
          · obtain rfl : j = ni := by omega
            have HEND := Lib.hid (putAt_end (l := l) (k := k) (n := n) (u := (a, b, c, g, s)) HPOS.out)
            rw [← HONE.out] at HEND
            have HFS : Hid (OwnsE wr W5.heap.size u11 fs ∧ LeadsX W5.heap.size wr fs (putAt l k n one j)) := ⟨hfs, hld⟩
            clear hown0 hfs hld
            by_cases hnj : n < j
            · have d1 : decide (n < j) = true := decide_eq_true hnj
              have HN : Hid (Ents wr u11 (putI l k n (a, b, c, g, s))) := by
                have h := HEND.out
                rw [if_pos (by rw [HIL.out]; exact hnj), HIL.out] at h
                rw [← h]
                exact own_ents HFS.out.1 HFS.out.2
              rw [d1]
              clear hnj d1
              go_wp2_with fail
              go_ret2
              exact ⟨_, rfl, HN.out, hbw⟩
            · have d1 : decide (n < j) = false := decide_eq_false hnj
              have HPE : Hid (putI l k n (a, b, c, g, s) = putAt l k n one j ++ [one]) := by
                have h := HEND.out
                rw [if_neg (by rw [HIL.out]; exact hnj), HIL.out] at h
                exact h.symm
              rw [d1]
              clear hnj d1 HEND
              obtain ⟨y0, y1⟩ := HE9.out wr hbel.out
              have hown : wr.ownsRow W5.heap.size 60 2 u11 fs.length (entsC fs) := HFS.out.1
              have hln := HLEN.out
              go_wp2_with (at_builtin; refine wpList_append_own _ rfl _ _ 22 rfl W5.heap.size 60 i0 _ 2 40 Tryd.underlying22 hii hz0 hz1 hz2 rfl (by decide) _ _ _ rfl (hown.alloc _) ⟨wr.heap.size, 0, none⟩ 1 1 (entC (k, .slice a2 n2 c2)) rfl rfl (ent_new wr (k, .slice a2 n2 c2)) (entC_one rfl) (by unfold maxLen; omega) (by omega) (by simp; omega) ?_; intro v' w3 hown1 hgrow1 _)
              have hal : Below wr.heap.size wr (wr.alloc (.cells #[.string k, .slice a2 n2 c2] 60)) := (Below.refl _ _).alloc (Nat.le_refl _) _
              have hb3 := (hbel.out.alloc (by omega) _).grown hgrow1 (by simp; omega) (fun k hk => (hown.lt k hk).1)
              rw [entsC_snoc] at hown1
              have HN : Hid (Ents w3 v' (putI l k n (a, b, c, g, s))) := by
                have e9 : one = (k, one.2) := by rw [← HX2.out.2]
                have h10 := ((HFS.out.2.next hal).snoc (k := k) ((HX2.out.1.next hbel.out).next hal)).grown (OwnsE.next HFS.out.1 hal) hgrow1
                rw [← e9] at h10
                rw [HPE.out]
                refine own_ents (es := fs ++ [(k, .slice a2 n2 c2)]) ?_ h10
                unfold OwnsE
                rw [List.length_append, List.length_singleton]
                exact hown1
              have HB9 : Hid (Below w.heap.size w w3) := HB5.out.trans (hb3.mono HB5.out.size)
              go_wp2_with fail
              go_ret2
              exact ⟨_, rfl, HN.out, HB9.out⟩

end Go.Proofs.YtkmmifonandkoaaDoor

/-
  The contract of the document's Put, whole.
-/
set_option linter.unusedVariables false
namespace Go.Proofs.YtkmmifonandkoaaDoor
open Go.RowKit

set_option maxRecDepth 100000 in
set_option maxHeartbeats 2000000 in
theorem refPut_stop (w : World) (v : Value) (l : List Ent) (k : ByteArray) (a b c : Int) (g : Bool) (s : ByteArray) (n : Nat) (hp : IsPos l k n) (hr : rightI l = true) (hk : Ky.right k = true) (hv : Ents w v l)
    (hks : ∀ i, i < l.length → (lat l i).1.size ≤ 1048576)
    (HR : Hid (∀ W, Below w.heap.size w W → Calls Tryd.prog 17 #[v] W fun e w' => e = .returned (.bool true) ∧ Below W.heap.size W w'))
    (HK : Hid (∀ W, Calls Tryd.prog 36 #[.string k] W fun e w' => e = .returned (.bool true) ∧ W = w'))
    (HO : Hid (∀ W, Calls Tryd.prog 37 #[(Go.Value.agg #[Go.Value.int Go.IntKind.i64 a, Go.Value.int Go.IntKind.i64 b, Go.Value.int Go.IntKind.i64 c, Go.Value.bool g, Go.Value.string s])] W fun e w' => e = .returned (.bool true) ∧ Below W.heap.size W w'))
    (er : Int) (her : (laterB (chainOf l k n) (a, b, c, g, s) = false ∧ er = 9) ∨ (laterB (chainOf l k n) (a, b, c, g, s) = true ∧ (64 ≤ (chainOf l k n).length ∨ ((chainOf l k n).length = 0 ∧ 64 ≤ l.length)) ∧ er = 6)) :
    Calls Tryd.prog 14 #[v, .string k, (Go.Value.agg #[Go.Value.int Go.IntKind.i64 a, Go.Value.int Go.IntKind.i64 b, Go.Value.int Go.IntKind.i64 c, Go.Value.bool g, Go.Value.string s])] w fun e w' => e = .returned (.tuple #[.slice none 0 0, .int .i64 er]) ∧ Below w.heap.size w w' := by
  have HV0 : Hid (VBox (w.alloc (.cells #[.int .i64 a, .int .i64 b, .int .i64 c, .bool g, .string s] 26)) w.heap.size a b c g s) := VBox.new w a b c g s
  have HB0 : Hid (Below w.heap.size w (w.alloc (.cells #[.int .i64 a, .int .i64 b, .int .i64 c, .bool g, .string s] 26))) := (Below.refl _ _).alloc (Nat.le_refl _) _
  have HOF : Hid (∀ W, Below w.heap.size w W → Calls Tryd.prog 20 #[v, .string k] W fun e w' => ∃ u, e = .returned u ∧ Vers w' u (chainOf l k n) ∧ w' = W) := fun W hW => refOf_any (hv.next hW) hr k hp
  obtain ⟨cl, hcl⟩ : ∃ cl, cl = chainOf l k n := ⟨_, rfl⟩
  rw [← hcl] at HOF her
  have h64 : cl.length ≤ 64 := by
    rw [hcl]; unfold chainOf
    cases hth : thereB l k n
    · simp
    · exact (rightC_spec (ent_spec hr (there_yes hth).1).2.2.1).1
  have HER := Lib.hid her
  have HCL := Lib.hid hcl
  obtain ⟨ai, ni, ci, es, rfl, hil, hile, himx, hin, hirow, hilead⟩ := hv.opened
  have HIL := Lib.hid hil
  have HIR := Lib.hid hirow
  have HIE := Lib.hid hilead
  have HPOS := Lib.hid hp
  have HRI := Lib.hid hr
  have HKR := Lib.hid hk
  have HKS := Lib.hid hks
  clear hv hp hr hk hks hil hile himx hirow hilead hcl her
  go_enter Tryd.func14, Tryd.ntmps14
  go_wp2_with fail
  refine (HR.out _ HB0.out).mono ?_
  rintro e w1 ⟨rfl, hb1⟩
  go_wp2_with fail
  refine (HK.out _).mono ?_
  rintro e w2 ⟨rfl, rfl⟩
  have hv1 := HV0.out.over hb1
  obtain ⟨x0, x1, x2, x3, x4⟩ := hv1.cell
  go_wp2_with fail
  refine (HO.out _).mono ?_
  rintro e w3 ⟨rfl, hb3⟩
  have H3 : Hid (Below w.heap.size w w3 ∧ VBox w3 w.heap.size a b c g s) := ⟨(HB0.out.trans (hb1.mono HB0.out.size)).trans (hb3.mono (HB0.out.trans (hb1.mono HB0.out.size)).size), hv1.over hb3⟩
  clear hb1 hb3 hv1 x0 x1 x2 x3 x4
  go_wp2_with fail
  refine (HOF.out _ H3.out.1).mono ?_
  rintro e w4 ⟨cv, rfl, hcv, rfl⟩
  have H4 : Hid (PuRel w w.heap.size (a, b, c, g, s) cv cl w4) := ⟨H3.out.1, H3.out.2, hcv⟩
  obtain ⟨ao, cap, rfl, hz1, hz2, hz3⟩ := hcv
  obtain ⟨m, hm⟩ : ∃ m, cl.length = m := ⟨_, rfl⟩
  have HM := Lib.hid hm
  rw [hm] at H4 h64 hz1 hz3 ⊢
  clear hm H3
  obtain ⟨la, hla⟩ : ∃ la, la = laterB cl (a, b, c, g, s) := ⟨_, rfl⟩
  have HLA := Lib.hid hla
  clear hla
  go_upto_region 4 with (fail)
  go_cut [45] (fun s45 wx => s45 = .bool (!la) ∧ Hid (PuRel w w.heap.size (a, b, c, g, s) (.slice ao m cap) cl wx))
  case first =>
    by_cases hm0 : m = 0
    · have hl1 : la = true := by rw [HLA.out]; unfold laterB; rw [decide_eq_true (by rw [HM.out]; exact hm0)]; rfl
      subst hl1
      subst hm0
      refine wp_region_calm (PuRel w w.heap.size (a, b, c, g, s) (.slice ao 0 cap) cl) (by kernel_rfl) (by kernel_rfl) H4.out.drew ?_
      repeat ((with_reducible refine wpQuiet_step (fun K hK => ?_)); go_simp; first | (refine hK _ ?_; clear hK K) | (apply Exists.intro; refine ⟨fun wc hwc => ?_, hK _ ?_⟩; (focus (first | (fail) | ((skip); go_simp; done) | ((skip); go_simp; exact rfl))); clear hK K))
      refine wpQuiet_nil ?_
      intro wc hwc
      go_wp2_with fail
      go_meet
      exact ⟨rfl, hwc⟩
    · obtain ⟨j, hj⟩ : ∃ j, m = j + 1 := ⟨m - 1, by omega⟩
      obtain ⟨b0, off, rfl, hb0, hcl0⟩ := hz3 (by omega)
      obtain ⟨t, ht⟩ : ∃ t, t = vat cl j := ⟨_, rfl⟩
      have hv0 := hcl0 j (by omega)
      rw [← ht] at hv0
      have HT := Lib.hid ht
      obtain ⟨ta, tb, tc, tg, ts⟩ := t
      have hdt : befB ta tb tc a b c = la := by
        rw [HLA.out]
        unfold laterB
        rw [decide_eq_false (by rw [HM.out]; omega), Bool.false_or, HM.out, show m - 1 = j by omega, ← HT.out]
        rfl
      have HBF : Hid (∀ W, Calls Tryd.prog 38 #[(Go.Value.agg #[Go.Value.int Go.IntKind.i64 ta, Go.Value.int Go.IntKind.i64 tb, Go.Value.int Go.IntKind.i64 tc]), (Go.Value.agg #[Go.Value.int Go.IntKind.i64 a, Go.Value.int Go.IntKind.i64 b, Go.Value.int Go.IntKind.i64 c])] W fun e w' => e = .returned (.bool la) ∧ Below W.heap.size W w') := fun W => by rw [← hdt]; exact Before_any _ _ _ _ _ _ W
      have H6 : Hid (PuL w4 w w.heap.size (a, b, c, g, s) (.slice (some ⟨b0, off, none⟩) m cap) cl b0 (off + j * 5) (ta, tb, tc, tg, ts) w4) := ⟨hb0, Below.refl _ _, hv0, H4.out⟩
      have q1 := IntWalk.i64_in (j : Int) (by have := h64; omega)
      have q2 : 0 < m := by omega
      have q3 : j < m := by omega
      have q4 : (m : Int) - 1 = (j : Int) := by omega
      have q5 : ¬ m = 0 := by omega
      have HJ := Lib.hid hj
      clear hj ht hdt hv0 hcl0 hz3 hb0
      refine wp_region_calm (PuL w4 w w.heap.size (a, b, c, g, s) (.slice (some ⟨b0, off, none⟩) m cap) cl b0 (off + j * 5) (ta, tb, tc, tg, ts)) (by kernel_rfl) (by kernel_rfl) H6.out.drew ?_
      repeat ((with_reducible refine wpQuiet_step (fun K hK => ?_)); go_simp; first | (refine hK _ ?_; clear hK K) | (apply Exists.intro; refine ⟨fun wc hwc => ?_, hK _ ?_⟩; (focus (first | (first | (go_at_call 38; refine (HBF.out _).mono ?_; rintro e w1 ⟨rfl, hb1⟩; exact ⟨rfl, hwc.next hb1⟩)) | (((obtain ⟨_, _, ⟨x0, x1, x2, x3, x4⟩, _, hx, _⟩ := hwc; obtain ⟨y0, y1, y2, y3, y4⟩ := hx.cell; dsimp only at x0 x1 x2 x3 x4 y0 y1 y2 y3 y4; clear hx)); go_simp; done) | (((obtain ⟨_, _, ⟨x0, x1, x2, x3, x4⟩, _, hx, _⟩ := hwc; obtain ⟨y0, y1, y2, y3, y4⟩ := hx.cell; dsimp only at x0 x1 x2 x3 x4 y0 y1 y2 y3 y4; clear hx)); go_simp; exact rfl))); clear hK K))
      refine wpQuiet_nil ?_
      intro wc hwc
      go_wp2_with fail
      go_meet
      exact ⟨rfl, hwc.2.2.2⟩
  case rest =>
    obtain ⟨rfl, H5⟩ := hcut
    clear H4
    cases la
    · obtain rfl : er = 9 := by
        rcases HER.out with ⟨_, h⟩ | ⟨h, _⟩
        · exact h
        · rw [← HLA.out] at h; cases h
      go_wp2_with fail
      go_ret2
      exact ⟨rfl, H5.out.1⟩
    · have hcs : (64 ≤ m ∨ (m = 0 ∧ 64 ≤ ni)) ∧ er = 6 := by
        rcases HER.out with ⟨h, _⟩ | ⟨_, h1, h2⟩
        · rw [← HLA.out] at h; cases h
        · rw [HM.out, HIL.out] at h1
          exact ⟨h1, h2⟩
      obtain ⟨hcs, rfl⟩ := hcs
      have hni : ni ≤ 64 := by rw [← HIL.out]; exact (rightI_spec HRI.out).1
      rcases hcs with h1 | ⟨h1, h2⟩
      · obtain rfl : m = 64 := by omega
        go_wp2_with fail
        go_ret2
        exact ⟨rfl, H5.out.1⟩
      · obtain rfl : ni = 64 := by omega
        subst h1
        go_wp2_with fail
        go_ret2
        exact ⟨rfl, H5.out.1⟩

theorem refPut_any {w : World} {v : Value} {l : List Ent} (hv : Ents w v l) (k : ByteArray) (a b c : Int) (g : Bool) (s : ByteArray) (hks : ∀ i, i < l.length → (lat l i).1.size ≤ 1048576) (m : List Ent) (er : Int) (hput : IsPut l k (a, b, c, g, s) m er) :
    Calls Tryd.prog 14 #[v, .string k, (Go.Value.agg #[Go.Value.int Go.IntKind.i64 a, Go.Value.int Go.IntKind.i64 b, Go.Value.int Go.IntKind.i64 c, Go.Value.bool g, Go.Value.string s])] w fun e w' => ∃ v', e = .returned (.tuple #[v', .int .i64 er]) ∧ Ents w' v' m ∧ Below w.heap.size w w' := by
  obtain ⟨r1, h1⟩ : ∃ r, r = rightI l := ⟨_, rfl⟩
  obtain ⟨r2, h2⟩ : ∃ r, r = Ky.right k := ⟨_, rfl⟩
  obtain ⟨r3, h3⟩ : ∃ r, r = oneB (a, b, c, g, s) := ⟨_, rfl⟩
  have HR : Hid (∀ W, Below w.heap.size w W → Calls Tryd.prog 17 #[v] W fun e w' => e = .returned (.bool r1) ∧ Below W.heap.size W w') := fun W hW => by rw [h1]; exact refIRight_any (hv.next hW) hks
  have HK : Hid (∀ W, Calls Tryd.prog 36 #[.string k] W fun e w' => e = .returned (.bool r2) ∧ W = w') := fun W => by rw [h2]; exact kRefRight_any k W
  have HO : Hid (∀ W, Calls Tryd.prog 37 #[(Go.Value.agg #[Go.Value.int Go.IntKind.i64 a, Go.Value.int Go.IntKind.i64 b, Go.Value.int Go.IntKind.i64 c, Go.Value.bool g, Go.Value.string s])] W fun e w' => e = .returned (.bool r3) ∧ Below W.heap.size W w') := fun W => by rw [h3]; exact refOne_any a b c g s W
  rcases hput with ⟨hbad, rfl, rfl⟩ | ⟨e1, e2, e3, n, hn, hp⟩
  · refine (refPut_bad w v k a b c g s r1 r2 r3 (by rw [h1, h2, h3]; exact hbad) HR HK HO).mono ?_
    rintro e w' ⟨rfl, hb⟩
    exact ⟨_, rfl, ents_nil _, hb⟩
  · rw [h1, e1] at HR
    rw [h2, e2] at HK
    rw [h3, e3] at HO
    rcases hp with ⟨q1, rfl, rfl⟩ | ⟨q1, q2, rfl, rfl⟩ | ⟨q1, q2, q3, rfl, rfl⟩
    · refine (refPut_stop w v l k a b c g s n hn e1 e2 hv hks HR HK HO 9 (.inl ⟨q1, rfl⟩)).mono ?_
      rintro e w' ⟨rfl, hb⟩
      exact ⟨_, rfl, ents_nil _, hb⟩
    · refine (refPut_stop w v l k a b c g s n hn e1 e2 hv hks HR HK HO 6 (.inr ⟨q1, q2, rfl⟩)).mono ?_
      rintro e w' ⟨rfl, hb⟩
      exact ⟨_, rfl, ents_nil _, hb⟩
    · exact refPut_good w v l k a b c g s n hn e1 e2 hv hks HR HK HO q1 q2 q3

end Go.Proofs.YtkmmifonandkoaaDoor

/-
  The walk of IndexPuts, over what it asks of package index.
-/
set_option linter.unusedVariables false
namespace Go.Proofs.YtkmmifonandkoaaDoor
open Go.RowKit

set_option maxRecDepth 100000 in
set_option maxHeartbeats 1000000 in
theorem indexPuts_core (HF : FIAwake) (HR : FIRight) (HP : FIPut) (w : World) (hT : UtfAt w) (v : Value) (l : List Ent) (hv : Ents w v l) (k : ByteArray) (a b c : Int) (g : Bool) (s : ByteArray) :
    Calls Tryd.prog 3 #[v, .string k, (Go.Value.agg #[Go.Value.int Go.IntKind.i64 a, Go.Value.int Go.IntKind.i64 b, Go.Value.int Go.IntKind.i64 c, Go.Value.bool g, Go.Value.string s])] w fun e w' => e = .returned (.bool true) ∧ Below w.heap.size w w' := by
  have HAW : Hid (∀ W, Below w.heap.size w W → Calls Tryd.prog 12 #[] W fun e w' => e = .returned (.bool true) ∧ Below W.heap.size W w') := fun W hW => HF W (hT.next hW)
  have HS : Hid (∀ W, Below w.heap.size w W → Calls Tryd.prog 11 #[v] W fun e w' => e = .returned (.bool (smallI l)) ∧ w' = W) := fun W hW => refSmall_any (hv.next hW)
  obtain ⟨W0, hW0, H0, hBX⟩ : ∃ W0, w.alloc (.cells #[.int .i64 a, .int .i64 b, .int .i64 c, .bool g, .string s] 26) = W0 ∧ Hid (Below w.heap.size w W0) ∧ Hid (VBox W0 w.heap.size a b c g s) := ⟨_, rfl, (Below.refl _ _).alloc (Nat.le_refl _) _, VBox.new w a b c g s⟩
  obtain ⟨sm, hsm⟩ : ∃ sm, sm = smallI l := ⟨_, rfl⟩
  rw [← hsm] at HS
  have HSM := Lib.hid hsm
  have HT := Lib.hid hT
  have HV := Lib.hid hv
  clear hsm hT hv
  cases sm
  · go_enter Tryd.func3, Tryd.ntmps3
    go_wp2_with fail
    refine (HS.out _ H0.out).mono ?_
    rintro e w1 ⟨rfl, rfl⟩
    go_wp2_with fail
    refine (HAW.out _ H0.out).mono ?_
    rintro e w2 ⟨rfl, hb2⟩
    go_wp2_with fail
    go_ret
    exact ⟨rfl, H0.out.trans (hb2.mono H0.out.size)⟩
  rcases Nat.lt_or_ge 100 k.size with hk | hk
  · have d1 : decide (100 < (k.size : Int)) = true := decide_eq_true (by omega)
    go_enter Tryd.func3, Tryd.ntmps3
    go_wp2_with fail
    refine (HS.out _ H0.out).mono ?_
    rintro e w1 ⟨rfl, rfl⟩
    go_wp2_with fail
    refine (HAW.out _ H0.out).mono ?_
    rintro e w2 ⟨rfl, hb2⟩
    go_wp2_with fail
    go_ret
    exact ⟨rfl, H0.out.trans (hb2.mono H0.out.size)⟩
  have d1 : decide (100 < (k.size : Int)) = false := decide_eq_false (by omega)
  have HKS : Hid (l.length ≤ 80 ∧ ∀ i, i < l.length → (lat l i).1.size ≤ 1048576) := small_keys HSM.out.symm
  obtain ⟨r, hr⟩ : ∃ r, r = rightI l := ⟨_, rfl⟩
  have HRR : Hid (∀ W, Below w.heap.size w W → Calls Tryd.prog 17 #[v] W fun e w' => e = .returned (.bool r) ∧ Below W.heap.size W w') := fun W hW => by rw [hr]; exact refIRight_any (HV.out.next hW) HKS.out.2
  have HRI : Hid (∀ W, Below w.heap.size w W → Calls Tryd.prog 16 #[v] W fun e w' => e = .returned (.bool r) ∧ Below W.heap.size W w') := fun W hW => by rw [hr]; exact HR W v l (HT.out.next hW) (HV.out.next hW)
  obtain ⟨m, er, hm⟩ := put_ex l k (a, b, c, g, s)
  have HPH : Hid (∀ W, Below w.heap.size w W → Calls Tryd.prog 13 #[v, .string k, (Go.Value.agg #[Go.Value.int Go.IntKind.i64 a, Go.Value.int Go.IntKind.i64 b, Go.Value.int Go.IntKind.i64 c, Go.Value.bool g, Go.Value.string s])] W fun e' w' => ∃ v', e' = .returned (.tuple #[v', .int .i64 er]) ∧ Ents w' v' m ∧ Below W.heap.size W w') := fun W hW => HP W v l k a b c g s m er (HT.out.next hW) (HV.out.next hW) hm
  have HPR : Hid (∀ W, Below w.heap.size w W → Calls Tryd.prog 14 #[v, .string k, (Go.Value.agg #[Go.Value.int Go.IntKind.i64 a, Go.Value.int Go.IntKind.i64 b, Go.Value.int Go.IntKind.i64 c, Go.Value.bool g, Go.Value.string s])] W fun e' w' => ∃ v', e' = .returned (.tuple #[v', .int .i64 er]) ∧ Ents w' v' m ∧ Below W.heap.size W w') := fun W hW => refPut_any (HV.out.next hW) k a b c g s HKS.out.2 m er hm
  clear hr hm HP HR HF hk
  go_enter Tryd.func3, Tryd.ntmps3
  go_wp2_with fail
  refine (HS.out _ H0.out).mono ?_
  rintro e w1 ⟨rfl, rfl⟩
  obtain ⟨x0, x1, x2, x3, x4⟩ := hBX.out.cell
  go_wp2_with fail
  refine (HPH.out _ H0.out).mono ?_
  rintro e w2 ⟨v2, rfl, hi2, hb2⟩
  have H2 : Hid (Below w.heap.size w w2 ∧ VBox w2 w.heap.size a b c g s ∧ Ents w2 v2 m) := ⟨H0.out.trans (hb2.mono H0.out.size), hBX.out.over hb2, hi2⟩
  clear hb2 hi2 x0 x1 x2 x3 x4
  obtain ⟨x0, x1, x2, x3, x4⟩ := H2.out.2.1.cell
  go_wp2_with fail
  refine (HPR.out _ H2.out.1).mono ?_
  rintro e w3 ⟨v3, rfl, hi3, hb3⟩
  have H3 : Hid (Below w.heap.size w w3) := H2.out.1.trans (hb3.mono H2.out.1.size)
  have HQ := Lib.hid (refIEqual_any (H2.out.2.2.next hb3) hi3)
  clear hb3 hi3 H2 x0 x1 x2 x3 x4
  go_wp2_with fail
  refine HQ.out.mono ?_
  rintro e w4 ⟨rfl, hb4⟩
  have H4 : Hid (Below w.heap.size w w4) := H3.out.trans (hb4.mono H3.out.size)
  clear hb4
  go_wp2_with fail
  refine (HRI.out _ H4.out).mono ?_
  rintro e w5 ⟨rfl, hb5⟩
  have H5 : Hid (Below w.heap.size w w5) := H4.out.trans (hb5.mono H4.out.size)
  clear hb5
  go_wp2_with fail
  refine (HRR.out _ H5.out).mono ?_
  rintro e w6 ⟨rfl, hb6⟩
  have H6 : Hid (Below w.heap.size w w6) := H5.out.trans (hb6.mono H5.out.size)
  clear hb6
  go_wp2_with fail
  refine (HAW.out _ H6.out).mono ?_
  rintro e w7 ⟨rfl, hb7⟩
  go_wp2_with fail
  go_ret
  exact ⟨rfl, H6.out.trans (hb7.mono H6.out.size)⟩

end Go.Proofs.YtkmmifonandkoaaDoor
