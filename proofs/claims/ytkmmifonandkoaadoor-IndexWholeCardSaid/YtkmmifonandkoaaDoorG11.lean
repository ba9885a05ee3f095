/-
  Merged texts, in build order: IxReadsWalk IxRefIn VrRefValue IxRefPage.
-/
import Derived.Test.YtkmmifonandkoaaDoorG09
import Derived.Test.YtkmmifonandkoaaDoorG06
import Derived.Test.YtkmmifonandkoaaDoorG08
import Derived.Shelf.Abstract
import Derived.Test.YtkmmifonandkoaaDoorG03
import Derived.OwnWalk

/-
  The walk of IndexReads, over what it asks of package index.
-/
set_option linter.unusedVariables false
namespace Go.Proofs.YtkmmifonandkoaaDoor
open Go.RowKit

/-! ### Runs of operations -/
theorem run_enter (g : FuncId) {fn : Func} {c : Code} (hf : Tryd.prog.funcs[g]? = some fn) (hname : (fn.name == "runtime.NumGoroutine") = false) (hb : fn.body = some c) (args : Array Value) (w : World) : (callFunc g args).run Tryd.prog w = .ok (.enter g args) w := Go.Proofs.enters_of hf hname hb args w
theorem run_call2 (ρ : Operand → Value) (o : Oper) (g : FuncId) (x y : Operand) (ts : Array TypeId) (ho : o.op = .call { callee := .value (.func g), args := #[x, y], argTypes := ts }) (vx vy : Value) (hx : ρ x = vx) (hy : ρ y = vy) (hρ : ρ (.func g) = .func (.func g) #[] #[])
    (he : ∀ args w, (callFunc g args).run Tryd.prog w = .ok (.enter g args) w) (w : World) : (execOp ρ o).run Tryd.prog w = .ok (.enter g #[vx, vy]) w := by
  unfold execOp
  rw [ho]
  simp [resolve, invoke, hx, hy, hρ, Deferred.ofValue, he]
theorem run_extract (ρ : Operand → Value) (o : Oper) (x : Operand) (i : Nat) (ho : o.op = .extract x i) (p q : Value) (hx : ρ x = .tuple #[p, q]) (hi : i = 0 ∨ i = 1) (w : World) : (execOp ρ o).run Tryd.prog w = .ok (.value (if i = 0 then p else q)) w := by
  unfold execOp
  rw [ho]
  rcases hi with rfl | rfl <;> simp [hx, Instr.extract]
theorem run_alloc_ver (ρ : Operand → Value) (o : Oper) (ho : o.op = .alloc 26) (w : World) : (execOp ρ o).run Tryd.prog w = .ok (.value (.pointer (some ⟨w.heap.size, 0, none⟩))) (w.alloc (.cells #[.int .i64 0, .int .i64 0, .int .i64 0, .bool false, .string ({ data := #[] })] 26)) := by
  unfold execOp
  rw [ho]
  kernel_rfl

/-- What is known while the version is read: done operations d, their values f. -/
def RdI (wc : World) (v : Value) (k : ByteArray) (cl : List Ver) (x y z : Int) (u : Ver) (ok : Bool) (d : Nat → Bool) (f : Nat → Value) (W : World) : Prop :=
  Below wc.heap.size wc W ∧ (d 0 = true → f 0 = v) ∧ (d 1 = true → f 1 = .string k) ∧ (d 2 = true → d 4 = false → Vers W (f 2) cl) ∧ (d 3 = true → f 3 = (Go.Value.agg #[Go.Value.int Go.IntKind.i64 x, Go.Value.int Go.IntKind.i64 y, Go.Value.int Go.IntKind.i64 z])) ∧
  (d 4 = true → f 4 = .tuple #[verV u, .bool ok]) ∧ (d 5 = true → f 5 = .tuple #[verV u, .bool ok]) ∧ (d 6 = true → f 6 = verV u) ∧ (d 7 = true → f 7 = .bool ok) ∧
  (d 8 = true → ∃ g, f 8 = .pointer (some ⟨g, 0, none⟩) ∧ wc.heap.size ≤ g ∧ W.heap[g]? = some (.cells (if d 9 then #[.int .i64 (u.1), .int .i64 (u.2.1), .int .i64 (u.2.2.1), .bool (u.2.2.2.1), .string (u.2.2.2.2)] else #[.int .i64 0, .int .i64 0, .int .i64 0, .bool false, .string ({ data := #[] })]) 26 (0, 0))) ∧
  (d 9 = true → d 8 = true ∧ d 4 = true) ∧ (d 10 = true → f 10 = .bool ok)
section
variable {wc W W' : World} {v : Value} {k : ByteArray} {cl : List Ver} {x y z : Int} {u : Ver} {ok : Bool} {d : Nat → Bool} {f : Nat → Value}
theorem RdI.next (H : RdI wc v k cl x y z u ok d f W) (hb : Below W.heap.size W W') : RdI wc v k cl x y z u ok d f W' := by
  obtain ⟨h, h0, h1, h2, h3, h4, h5, h6, h7, h8, h9, h10⟩ := H
  refine ⟨h.trans (hb.mono h.size), h0, h1, fun a b => (h2 a b).next hb, h3, h4, h5, h6, h7, fun a => ?_, h9, h10⟩
  obtain ⟨g, e, hg, hc⟩ := h8 a
  refine ⟨g, e, hg, (hb.block g ?_).trans hc⟩
  rcases Nat.lt_or_ge g W.heap.size with h1 | h1
  · exact h1
  · rw [Array.getElem?_eq_none h1] at hc; cases hc
theorem RdI.s0 (H : RdI wc v k cl x y z u ok d f W)  : RdI wc v k cl x y z u ok (Rg.upd d 0 true) (Rg.upd f 0 v) W := by
  obtain ⟨h, h0, h1, h2, h3, h4, h5, h6, h7, h8, h9, h10⟩ := H
  exact ⟨h, fun _ => rfl, by simpa [Rg.upd] using h1, by simpa [Rg.upd] using h2, by simpa [Rg.upd] using h3, by simpa [Rg.upd] using h4, by simpa [Rg.upd] using h5, by simpa [Rg.upd] using h6, by simpa [Rg.upd] using h7, by simpa [Rg.upd] using h8, by simpa [Rg.upd] using h9, by simpa [Rg.upd] using h10⟩
theorem RdI.s1 (H : RdI wc v k cl x y z u ok d f W)  : RdI wc v k cl x y z u ok (Rg.upd d 1 true) (Rg.upd f 1 (.string k)) W := by
  obtain ⟨h, h0, h1, h2, h3, h4, h5, h6, h7, h8, h9, h10⟩ := H
  exact ⟨h, by simpa [Rg.upd] using h0, fun _ => rfl, by simpa [Rg.upd] using h2, by simpa [Rg.upd] using h3, by simpa [Rg.upd] using h4, by simpa [Rg.upd] using h5, by simpa [Rg.upd] using h6, by simpa [Rg.upd] using h7, by simpa [Rg.upd] using h8, by simpa [Rg.upd] using h9, by simpa [Rg.upd] using h10⟩
theorem RdI.s2 (H : RdI wc v k cl x y z u ok d f W) {cv : Value} (hv : Vers W cv cl) : RdI wc v k cl x y z u ok (Rg.upd d 2 true) (Rg.upd f 2 cv) W := by
  obtain ⟨h, h0, h1, h2, h3, h4, h5, h6, h7, h8, h9, h10⟩ := H
  exact ⟨h, by simpa [Rg.upd] using h0, by simpa [Rg.upd] using h1, fun _ _ => hv, by simpa [Rg.upd] using h3, by simpa [Rg.upd] using h4, by simpa [Rg.upd] using h5, by simpa [Rg.upd] using h6, by simpa [Rg.upd] using h7, by simpa [Rg.upd] using h8, by simpa [Rg.upd] using h9, by simpa [Rg.upd] using h10⟩
theorem RdI.s3 (H : RdI wc v k cl x y z u ok d f W)  : RdI wc v k cl x y z u ok (Rg.upd d 3 true) (Rg.upd f 3 (Go.Value.agg #[Go.Value.int Go.IntKind.i64 x, Go.Value.int Go.IntKind.i64 y, Go.Value.int Go.IntKind.i64 z])) W := by
  obtain ⟨h, h0, h1, h2, h3, h4, h5, h6, h7, h8, h9, h10⟩ := H
  exact ⟨h, by simpa [Rg.upd] using h0, by simpa [Rg.upd] using h1, by simpa [Rg.upd] using h2, fun _ => rfl, by simpa [Rg.upd] using h4, by simpa [Rg.upd] using h5, by simpa [Rg.upd] using h6, by simpa [Rg.upd] using h7, by simpa [Rg.upd] using h8, by simpa [Rg.upd] using h9, by simpa [Rg.upd] using h10⟩
theorem RdI.s4 (H : RdI wc v k cl x y z u ok d f W)  : RdI wc v k cl x y z u ok (Rg.upd d 4 true) (Rg.upd f 4 (.tuple #[verV u, .bool ok])) W := by
  obtain ⟨h, h0, h1, h2, h3, h4, h5, h6, h7, h8, h9, h10⟩ := H
  exact ⟨h, by simpa [Rg.upd] using h0, by simpa [Rg.upd] using h1, (fun _ e => by rw [Rg.upd_same] at e; cases e), by simpa [Rg.upd] using h3, fun _ => rfl, by simpa [Rg.upd] using h5, by simpa [Rg.upd] using h6, by simpa [Rg.upd] using h7, by simpa [Rg.upd] using h8, fun e => ⟨by simpa [Rg.upd] using (h9 (by simpa [Rg.upd] using e)).1, by simp [Rg.upd]⟩, by simpa [Rg.upd] using h10⟩
theorem RdI.s5 (H : RdI wc v k cl x y z u ok d f W)  : RdI wc v k cl x y z u ok (Rg.upd d 5 true) (Rg.upd f 5 (.tuple #[verV u, .bool ok])) W := by
  obtain ⟨h, h0, h1, h2, h3, h4, h5, h6, h7, h8, h9, h10⟩ := H
  exact ⟨h, by simpa [Rg.upd] using h0, by simpa [Rg.upd] using h1, by simpa [Rg.upd] using h2, by simpa [Rg.upd] using h3, by simpa [Rg.upd] using h4, fun _ => rfl, by simpa [Rg.upd] using h6, by simpa [Rg.upd] using h7, by simpa [Rg.upd] using h8, by simpa [Rg.upd] using h9, by simpa [Rg.upd] using h10⟩
theorem RdI.s6 (H : RdI wc v k cl x y z u ok d f W)  : RdI wc v k cl x y z u ok (Rg.upd d 6 true) (Rg.upd f 6 (verV u)) W := by
  obtain ⟨h, h0, h1, h2, h3, h4, h5, h6, h7, h8, h9, h10⟩ := H
  exact ⟨h, by simpa [Rg.upd] using h0, by simpa [Rg.upd] using h1, by simpa [Rg.upd] using h2, by simpa [Rg.upd] using h3, by simpa [Rg.upd] using h4, by simpa [Rg.upd] using h5, fun _ => rfl, by simpa [Rg.upd] using h7, by simpa [Rg.upd] using h8, by simpa [Rg.upd] using h9, by simpa [Rg.upd] using h10⟩
theorem RdI.s7 (H : RdI wc v k cl x y z u ok d f W)  : RdI wc v k cl x y z u ok (Rg.upd d 7 true) (Rg.upd f 7 (.bool ok)) W := by
  obtain ⟨h, h0, h1, h2, h3, h4, h5, h6, h7, h8, h9, h10⟩ := H
  exact ⟨h, by simpa [Rg.upd] using h0, by simpa [Rg.upd] using h1, by simpa [Rg.upd] using h2, by simpa [Rg.upd] using h3, by simpa [Rg.upd] using h4, by simpa [Rg.upd] using h5, by simpa [Rg.upd] using h6, fun _ => rfl, by simpa [Rg.upd] using h8, by simpa [Rg.upd] using h9, by simpa [Rg.upd] using h10⟩
theorem RdI.s8 (H : RdI wc v k cl x y z u ok d f W) (h9d : d 9 = false) {g : Nat} (hg : wc.heap.size ≤ g) (hc : W.heap[g]? = some (.cells #[.int .i64 0, .int .i64 0, .int .i64 0, .bool false, .string ({ data := #[] })] 26 (0, 0))) : RdI wc v k cl x y z u ok (Rg.upd d 8 true) (Rg.upd f 8 (.pointer (some ⟨g, 0, none⟩))) W := by
  obtain ⟨h, h0, h1, h2, h3, h4, h5, h6, h7, h8, h9, h10⟩ := H
  refine ⟨h, by simpa [Rg.upd] using h0, by simpa [Rg.upd] using h1, by simpa [Rg.upd] using h2, by simpa [Rg.upd] using h3, by simpa [Rg.upd] using h4, by simpa [Rg.upd] using h5, by simpa [Rg.upd] using h6, by simpa [Rg.upd] using h7, fun _ => ⟨g, rfl, hg, ?_⟩, (fun e => by rw [Rg.upd_other d true (by decide : (9 : Nat) ≠ 8), h9d] at e; cases e), by simpa [Rg.upd] using h10⟩
  rw [Rg.upd_other d true (by decide : (9 : Nat) ≠ 8), h9d]
  exact hc
theorem RdI.s9 (H : RdI wc v k cl x y z u ok d f W) (h4d : d 4 = true) (h8d : d 8 = true) {g : Nat} (hf : f 8 = .pointer (some ⟨g, 0, none⟩)) (p : Value) : RdI wc v k cl x y z u ok (Rg.upd d 9 true) (Rg.upd f 9 p) (W.setRow g #[.int .i64 (u.1), .int .i64 (u.2.1), .int .i64 (u.2.2.1), .bool (u.2.2.2.1), .string (u.2.2.2.2)]) := by
  obtain ⟨h, h0, h1, h2, h3, h4, h5, h6, h7, h8, h9, h10⟩ := H
  obtain ⟨g', e1, hgb, hc⟩ := h8 h8d
  obtain rfl : g' = g := by
    rw [hf] at e1
    injection e1 with e1
    injection e1 with e1
    injection e1 with e1
    exact e1.symm
  refine ⟨below_setRow h hgb _, by simpa [Rg.upd] using h0, by simpa [Rg.upd] using h1, fun _ e => ?_, by simpa [Rg.upd] using h3, by simpa [Rg.upd] using h4, by simpa [Rg.upd] using h5, by simpa [Rg.upd] using h6, by simpa [Rg.upd] using h7, fun _ => ⟨g', by simpa [Rg.upd] using hf, hgb, ?_⟩, fun _ => ⟨by simpa [Rg.upd] using h8d, by simpa [Rg.upd] using h4d⟩, by simpa [Rg.upd] using h10⟩
  · rw [Rg.upd_other d true (by decide : (4 : Nat) ≠ 9), h4d] at e; cases e
  · rw [Rg.upd_same]
    exact setRow_heap W g' _ _ _ _ hc
theorem RdI.s10 (H : RdI wc v k cl x y z u ok d f W)  : RdI wc v k cl x y z u ok (Rg.upd d 10 true) (Rg.upd f 10 (.bool ok)) W := by
  obtain ⟨h, h0, h1, h2, h3, h4, h5, h6, h7, h8, h9, h10⟩ := H
  exact ⟨h, by simpa [Rg.upd] using h0, by simpa [Rg.upd] using h1, by simpa [Rg.upd] using h2, by simpa [Rg.upd] using h3, by simpa [Rg.upd] using h4, by simpa [Rg.upd] using h5, by simpa [Rg.upd] using h6, by simpa [Rg.upd] using h7, by simpa [Rg.upd] using h8, by simpa [Rg.upd] using h9, fun _ => rfl⟩
end

/-- The stamp's box, the box of the version read. -/
def RdRel (w : World) (x y z : Int) (g7 : Nat) (u : Ver) (W : World) : Prop := Below w.heap.size w W ∧ Box W w.heap.size x y z ∧ VBox W g7 u.1 u.2.1 u.2.2.1 u.2.2.2.1 u.2.2.2.2
theorem RdRel.next {w W W' : World} {x y z : Int} {g7 : Nat} {u : Ver} (H : RdRel w x y z g7 u W) (hb : Below W.heap.size W W') : RdRel w x y z g7 u W' := ⟨H.1.trans (hb.mono H.1.size), H.2.1.over hb, H.2.2.over hb⟩
def RdC (w : World) (x y z : Int) (g7 : Nat) (u : Ver) (W : World) : Prop := W.cell? ⟨w.heap.size, 0, none⟩ = some (.int .i64 x) ∧ W.cell? ⟨w.heap.size, 1, none⟩ = some (.int .i64 y) ∧ W.cell? ⟨w.heap.size, 2, none⟩ = some (.int .i64 z) ∧ RdRel w x y z g7 u W
theorem RdC.of {w W : World} {x y z : Int} {g7 : Nat} {u : Ver} (H : RdRel w x y z g7 u W) : RdC w x y z g7 u W := by
  obtain ⟨x0, x1, x2⟩ := H.2.1.cell
  exact ⟨x0, x1, x2, H⟩
theorem RdC.rel {w W : World} {x y z : Int} {g7 : Nat} {u : Ver} (H : RdC w x y z g7 u W) : RdRel w x y z g7 u W := H.2.2.2
theorem RdC.next {w W W' : World} {x y z : Int} {g7 : Nat} {u : Ver} (H : RdC w x y z g7 u W) (hb : Below W.heap.size W W') : RdC w x y z g7 u W' := .of (H.rel.next hb)
theorem RdC.alloc {w W : World} {x y z : Int} {g7 : Nat} {u : Ver} (H : RdC w x y z g7 u W) (o : Obj) : RdC w x y z g7 u (W.alloc o) := H.next ((Below.refl _ _).alloc (Nat.le_refl _) _)

set_option maxRecDepth 100000 in
set_option maxHeartbeats 2000000 in
theorem indexReads_core (HF : FIAwake) (HD : FIRead) (w : World) (hT : UtfAt w) (v : Value) (l : List Ent) (hv : Ents w v l) (k : ByteArray) (x y z : Int) :
    Calls Tryd.prog 4 #[v, .string k, (Go.Value.agg #[Go.Value.int Go.IntKind.i64 x, Go.Value.int Go.IntKind.i64 y, Go.Value.int Go.IntKind.i64 z])] w fun e w' => e = .returned (.bool true) ∧ Below w.heap.size w w' := by
  have HAW : Hid (∀ W, Below w.heap.size w W → Calls Tryd.prog 12 #[] W fun e w' => e = .returned (.bool true) ∧ Below W.heap.size W w') := fun W hW => HF W (hT.next hW)
  have HS : Hid (∀ W, Below w.heap.size w W → Calls Tryd.prog 11 #[v] W fun e w' => e = .returned (.bool (smallI l)) ∧ w' = W) := fun W hW => refSmall_any (hv.next hW)
  obtain ⟨W0, hW0, H0, hBX⟩ : ∃ W0, w.alloc (.cells #[.int .i64 x, .int .i64 y, .int .i64 z] 24) = W0 ∧ Hid (Below w.heap.size w W0) ∧ Hid (Box W0 w.heap.size x y z) := ⟨_, rfl, (Below.refl _ _).alloc (Nat.le_refl _) _, Box.new w x y z⟩
  obtain ⟨sm, hsm⟩ : ∃ sm, sm = smallI l := ⟨_, rfl⟩
  rw [← hsm] at HS
  have HSM := Lib.hid hsm
  have HT := Lib.hid hT
  have HV := Lib.hid hv
  clear hsm hT hv
  cases sm
  · go_enter Tryd.func4, Tryd.ntmps4
    go_wp2_with fail
    refine (HS.out _ H0.out).mono ?_
    rintro e w1 ⟨rfl, rfl⟩
    go_wp2_with fail
    refine (HAW.out _ H0.out).mono ?_
    rintro e w2 ⟨rfl, hb2⟩
    go_wp2_with fail
    go_ret
    exact ⟨rfl, H0.out.trans (hb2.mono H0.out.size)⟩
  rcases Nat.lt_or_ge 100 k.size with hk | hk
  · have d1 : decide (100 < (k.size : Int)) = true := decide_eq_true (by omega)
    go_enter Tryd.func4, Tryd.ntmps4
    go_wp2_with fail
    refine (HS.out _ H0.out).mono ?_
    rintro e w1 ⟨rfl, rfl⟩
    go_wp2_with fail
    refine (HAW.out _ H0.out).mono ?_
    rintro e w2 ⟨rfl, hb2⟩
    go_wp2_with fail
    go_ret
    exact ⟨rfl, H0.out.trans (hb2.mono H0.out.size)⟩
  have d1 : decide (100 < (k.size : Int)) = false := decide_eq_false (by omega)
  obtain ⟨r, hr⟩ : ∃ r, r = rightI l := ⟨_, rfl⟩
  have HKS : Hid (l.length ≤ 80 ∧ ∀ i, i < l.length → (lat l i).1.size ≤ 1048576) := small_keys HSM.out.symm
  have HRR : Hid (∀ W, Below w.heap.size w W → Calls Tryd.prog 17 #[v] W fun e w' => e = .returned (.bool r) ∧ Below W.heap.size W w') := fun W hW => by rw [hr]; exact refIRight_any (HV.out.next hW) HKS.out.2
  obtain ⟨u, ok, hu⟩ := read_ex l k x y z
  obtain ⟨a, b, c, g, s⟩ := u
  have HDH : Hid (∀ W, Below w.heap.size w W → Calls Tryd.prog 18 #[v, .string k, (Go.Value.agg #[Go.Value.int Go.IntKind.i64 x, Go.Value.int Go.IntKind.i64 y, Go.Value.int Go.IntKind.i64 z])] W fun e w' => e = .returned (.tuple #[(Go.Value.agg #[Go.Value.int Go.IntKind.i64 a, Go.Value.int Go.IntKind.i64 b, Go.Value.int Go.IntKind.i64 c, Go.Value.bool g, Go.Value.string s]), .bool ok]) ∧ Below W.heap.size W w') := fun W hW => HD W v l k x y z a b c g s ok (HT.out.next hW) (HV.out.next hW) hu
  have HU : Hid ((r = false ∧ (a, b, c, g, s) = ver0 ∧ ok = false) ∨ (r = true ∧ ∃ n, IsPos l k n ∧ IsAt (chainOf l k n) x y z (a, b, c, g, s) ok)) := by rw [hr]; exact hu
  have HRE := Lib.hid hr
  clear hr hu HD HF hk
  cases r
  · have hu0 : (a, b, c, g, s) = ver0 ∧ ok = false := by
      rcases HU.out with ⟨_, h⟩ | ⟨h, _⟩
      · exact h
      · cases h
    obtain ⟨hu1, rfl⟩ := hu0
    simp only [ver0, Prod.mk.injEq] at hu1
    obtain ⟨rfl, rfl, rfl, rfl, rfl⟩ := hu1
    go_enter Tryd.func4, Tryd.ntmps4
    go_wp2_with fail
    refine (HS.out _ H0.out).mono ?_
    rintro e w1 ⟨rfl, rfl⟩
    obtain ⟨x0, x1, x2⟩ := hBX.out.cell
    go_wp2_with fail
    refine (HDH.out _ H0.out).mono ?_
    rintro e w2 ⟨rfl, hb2⟩
    have H2 : Hid (Below w.heap.size w (w2.alloc (.cells #[.int .i64 0, .int .i64 0, .int .i64 0, .bool false, .string ({ data := #[] })] 26)) ∧ VBox (w2.alloc (.cells #[.int .i64 0, .int .i64 0, .int .i64 0, .bool false, .string ({ data := #[] })] 26)) w2.heap.size 0 0 0 false { data := #[] }) := ⟨(H0.out.trans (hb2.mono H0.out.size)).alloc (H0.out.trans (hb2.mono H0.out.size)).size _, VBox.new _ _ _ _ _ _⟩
    clear hb2 x0 x1 x2
    go_wp2_with fail
    refine (HRR.out _ H2.out.1).mono ?_
    rintro e w3 ⟨rfl, hb3⟩
    have H3 : Hid (Below w.heap.size w w3 ∧ VBox w3 w2.heap.size 0 0 0 false { data := #[] }) := ⟨H2.out.1.trans (hb3.mono H2.out.1.size), H2.out.2.over hb3⟩
    clear hb3 H2
    obtain ⟨x0, x1, x2, x3, x4⟩ := H3.out.2.cell
    go_wp2_with fail
    refine (HAW.out _ H3.out.1).mono ?_
    rintro e w4 ⟨rfl, hb4⟩
    go_wp2_with fail
    go_ret
    exact ⟨rfl, H3.out.1.trans (hb4.mono H3.out.1.size)⟩
  · have hu0 : ∃ n, IsPos l k n ∧ IsAt (chainOf l k n) x y z (a, b, c, g, s) ok := by
      rcases HU.out with ⟨h, _⟩ | ⟨_, h⟩
      · cases h
      · exact h
    obtain ⟨n, hn, hat⟩ := hu0
    have HOF : Hid (∀ W, Below w.heap.size w W → Calls Tryd.prog 20 #[v, .string k] W fun e w' => ∃ u, e = .returned u ∧ Vers w' u (chainOf l k n) ∧ w' = W) := fun W hW => refOf_any (HV.out.next hW) HRE.out.symm k hn
    have HAT : Hid (∀ W cv, Vers W cv (chainOf l k n) → Calls Tryd.prog 19 #[cv, (Go.Value.agg #[Go.Value.int Go.IntKind.i64 x, Go.Value.int Go.IntKind.i64 y, Go.Value.int Go.IntKind.i64 z])] W fun e w' => e = .returned (.tuple #[(Go.Value.agg #[Go.Value.int Go.IntKind.i64 a, Go.Value.int Go.IntKind.i64 b, Go.Value.int Go.IntKind.i64 c, Go.Value.bool g, Go.Value.string s]), .bool ok]) ∧ Below W.heap.size W w') := fun W cv h => refAt_any h hat
    clear hn hat HU
    go_enter Tryd.func4, Tryd.ntmps4
    go_wp2_with fail
    refine (HS.out _ H0.out).mono ?_
    rintro e w1 ⟨rfl, rfl⟩
    obtain ⟨x0, x1, x2⟩ := hBX.out.cell
    go_wp2_with fail
    refine (HDH.out _ H0.out).mono ?_
    rintro e w2 ⟨rfl, hb2⟩
    obtain ⟨g7, hg7⟩ : ∃ g7, g7 = w2.heap.size := ⟨_, rfl⟩
    have H2 : Hid (RdRel w x y z g7 (a, b, c, g, s) (w2.alloc (.cells #[.int .i64 a, .int .i64 b, .int .i64 c, .bool g, .string s] 26))) := by
      rw [hg7]
      exact ⟨(H0.out.trans (hb2.mono H0.out.size)).alloc (H0.out.trans (hb2.mono H0.out.size)).size _, (hBX.out.over hb2).alloc _, VBox.new _ _ _ _ _ _⟩
    clear hb2 x0 x1 x2
    go_upto_region 4 with (fail)
    rw [← hg7]
    generalize w2.alloc (.cells #[.int .i64 a, .int .i64 b, .int .i64 c, .bool g, .string s] 26) = W2 at H2 ⊢
    clear hg7
    go_wp2_with fail
    refine (HRR.out _ H2.out.1).mono ?_
    rintro e w3 ⟨rfl, hb3⟩
    have H3 := Lib.hid (H2.out.next hb3)
    clear hb3 H2
    go_upto_region 6 with (fail)
    go_cut [9, 10] (fun s9 s10 wx => ∃ g9, s9 = .pointer (some ⟨g9, 0, none⟩) ∧ s10 = .bool ok ∧ Hid (RdRel w x y z g7 (a, b, c, g, s) wx ∧ VBox wx g9 a b c g s))
    case first =>
      refine Rg.region_inv (fun i => i) (by kernel_rfl) (by kernel_rfl) (by kernel_rfl) (RdI w3 v k (chainOf l k n) x y z (a, b, c, g, s) ok) ?_ ?_ ?_
      · exact ⟨(Below.refl _ _).drew, (fun h => by cases h), (fun h => by cases h), (fun h => by cases h), (fun h => by cases h), (fun h => by cases h), (fun h => by cases h), (fun h => by cases h), (fun h => by cases h), (fun h => by cases h), (fun h => by cases h), (fun h => by cases h)⟩
      · refine ⟨?_, ?_, ?_, ?_, ?_, ?_, ?_, ?_, ?_, ?_, ?_, trivial⟩
        · intro d f b1 W hb1 hdi haft hI
          exact Rg.by_move rfl (.tmp 0) rfl v ((Rg.eval_old hb1 0 (by kernel_rfl)).trans rfl) hI.s0
        · intro d f b1 W hb1 hdi haft hI
          exact Rg.by_move rfl (.tmp 1) rfl (.string k) ((Rg.eval_old hb1 1 (by kernel_rfl)).trans rfl) hI.s1
        · intro d f b1 W hb1 hdi haft hI
          have q : d 0 = true ∧ d 1 = true := by simpa [Region.binds] using haft
          refine Rg.by_call rfl 20 #[v, .string k] (run_call2 _ _ _ (.tmp 41) (.tmp 42) _ rfl _ _ ((Rg.eval_at hb1 0 _ 41 (by kernel_rfl) rfl rfl q.1 (by simp)).trans (hI.2.1 q.1)) ((Rg.eval_at hb1 1 _ 42 (by kernel_rfl) rfl rfl q.2 (by simp)).trans (hI.2.2.1 q.2)) rfl (run_enter _ Tryd.func20 (by kernel_rfl) rfl) W) ?_
          refine (HOF.out W (H3.out.1.trans (hI.1.mono H3.out.1.size))).mono ?_
          rintro e w1 ⟨cv, rfl, hcv, rfl⟩
          exact ⟨cv, rfl, hI.s2 hcv⟩
        · intro d f b1 W hb1 hdi haft hI
          exact Rg.by_load rfl _ (.tmp 5) rfl w.heap.size ((Rg.eval_old hb1 5 (by kernel_rfl)).trans rfl) 24 #[.int .i64 x, .int .i64 y, .int .i64 z] (0, 0) _ (H3.out.2.1.over hI.1) Tryd.underlying24 rfl (by kernel_rfl) hI.s3
        · intro d f b1 W hb1 hdi haft hI
          have q : d 2 = true ∧ d 3 = true := by
            have q0 := haft
            simp [Region.binds] at q0
            exact ⟨q0.1, q0.2.1⟩
          refine Rg.by_call rfl 19 #[f 2, (Go.Value.agg #[Go.Value.int Go.IntKind.i64 x, Go.Value.int Go.IntKind.i64 y, Go.Value.int Go.IntKind.i64 z])] (run_call2 _ _ _ (.tmp 43) (.tmp 44) _ rfl _ _ (Rg.eval_at hb1 2 _ 43 (by kernel_rfl) rfl rfl q.1 (by simp)) ((Rg.eval_at hb1 3 _ 44 (by kernel_rfl) rfl rfl q.2 (by simp)).trans (hI.2.2.2.2.1 q.2)) rfl (run_enter _ Tryd.func19 (by kernel_rfl) rfl) W) ?_
          refine (HAT.out W _ (hI.2.2.2.1 q.1 hdi)).mono ?_
          rintro e w1 ⟨rfl, hb⟩
          exact ⟨_, rfl, (hI.next hb).s4⟩
        · intro d f b1 W hb1 hdi haft hI
          have q : d 4 = true := by simpa [Region.binds] using haft
          exact Rg.by_move rfl (.tmp 45) rfl _ ((Rg.eval_at hb1 4 _ 45 (by kernel_rfl) rfl rfl q (by simp)).trans (hI.2.2.2.2.2.1 q)) hI.s5
        · intro d f b1 W hb1 hdi haft hI
          have q : d 5 = true := by simpa [Region.binds] using haft
          exact Rg.by_run rfl _ _ (run_extract _ _ (.tmp 40) 0 rfl _ _ ((Rg.eval_at hb1 5 _ 40 (by kernel_rfl) rfl rfl q (by simp)).trans (hI.2.2.2.2.2.2.1 q)) (.inl rfl) W) hI.s6
        · intro d f b1 W hb1 hdi haft hI
          have q : d 5 = true := by simpa [Region.binds] using haft
          exact Rg.by_run rfl _ _ (run_extract _ _ (.tmp 40) 1 rfl _ _ ((Rg.eval_at hb1 5 _ 40 (by kernel_rfl) rfl rfl q (by simp)).trans (hI.2.2.2.2.2.2.1 q)) (.inr rfl) W) hI.s7
        · intro d f b1 W hb1 hdi haft hI
          refine Rg.by_run rfl _ _ (run_alloc_ver _ _ rfl W) ?_
          have h9 : d 9 = false := by
            cases e : d 9
            · rfl
            · rw [(hI.2.2.2.2.2.2.2.2.2.2.1 e).1] at hdi; cases hdi
          exact (hI.next ((Below.refl _ _).alloc (Nat.le_refl _) _)).s8 h9 hI.1.size (heap_alloc_new _ _)
        · intro d f b1 W hb1 hdi haft hI
          have q0 := haft
          simp [Region.binds] at q0
          have q : d 8 = true ∧ d 6 = true ∧ d 4 = true := by
            refine ⟨?_, ?_, ?_⟩ <;> simp_all
          obtain ⟨g9, e8, hgb, hc⟩ := hI.2.2.2.2.2.2.2.2.2.1 q.1
          rw [hdi] at hc
          exact Rg.by_store rfl _ (.tmp 9) (.tmp 46) rfl g9 _ ((Rg.eval_at hb1 8 _ 9 (by kernel_rfl) rfl rfl q.1 (by simp)).trans e8) ((Rg.eval_at hb1 6 _ 46 (by kernel_rfl) rfl rfl q.2.1 (by simp)).trans (hI.2.2.2.2.2.2.2.1 q.2.1)) 26 _ hc (by kernel_rfl) rfl (by simp [Value.oneCell']) (hI.s9 q.2.2 q.1 e8 undef)
        · intro d f b1 W hb1 hdi haft hI
          have q0 := haft
          simp [Region.binds] at q0
          have q : d 7 = true := by simp_all
          exact Rg.by_assign rfl (.tmp 47) rfl _ ((Rg.eval_at hb1 7 _ 47 (by kernel_rfl) rfl rfl q (by simp)).trans (hI.2.2.2.2.2.2.2.2.1 q)) hI.s10
      · intro d f wx hI hall
        simp only [Rg.fillAll]
        go_simp
        go_wp2_with fail
        go_meet
        obtain ⟨g9, e8, hgb, hc⟩ := hI.2.2.2.2.2.2.2.2.2.1 (hall 8 (by decide))
        rw [hall 9 (by decide)] at hc
        exact ⟨g9, e8, hI.2.2.2.2.2.2.2.2.2.2.2 (hall 10 (by decide)), H3.out.next hI.1, hc⟩
    case rest =>
      obtain ⟨g9, rfl, rfl, H6⟩ := hcut
      obtain ⟨x0, x1, x2, x3, x4⟩ := H6.out.1.2.2.cell
      obtain ⟨y0, y1, y2, y3, y4⟩ := H6.out.2.cell
      go_wp2_with fail
      refine (HAW.out _ H6.out.1.1).mono ?_
      rintro e w7 ⟨rfl, hb7⟩
      go_wp2_with fail
      go_ret
      exact ⟨rfl, H6.out.1.1.trans (hb7.mono H6.out.1.1.size)⟩

end Go.Proofs.YtkmmifonandkoaaDoor

/-
  The contract of the document's In of layer 8.
-/
set_option linter.unusedVariables false
namespace Go.Proofs.YtkmmifonandkoaaDoor
open Go.RowKit

set_option maxRecDepth 100000 in
set_option maxHeartbeats 400000 in
theorem refIn_any (k lo hi : ByteArray) (w : World) (h1 : k.size ≤ 1048576) (h2 : lo.size ≤ 1048576) (h3 : hi.size ≤ 1048576) : Calls Tryd.prog 71 #[.string k, .string lo, .string hi] w fun e w' => e = .returned (.bool (inR k lo hi)) ∧ Below w.heap.size w w' := by
  obtain ⟨p, hp⟩ : ∃ p, p = Ky.compare k lo := ⟨_, rfl⟩
  obtain ⟨q, hq⟩ : ∃ q, q = Ky.compare k hi := ⟨_, rfl⟩
  have HP : Hid (∀ W, Calls Tryd.prog 39 #[.string k, .string lo] W fun e w' => e = .returned (.int .i64 p) ∧ Below W.heap.size W w') := fun W => by rw [hp]; exact refCompare_any k lo W h1 h2
  have HQ : Hid (∀ W, Calls Tryd.prog 39 #[.string k, .string hi] W fun e w' => e = .returned (.int .i64 q) ∧ Below W.heap.size W w') := fun W => by rw [hq]; exact refCompare_any k hi W h1 h3
  have HX : Hid (inR k lo hi = (decide (0 ≤ p) && (decide (hi.size = 0) || decide (q < 0)))) := by show _ = _; rw [hp, hq]; rfl
  clear hp hq h1 h2 h3
  cases hd : decide (0 ≤ p)
  · rw [hd] at HX
    go_enter Tryd.func71, Tryd.ntmps71
    go_wp2_with fail
    refine (HP.out _).mono ?_
    rintro e w1 ⟨rfl, hb1⟩
    go_wp2_with fail
    go_ret
    exact ⟨by rw [HX.out]; rfl, hb1⟩
  · rw [hd] at HX
    by_cases h0 : hi.size = 0
    · rw [decide_eq_true h0] at HX
      have e0 : ((hi.size : Int) == 0) = true := by rw [h0]; rfl
      go_enter Tryd.func71, Tryd.ntmps71
      go_wp2_with fail
      refine (HP.out _).mono ?_
      rintro e w1 ⟨rfl, hb1⟩
      go_wp2_with fail
      go_ret
      exact ⟨by rw [HX.out]; rfl, hb1⟩
    · rw [decide_eq_false h0] at HX
      have e0 : ((hi.size : Int) == 0) = false := beq_eq_false_iff_ne.2 (by omega)
      cases hd2 : decide (q < 0)
      all_goals
        rw [hd2] at HX
        go_enter Tryd.func71, Tryd.ntmps71
        go_wp2_with fail
        refine (HP.out _).mono ?_
        rintro e w1 ⟨rfl, hb1⟩
        go_wp2_with fail
        refine (HQ.out _).mono ?_
        rintro e w2 ⟨rfl, hb2⟩
        go_wp2_with fail
        go_ret
        exact ⟨by rw [HX.out]; rfl, hb1.trans (hb2.mono hb1.size)⟩

end Go.Proofs.YtkmmifonandkoaaDoor

/-
  The contract of the document's Value of a chain.
-/
set_option linter.unusedVariables false
namespace Go.Proofs.YtkmmifonandkoaaDoor
open Go.RowKit

set_option maxRecDepth 100000 in
set_option maxHeartbeats 400000 in
theorem refValue_core (w : World) (v : Value) (x y z a b c : Int) (g ok : Bool) (s : ByteArray)
    (HA : Hid (∀ W, Below w.heap.size w W → Calls Tryd.prog 19 #[v, (Go.Value.agg #[Go.Value.int Go.IntKind.i64 x, Go.Value.int Go.IntKind.i64 y, Go.Value.int Go.IntKind.i64 z])] W fun e w' => e = .returned (.tuple #[(Go.Value.agg #[Go.Value.int Go.IntKind.i64 a, Go.Value.int Go.IntKind.i64 b, Go.Value.int Go.IntKind.i64 c, Go.Value.bool g, Go.Value.string s]), .bool ok]) ∧ Below W.heap.size W w')) :
    Calls Tryd.prog 70 #[v, (Go.Value.agg #[Go.Value.int Go.IntKind.i64 x, Go.Value.int Go.IntKind.i64 y, Go.Value.int Go.IntKind.i64 z])] w fun e w' => e = .returned (.tuple #[.string (valV (a, b, c, g, s) ok), .bool (hasV (a, b, c, g, s) ok)]) ∧ Below w.heap.size w w' := by
  have HB : Below w.heap.size w (w.alloc (.cells #[.int .i64 x, .int .i64 y, .int .i64 z] 24)) := (Below.refl _ _).alloc (Nat.le_refl _) _
  cases ok <;> cases g
  all_goals
    go_enter Tryd.func70, Tryd.ntmps70
    go_wp2_with fail
    refine (HA.out _ HB).mono ?_
    rintro e w1 ⟨rfl, hb1⟩
    have hb := HB.trans (hb1.mono HB.size)
    go_wp2_with fail
    go_ret2
    exact ⟨rfl, hb.alloc hb.size _⟩

theorem refValue_any {w : World} {v : Value} {l : List Ver} {x y z : Int} {u : Ver} {ok : Bool} (h : Vers w v l) (ha : IsAt l x y z u ok) :
    Calls Tryd.prog 70 #[v, (Go.Value.agg #[Go.Value.int Go.IntKind.i64 x, Go.Value.int Go.IntKind.i64 y, Go.Value.int Go.IntKind.i64 z])] w fun e w' => e = .returned (.tuple #[.string (valV u ok), .bool (hasV u ok)]) ∧ Below w.heap.size w w' := by
  obtain ⟨a, b, c, g, s⟩ := u
  obtain ⟨ao, cap, rfl, h1, h2, h3⟩ := h
  refine refValue_core w _ x y z a b c g ok s fun W hW => refAt_any ⟨ao, cap, rfl, h1, h2, fun hp => ?_⟩ ha
  obtain ⟨b, off, e1, h4, h5⟩ := h3 hp
  exact ⟨b, off, e1, Nat.lt_of_lt_of_le h4 hW.size, fun i hi => (h5 i hi).next hW h4⟩

end Go.Proofs.YtkmmifonandkoaaDoor

/-
  The contracts of the document's In, Alive, Page and SameItems.
-/
set_option linter.unusedVariables false
namespace Go.Proofs.YtkmmifonandkoaaDoor
open Go.RowKit

/-- What a round of Alive knows: the entry, the stamp's box, the row of one's own. -/
def AlRel (W0 : World) (b o : Nat) (s : ByteArray) (u : Value) (g : Nat) (x y z : Int) (lv : Value) (ms : List Itm) (W : World) : Prop :=
  b < W0.heap.size ∧ Below W0.heap.size W0 W ∧ EntAt W b o (s, u) ∧ Box W g x y z ∧ OwnsM W W0.heap.size lv ms
theorem AlRel.next {W0 W W' : World} {b o g : Nat} {s : ByteArray} {u lv : Value} {x y z : Int} {ms : List Itm} (H : AlRel W0 b o s u g x y z lv ms W) (hb : Below W.heap.size W W') : AlRel W0 b o s u g x y z lv ms W' := by
  obtain ⟨h0, h1, h2, h3, h4⟩ := H
  have := h1.size
  exact ⟨h0, h1.trans (hb.mono h1.size), h2.next hb (by omega), h3.over hb, h4.next hb⟩
theorem AlRel.drew {W0 W : World} {b o g : Nat} {s : ByteArray} {u lv : Value} {x y z : Int} {ms : List Itm} (H : AlRel W0 b o s u g x y z lv ms W) : AlRel W0 b o s u g x y z lv ms W.drew := H.next ((Below.refl _ _).drew)

set_option maxRecDepth 100000 in
set_option maxHeartbeats 2000000 in
theorem refAlive_any {w : World} {v : Value} {l : List Ent} (h : Ents w v l) (lo hi : ByteArray) (x y z : Int) (hks : ∀ i, i < l.length → (lat l i).1.size ≤ 1048576) (h80 : l.length ≤ 80) (hlo : lo.size ≤ 1048576) (hhi : hi.size ≤ 1048576) :
    Calls Tryd.prog 48 #[v, .string lo, .string hi, (Go.Value.agg #[Go.Value.int Go.IntKind.i64 x, Go.Value.int Go.IntKind.i64 y, Go.Value.int Go.IntKind.i64 z])] w fun e w' => ∃ v', e = .returned v' ∧ OwnsM w' w.heap.size v' (aliveL l lo hi x y z) ∧ Below w.heap.size w w' := by
  obtain ⟨ao, n, cap, es, rfl, hl, hle, hmx, hn, hrow, hlead⟩ := h.opened
  obtain ⟨i0, hii, hz0, hz1, hz2⟩ := info_parts info_itm
  have HL := Lib.hid hl
  have HR := Lib.hid hrow
  have HE := Lib.hid hlead
  have HKS := Lib.hid hks
  have H80 := Lib.hid h80
  have HLH : Hid (lo.size ≤ 1048576 ∧ hi.size ≤ 1048576) := ⟨hlo, hhi⟩
  clear hl hrow hlead hle hmx h hks h80 hlo hhi
  obtain ⟨W0, hW0, H0, hBX⟩ : ∃ W0, w.alloc (.cells #[.int .i64 x, .int .i64 y, .int .i64 z] 24) = W0 ∧ Hid (Below w.heap.size w W0) ∧ Hid (Box W0 w.heap.size x y z) := ⟨_, rfl, (Below.refl _ _).alloc (Nat.le_refl _) _, Box.new w x y z⟩
  have hsz0 := H0.out.size
  go_enter Tryd.func48, Tryd.ntmps48
  go_wp2_with fail
  go_loopw [9, 10] (fun lv i wr => ∃ k : Nat, k ≤ n ∧ i = .int .i64 k ∧ Hid (Below W0.heap.size W0 wr) ∧ Hid (OwnsM wr W0.heap.size lv (aliveL (l.take k) lo hi x y z))) (fun _ i _ => n - (intOf i).toNat)
  case atStart => exact ⟨0, Nat.zero_le _, rfl, Below.refl _ _, OwnsM.nil _ _⟩
  case round =>
    obtain ⟨k, hk, rfl, hbel, hown⟩ := hrel
    by_cases hlt : k < n
    · obtain ⟨b, off, rfl, hb, hcl⟩ := HR.out (by omega)
      have hkl : k < l.length := by rw [HL.out]; exact hlt
      obtain ⟨hkey, hvers⟩ := HE.out.2 k hkl
      obtain ⟨s, hs⟩ : ∃ s, s = (lat l k).1 := ⟨_, rfl⟩
      obtain ⟨u, hu⟩ : ∃ u, u = (eat es k).2 := ⟨_, rfl⟩
      obtain ⟨t, ht⟩ : ∃ t, t = valE x y z (lat l k) := ⟨_, rfl⟩
      obtain ⟨d, hd⟩ : ∃ d, d = hasE x y z (lat l k) := ⟨_, rfl⟩
      obtain ⟨q, hq⟩ : ∃ q, q = inR s lo hi := ⟨_, rfl⟩
      have hs1 := HKS.out k hkl
      rw [← hs] at hs1
      rw [← hu] at hvers
      have HV : Hid (∀ W, Below W0.heap.size W0 W → Calls Tryd.prog 70 #[u, (Go.Value.agg #[Go.Value.int Go.IntKind.i64 x, Go.Value.int Go.IntKind.i64 y, Go.Value.int Go.IntKind.i64 z])] W fun e w' => e = .returned (.tuple #[.string t, .bool d]) ∧ Below W.heap.size W w') := fun W hW => by
        rw [ht, hd]
        exact refValue_any ((hvers.next H0.out).next hW) (at_is _ _ _ _)
      have HI : Hid (∀ W, Calls Tryd.prog 71 #[.string s, .string lo, .string hi] W fun e w' => e = .returned (.bool q) ∧ Below W.heap.size W w') := fun W => by rw [hq]; exact refIn_any s lo hi W hs1 HLH.out.1 HLH.out.2
      have H2 : Hid (AlRel W0 b (off + k * 2) s u w.heap.size x y z u9 (aliveL (l.take k) lo hi x y z) wr) := by
        refine ⟨by omega, hbel.out, ?_, hBX.out.over hbel.out, hown.out⟩
        have := ((hcl k hlt).next H0.out hb).next hbel.out (by omega)
        unfold EntAt at this ⊢
        rw [hs, hu, ← hkey]; exact this
      have HA : Hid (aliveB lo hi x y z (lat l k) = (d && q)) := by show _ = _; rw [hd, hq, hs]; rfl
      have HKV : Hid ((lat l k).1 = s ∧ valE x y z (lat l k) = t) := ⟨hs.symm, ht.symm⟩
      have HKL := Lib.hid hkl
      have HLEN : Hid ((aliveL (l.take k) lo hi x y z).length ≤ 80) := by
        have h1 := alive_len (l.take k) lo hi x y z
        rw [List.length_take] at h1
        show _ ≤ _
        have := H80.out
        omega
      have q0 : k < n := hlt
      obtain ⟨ms, hms⟩ : ∃ ms, ms = aliveL (l.take k) lo hi x y z := ⟨_, rfl⟩
      rw [← hms] at H2 HLEN
      have HMS := Lib.hid hms
      clear hcl hkey hvers hs hu ht hd hq hs1 hkl hms hbel hown
      go_upto_region 5 with (fail)
      refine wp_region_calm (AlRel W0 b (off + k * 2) s u w.heap.size x y z u9 ms) (by kernel_rfl) (by kernel_rfl) H2.out.drew ?_
      repeat ((with_reducible refine wpQuiet_step (fun K hK => ?_)); go_simp; first | (refine hK _ ?_; clear hK K) | (apply Exists.intro; refine ⟨fun wc hwc => ?_, hK _ ?_⟩; (focus (first | (first | (go_at_call 70; refine (HV.out _ hwc.2.1).mono ?_; rintro e w1 ⟨rfl, hb1⟩; exact ⟨rfl, hwc.next hb1⟩)) | (((obtain ⟨_, _, ⟨x0, x1⟩, hx, _⟩ := hwc; obtain ⟨y0, y1, y2⟩ := hx.cell; dsimp only at x0 x1; clear hx)); go_simp; done) | (((obtain ⟨_, _, ⟨x0, x1⟩, hx, _⟩ := hwc; obtain ⟨y0, y1, y2⟩ := hx.cell; dsimp only at x0 x1; clear hx)); go_simp; exact rfl))); clear hK K))
      refine wpQuiet_nil ?_
      intro wc hwc
      have HW := Lib.hid hwc
      clear hwc H2
      cases d
      · have HN : Hid (OwnsM wc W0.heap.size u9 (aliveL (l.take (k + 1)) lo hi x y z)) := by
          show OwnsM _ _ _ _
          rw [alive_no HKL.out (by rw [HA.out]; rfl), ← HMS.out]; exact HW.out.2.2.2.2
        go_wp2_with fail
        go_roundw
        case rel => exact ⟨k + 1, by omega, by go_num, HW.out.2.1, HN⟩
        case measure => simp [intOf]; omega
      obtain ⟨x0, x1⟩ := HW.out.2.2.1
      dsimp only at x0 x1
      go_wp2_with fail
      refine (HI.out _).mono ?_
      rintro e w2 ⟨rfl, hb2⟩
      have H3 : Hid (AlRel W0 b (off + k * 2) s u w.heap.size x y z u9 ms w2) := HW.out.next hb2
      clear hb2 HW x0 x1
      cases q
      · have HN : Hid (OwnsM w2 W0.heap.size u9 (aliveL (l.take (k + 1)) lo hi x y z)) := by
          show OwnsM _ _ _ _
          rw [alive_no HKL.out (by rw [HA.out]; rfl), ← HMS.out]; exact H3.out.2.2.2.2
        go_wp2_with fail
        go_roundw
        case rel => exact ⟨k + 1, by omega, by go_num, H3.out.2.1, HN⟩
        case measure => simp [intOf]; omega
      · obtain ⟨x0, x1⟩ := H3.out.2.2.1
        dsimp only at x0 x1
        have hown : w2.ownsRow W0.heap.size 62 2 u9 ms.length (itmsC ms) := H3.out.2.2.2.2
        have hbel := H3.out.2.1
        have hsz := hbel.size
        have hln := HLEN.out
        go_wp2_with (at_builtin; refine wpList_append_own _ rfl _ _ 42 rfl W0.heap.size 62 i0 _ 2 32 Tryd.underlying42 hii hz0 hz1 hz2 rfl (by decide) _ _ _ rfl (hown.alloc _) ⟨w2.heap.size, 0, none⟩ 1 1 (itmC (s, t)) rfl rfl (itm_new w2 (s, t)) (itmC_one _) (by unfold maxLen; omega) (by omega) (by simp; omega) ?_; intro v' w3 hown1 hgrow1 _)
        have hb1 := (hbel.alloc (by omega) _).grown hgrow1 (by simp; omega) (fun k hk => (hown.lt k hk).1)
        rw [itmsC_snoc] at hown1
        have HN : Hid (OwnsM w3 W0.heap.size v' (aliveL (l.take (k + 1)) lo hi x y z)) := by
          show OwnsM _ _ _ _
          rw [alive_yes HKL.out (by rw [HA.out]; rfl), ← HMS.out, HKV.out.1, HKV.out.2]
          unfold OwnsM
          rw [List.length_append, List.length_singleton]
          exact hown1
        exact ⟨⟨k + 1, by omega, by go_num, hb1, HN⟩, by simp [intOf]; omega⟩
    · obtain rfl : k = n := by omega
      have HN : Hid (OwnsM wr w.heap.size u9 (aliveL l lo hi x y z)) := by
        have := hown.out
        rw [List.take_of_length_le (by rw [HL.out]; exact Nat.le_refl _)] at this
        exact this.mono hsz0
      have HBB : Hid (Below w.heap.size w wr) := H0.out.trans (hbel.out.mono hsz0)
      go_wp2_with fail
      go_ret
      exact ⟨u9, rfl, HN.out, HBB.out⟩

end Go.Proofs.YtkmmifonandkoaaDoor
