/-
  Three stamps in memory; equality of stamps.
-/
import Derived.Test.YtccieoofjopbkaaDoorStAwake
namespace Go.Proofs.YtccieoofjopbkaaDoor
open Go.RowKit

/-- Three stamps in memory. -/
def Three (w : World) (a1 a2 a3 b1 b2 b3 c1 c2 c3 : Int) (W : World) : Prop := Below w.heap.size w W ∧ Box W w.heap.size a1 a2 a3 ∧ Box W (w.heap.size + 1) b1 b2 b3 ∧ Box W (w.heap.size + 1 + 1) c1 c2 c3
theorem Three.next {w W W' : World} {a1 a2 a3 b1 b2 b3 c1 c2 c3 : Int} (H : Three w a1 a2 a3 b1 b2 b3 c1 c2 c3 W) (hb : Below W.heap.size W W') : Three w a1 a2 a3 b1 b2 b3 c1 c2 c3 W' :=
  ⟨H.1.trans (hb.mono H.1.size), H.2.1.over hb, H.2.2.1.over hb, H.2.2.2.over hb⟩
theorem Three.alloc {w W : World} {a1 a2 a3 b1 b2 b3 c1 c2 c3 : Int} (H : Three w a1 a2 a3 b1 b2 b3 c1 c2 c3 W) (o : Obj) : Three w a1 a2 a3 b1 b2 b3 c1 c2 c3 (W.alloc o) := H.next ((Below.refl _ _).alloc (Nat.le_refl _) o)
theorem Three.drew {w W : World} {a1 a2 a3 b1 b2 b3 c1 c2 c3 : Int} (H : Three w a1 a2 a3 b1 b2 b3 c1 c2 c3 W) : Three w a1 a2 a3 b1 b2 b3 c1 c2 c3 W.drew := ⟨H.1.drew, H.2⟩
theorem Three.new (w : World) (a1 a2 a3 b1 b2 b3 c1 c2 c3 : Int) : Three w a1 a2 a3 b1 b2 b3 c1 c2 c3 (((w.alloc (.cells #[.int .i64 a1, .int .i64 a2, .int .i64 a3] 23)).alloc (.cells #[.int .i64 b1, .int .i64 b2, .int .i64 b3] 23)).alloc (.cells #[.int .i64 c1, .int .i64 c2, .int .i64 c3] 23)) := by
  refine ⟨(((Below.refl w.heap.size w).alloc (Nat.le_refl _) _).alloc (by simp) _).alloc (by simp; omega) _, ((Box.new w a1 a2 a3).alloc _).alloc _, ?_, ?_⟩
  · have := (Box.new (w.alloc (.cells #[.int .i64 a1, .int .i64 a2, .int .i64 a3] 23)) b1 b2 b3).alloc (.cells #[.int .i64 c1, .int .i64 c2, .int .i64 c3] 23)
    simpa using this
  · have := Box.new ((w.alloc (.cells #[.int .i64 a1, .int .i64 a2, .int .i64 a3] 23)).alloc (.cells #[.int .i64 b1, .int .i64 b2, .int .i64 b3] 23)) c1 c2 c3
    simpa using this

/-- Their cells, and they. -/
def S9 (w : World) (a1 a2 a3 b1 b2 b3 c1 c2 c3 : Int) (W : World) : Prop := W.cell? ⟨w.heap.size, 0, none⟩ = some (.int .i64 a1) ∧ W.cell? ⟨w.heap.size, 1, none⟩ = some (.int .i64 a2) ∧ W.cell? ⟨w.heap.size, 2, none⟩ = some (.int .i64 a3) ∧ W.cell? ⟨(w.heap.size + 1), 0, none⟩ = some (.int .i64 b1) ∧ W.cell? ⟨(w.heap.size + 1), 1, none⟩ = some (.int .i64 b2) ∧ W.cell? ⟨(w.heap.size + 1), 2, none⟩ = some (.int .i64 b3) ∧ W.cell? ⟨(w.heap.size + 1 + 1), 0, none⟩ = some (.int .i64 c1) ∧ W.cell? ⟨(w.heap.size + 1 + 1), 1, none⟩ = some (.int .i64 c2) ∧ W.cell? ⟨(w.heap.size + 1 + 1), 2, none⟩ = some (.int .i64 c3) ∧ Three w a1 a2 a3 b1 b2 b3 c1 c2 c3 W
theorem S9.of {w W : World} {a1 a2 a3 b1 b2 b3 c1 c2 c3 : Int} (H : Three w a1 a2 a3 b1 b2 b3 c1 c2 c3 W) : S9 w a1 a2 a3 b1 b2 b3 c1 c2 c3 W := by
  obtain ⟨x1, x2, x3⟩ := H.2.1.cell
  obtain ⟨y1, y2, y3⟩ := H.2.2.1.cell
  obtain ⟨z1, z2, z3⟩ := H.2.2.2.cell
  exact ⟨x1, x2, x3, y1, y2, y3, z1, z2, z3, H⟩
theorem S9.three {w W : World} {a1 a2 a3 b1 b2 b3 c1 c2 c3 : Int} (H : S9 w a1 a2 a3 b1 b2 b3 c1 c2 c3 W) : Three w a1 a2 a3 b1 b2 b3 c1 c2 c3 W := H.2.2.2.2.2.2.2.2.2
theorem S9.next {w W W' : World} {a1 a2 a3 b1 b2 b3 c1 c2 c3 : Int} (H : S9 w a1 a2 a3 b1 b2 b3 c1 c2 c3 W) (hb : Below W.heap.size W W') : S9 w a1 a2 a3 b1 b2 b3 c1 c2 c3 W' := .of (H.three.next hb)
theorem S9.alloc {w W : World} {a1 a2 a3 b1 b2 b3 c1 c2 c3 : Int} (H : S9 w a1 a2 a3 b1 b2 b3 c1 c2 c3 W) (o : Obj) : S9 w a1 a2 a3 b1 b2 b3 c1 c2 c3 (W.alloc o) := .of (H.three.alloc o)
theorem S9.drew {w W : World} {a1 a2 a3 b1 b2 b3 c1 c2 c3 : Int} (H : S9 w a1 a2 a3 b1 b2 b3 c1 c2 c3 W) : S9 w a1 a2 a3 b1 b2 b3 c1 c2 c3 W.drew := .of H.three.drew

/-- A block that was laid ahead of a call stays empty over it. -/
def Zero (w W : World) (g : Nat) : Prop := w.heap.size + 3 ≤ g ∧ Box W g 0 0 0
theorem S9.size {w W : World} {a1 a2 a3 b1 b2 b3 c1 c2 c3 : Int} (H : S9 w a1 a2 a3 b1 b2 b3 c1 c2 c3 W) : w.heap.size + 3 ≤ W.heap.size := by
  have := H.three.2.2.2.lt
  omega
theorem Zero.use {w W w1 : World} (a1 a2 a3 b1 b2 b3 c1 c2 c3 : Int) {G : Prop} (hb : Below (W.alloc (.cells #[.int .i64 0, .int .i64 0, .int .i64 0] 23)).heap.size (W.alloc (.cells #[.int .i64 0, .int .i64 0, .int .i64 0] 23)) w1)
    (hs : S9 w a1 a2 a3 b1 b2 b3 c1 c2 c3 W) (k : Zero w w1 W.heap.size → G) : G := k ⟨hs.size, (Box.new W 0 0 0).over hb⟩
theorem S9.use {w W w1 : World} (a1 a2 a3 b1 b2 b3 c1 c2 c3 : Int) {G : Prop} (hb : Below W.heap.size W w1) (hs : S9 w a1 a2 a3 b1 b2 b3 c1 c2 c3 W) (k : S9 w a1 a2 a3 b1 b2 b3 c1 c2 c3 w1 → G) : G := k (hs.next hb)
theorem Zero.useD {w W w1 : World} (a1 a2 a3 b1 b2 b3 c1 c2 c3 : Int) {G : Prop} (hb : Below ((W.alloc (.cells #[.int .i64 0, .int .i64 0, .int .i64 0] 23)).drew).heap.size ((W.alloc (.cells #[.int .i64 0, .int .i64 0, .int .i64 0] 23)).drew) w1)
    (hs : S9 w a1 a2 a3 b1 b2 b3 c1 c2 c3 W.drew) (k : Zero w w1 W.heap.size → G) : G := k ⟨hs.size, (Box.new W 0 0 0).drew.over hb⟩
theorem Zero.over {w W w1 : World} {g : Nat} (H : Zero w W g) (hb : Below W.heap.size W w1) : Zero w w1 g := ⟨H.1, H.2.over hb⟩
theorem Zero.facts {w W : World} {g : Nat} (H : Zero w W g) : W.cell? ⟨g, 0, none⟩ = some (.int .i64 0) ∧ W.cell? ⟨g, 1, none⟩ = some (.int .i64 0) ∧ W.cell? ⟨g, 2, none⟩ = some (.int .i64 0) ∧ (∀ i, W.frozen? ⟨g, i, none⟩ = false) := by
  obtain ⟨_, H⟩ := H
  obtain ⟨x1, x2, x3⟩ := Box.cell H
  refine ⟨x1, x2, x3, fun i => ?_⟩
  unfold Box at H
  simp [World.frozen?, H]
theorem block_put {w : World} {h : Nat} {cs : Array Value} {t : TypeId} {fr : Nat × Nat} (H : w.heap[h]? = some (.cells cs t fr)) (i : Nat) (v : Value) : (w.setCell ⟨h, i, none⟩ v).heap[h]? = some (.cells (cs.setIfInBounds i v) t fr) := by
  simp [World.setCell, Array.getElem?_modify, H]
theorem Zero.put {w W : World} {g : Nat} (H : Zero w W g) (x y z : Int) : Box (((W.setCell ⟨g, 0, none⟩ (.int .i64 x)).setCell ⟨g, 1, none⟩ (.int .i64 y)).setCell ⟨g, 2, none⟩ (.int .i64 z)) g x y z :=
  block_put (block_put (block_put H.2 0 _) 1 _) 2 _
theorem S9.set {w W : World} {a1 a2 a3 b1 b2 b3 c1 c2 c3 : Int} {g : Nat} (H : S9 w a1 a2 a3 b1 b2 b3 c1 c2 c3 W) (hg : w.heap.size + 3 ≤ g) (p : Addr) (hp : p.block = g) (v : Value) : S9 w a1 a2 a3 b1 b2 b3 c1 c2 c3 (W.setCell p v) := by
  obtain ⟨h1, h2, h3, h4⟩ := H.three
  refine .of ⟨h1.setCell (by omega) v, ?_, ?_, ?_⟩
  · exact (Below.heap_setCell W _ _ w.heap.size (by omega)).trans h2
  · exact (Below.heap_setCell W _ _ (w.heap.size + 1) (by omega)).trans h3
  · exact (Below.heap_setCell W _ _ (w.heap.size + 1 + 1) (by omega)).trans h4

/-- The later of two. -/
def LatIs (a1 a2 a3 b1 b2 b3 m1 m2 m3 : Int) : Prop := (befB b1 b2 b3 a1 a2 a3 = true ∧ m1 = a1 ∧ m2 = a2 ∧ m3 = a3) ∨ (befB b1 b2 b3 a1 a2 a3 = false ∧ m1 = b1 ∧ m2 = b2 ∧ m3 = b3)
theorem Later_is (a1 a2 a3 b1 b2 b3 m1 m2 m3 : Int) (W : World) (h : LatIs a1 a2 a3 b1 b2 b3 m1 m2 m3) : Calls Tryd.prog 11 #[(Go.Value.agg #[Go.Value.int Go.IntKind.i64 a1, Go.Value.int Go.IntKind.i64 a2, Go.Value.int Go.IntKind.i64 a3]), (Go.Value.agg #[Go.Value.int Go.IntKind.i64 b1, Go.Value.int Go.IntKind.i64 b2, Go.Value.int Go.IntKind.i64 b3])] W fun e w' => e = .returned (Go.Value.agg #[Go.Value.int Go.IntKind.i64 m1, Go.Value.int Go.IntKind.i64 m2, Go.Value.int Go.IntKind.i64 m3]) ∧ Below W.heap.size W w' := by
  have hc : befB b1 b2 b3 a1 a2 a3 = decide (0 < cmpI a1 a2 a3 b1 b2 b3) := by
    rcases cmp_cases a1 a2 a3 b1 b2 b3 with ⟨_, h2, h3⟩ | ⟨_, h2, h3⟩ | ⟨_, h2, h3, _⟩ <;> rw [h2, h3] <;> rfl
  rcases h with ⟨h1, rfl, rfl, rfl⟩ | ⟨h1, rfl, rfl, rfl⟩
  · exact Later_fst _ _ _ _ _ _ W (by rw [hc] at h1; simpa using h1)
  · exact Later_snd _ _ _ _ _ _ W (by rw [hc] at h1; simpa using h1)

/-- Are two stamps the same? -/
def sameB (a1 a2 a3 b1 b2 b3 : Int) : Bool := decide (a1 = b1 ∧ a2 = b2 ∧ a3 = b3)
theorem eq_stamp (a1 a2 a3 b1 b2 b3 : Int) (w : World) : (Op.equalIn 10000 23 (Go.Value.agg #[Go.Value.int Go.IntKind.i64 a1, Go.Value.int Go.IntKind.i64 a2, Go.Value.int Go.IntKind.i64 a3]) (Go.Value.agg #[Go.Value.int Go.IntKind.i64 b1, Go.Value.int Go.IntKind.i64 b2, Go.Value.int Go.IntKind.i64 b3])).run Tryd.prog w = .ok (sameB a1 a2 a3 b1 b2 b3) w := by
  unfold sameB
  by_cases h1 : a1 = b1 <;> by_cases h2 : a2 = b2 <;> by_cases h3 : a3 = b3 <;> go_simp

end Go.Proofs.YtccieoofjopbkaaDoor
