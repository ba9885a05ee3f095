/-
  What holds in a round of ClockRises.
-/
import Derived.Test.YtffmannejfmcgaaClAwake
import Derived.Test.YtffmannejfmcgaaClHear
import Derived.Test.YtffmannejfmcgaaClTicks
import Derived.Test.YtffmannejfmcgaaSmLater
import Derived.Test.YtffmannejfmcgaaSmCalmTail
import Derived.Deep.DeepCutAuto
set_option linter.unusedVariables false
namespace Go.Proofs.Ytffmannejfmcgaa
open Go.RowKit

/-- The clock and the greatest stamp, in memory. -/
def RR (w : World) (g : Nat) (n p q x y z : Int) (W : World) : Prop := Below w.heap.size w W ∧ w.heap.size ≤ g ∧ CBox W g p q n ∧ Box W (g + 1) x y z
theorem RR.next {w W W' : World} {g : Nat} {n p q x y z : Int} (H : RR w g n p q x y z W) (hb : Below W.heap.size W W') : RR w g n p q x y z W' :=
  ⟨H.1.trans (hb.mono H.1.size), H.2.1, H.2.2.1.over hb, H.2.2.2.over hb⟩
theorem RR.alloc {w W : World} {g : Nat} {n p q x y z : Int} (H : RR w g n p q x y z W) (o : Obj) : RR w g n p q x y z (W.alloc o) := H.next ((Below.refl _ _).alloc (Nat.le_refl _) o)
theorem RR.drew {w W : World} {g : Nat} {n p q x y z : Int} (H : RR w g n p q x y z W) : RR w g n p q x y z W.drew := ⟨H.1.drew, H.2⟩
/-- The clock is right, and its moment is not before the greatest stamp's. -/
def Tops (n p q x y : Int) : Prop := rightB p q n = true ∧ ¬ (p < x ∨ (p = x ∧ q < y))
theorem Tops.now {n p q x y t x' y' z' : Int} (z : Int) (H : Tops n p q x y) (h : nowV p q n t = (x', y', z', 0)) : rightB x' y' n = true ∧ z' = n ∧ cmpI x' y' n x y z = 1 ∧ Tops n x' y' x' y' := by
  rcases now_cases h with ⟨he, _⟩ | ⟨_, h1, h2, rfl, h3⟩
  · omega
  refine ⟨h2, rfl, ?_, h2, by omega⟩
  obtain ⟨_, h4⟩ := H
  rcases cmp_cases x' y' z' x y z with ⟨k1, _, _⟩ | ⟨_, _, k3⟩ | ⟨_, _, _, e1, e2, _⟩
  · exfalso
    unfold befB at k1
    revert k1
    (repeat' split) <;> simp <;> omega
  · exact k3
  · omega
theorem Tops.hear {n p q x y t a b c p' q' r' : Int} (H : Tops n p q x y) (h : hearV p q n t a b c = (p', q', r', 0)) : r' = n ∧ Tops n p' q' x y ∧ Tops n p' q' a b := by
  rcases hear_cases h with ⟨he, _⟩ | ⟨_, h1, h2, h3, h4, h5⟩
  · omega
  obtain ⟨g1, rfl, g2, g3, g4⟩ := raise_right h1 h3 h5
  obtain ⟨_, h6⟩ := H
  exact ⟨rfl, ⟨g1, by omega⟩, ⟨g1, by omega⟩⟩

/-- What a drawn statement of the round reads: the clock's cells, the tick's; and what holds around them. -/
def SR (w : World) (g : Nat) (n p q x y z : Int) (b E : Nat) (t0 t2 t3 t4 : Int) (W : World) : Prop :=
  W.cell? ⟨g, 0, none⟩ = some (.int .i64 p) ∧ W.cell? ⟨g, 1, none⟩ = some (.int .i64 q) ∧ W.cell? ⟨g, 2, none⟩ = some (.int .i64 n) ∧
  W.cell? ⟨b, E, none⟩ = some (.int .i64 t0) ∧ W.cell? ⟨b, E + 2, none⟩ = some (.int .i64 t2) ∧ W.cell? ⟨b, E + 3, none⟩ = some (.int .i64 t3) ∧ W.cell? ⟨b, E + 4, none⟩ = some (.int .i64 t4) ∧
  (b < w.heap.size ∧ RR w g n p q x y z W)
theorem SR.of {w W : World} {g : Nat} {n p q x y z : Int} {b E : Nat} {t0 t2 t3 t4 : Int} {th : Bool} (hb : b < w.heap.size) (hr : RR w g n p q x y z W) (ht : TickAt W b E (t0, th, t2, t3, t4)) : SR w g n p q x y z b E t0 t2 t3 t4 W := by
  obtain ⟨x1, x2, x3⟩ := hr.2.2.1.cell
  obtain ⟨h0, _, h2, h3, h4⟩ := ht
  exact ⟨x1, x2, x3, h0, h2, h3, h4, hb, hr⟩
theorem SR.rr {w W : World} {g : Nat} {n p q x y z : Int} {b E : Nat} {t0 t2 t3 t4 : Int} (H : SR w g n p q x y z b E t0 t2 t3 t4 W) : RR w g n p q x y z W := H.2.2.2.2.2.2.2.2
theorem SR.size {w W : World} {g : Nat} {n p q x y z : Int} {b E : Nat} {t0 t2 t3 t4 : Int} (H : SR w g n p q x y z b E t0 t2 t3 t4 W) : g + 2 ≤ W.heap.size := by
  have := H.rr.2.2.2.lt
  omega
theorem SR.next {w W W' : World} {g : Nat} {n p q x y z : Int} {b E : Nat} {t0 t2 t3 t4 : Int} (H : SR w g n p q x y z b E t0 t2 t3 t4 W) (hb : Below W.heap.size W W') : SR w g n p q x y z b E t0 t2 t3 t4 W' := by
  obtain ⟨_, _, _, h0, h2, h3, h4, hbl, hr⟩ := H
  have hs := hr.1.size
  have hr' := hr.next hb
  obtain ⟨x1, x2, x3⟩ := hr'.2.2.1.cell
  refine ⟨x1, x2, x3, ?_, ?_, ?_, ?_, hbl, hr'⟩
  all_goals
    rw [cell_below hb (by omega)]
    assumption
theorem SR.alloc {w W : World} {g : Nat} {n p q x y z : Int} {b E : Nat} {t0 t2 t3 t4 : Int} (H : SR w g n p q x y z b E t0 t2 t3 t4 W) (o : Obj) : SR w g n p q x y z b E t0 t2 t3 t4 (W.alloc o) := H.next ((Below.refl _ _).alloc (Nat.le_refl _) o)
theorem SR.drew {w W : World} {g : Nat} {n p q x y z : Int} {b E : Nat} {t0 t2 t3 t4 : Int} (H : SR w g n p q x y z b E t0 t2 t3 t4 W) : SR w g n p q x y z b E t0 t2 t3 t4 W.drew := H.next ((Below.refl _ _).drew)
theorem SR.set {w W : World} {g : Nat} {n p q x y z : Int} {b E : Nat} {t0 t2 t3 t4 : Int} {h : Nat} (H : SR w g n p q x y z b E t0 t2 t3 t4 W) (hg : g + 2 ≤ h) (a : Addr) (ha : a.block = h) (v : Value) : SR w g n p q x y z b E t0 t2 t3 t4 (W.setCell a v) := by
  obtain ⟨_, _, _, h0, h2, h3, h4, hbl, hr⟩ := H
  have hr' : RR w g n p q x y z (W.setCell a v) := ⟨hr.1.setCell (by have := hr.2.1; omega) v, hr.2.1, hr.2.2.1.off _ _ (by omega), hr.2.2.2.off _ _ (by omega)⟩
  obtain ⟨x1, x2, x3⟩ := hr'.2.2.1.cell
  have hgs := hr.2.1
  refine ⟨x1, x2, x3, ?_, ?_, ?_, ?_, hbl, hr'⟩
  all_goals
    rw [World.cell?_setCell_other _ _ _ _ (by intro e; subst e; simp only at ha; omega)]
    assumption
theorem SR.use {w W w1 : World} (g : Nat) (n p q x y z : Int) (b E : Nat) (t0 t2 t3 t4 : Int) {G : Prop} (hb : Below W.heap.size W w1) (hs : SR w g n p q x y z b E t0 t2 t3 t4 W) (k : SR w g n p q x y z b E t0 t2 t3 t4 w1 → G) : G := k (hs.next hb)
/-- A clock's block that was laid ahead of a call: empty still behind it. -/
def ZC (g : Nat) (W : World) (h : Nat) : Prop := g + 2 ≤ h ∧ CBox W h 0 0 0
theorem ZC.over {g : Nat} {W w1 : World} {h : Nat} (H : ZC g W h) (hb : Below W.heap.size W w1) : ZC g w1 h := ⟨H.1, H.2.over hb⟩
theorem ZC.new {w W w1 : World} (g : Nat) (n p q x y z : Int) (b E : Nat) (t0 t2 t3 t4 : Int) {G : Prop} (hb : Below ((W.alloc (.cells #[.int .i64 0, .int .i64 0, .int .i64 0] 25))).heap.size (W.alloc (.cells #[.int .i64 0, .int .i64 0, .int .i64 0] 25)) w1) (hs : SR w g n p q x y z b E t0 t2 t3 t4 W) (k : ZC g w1 W.heap.size → G) : G :=
  k ⟨hs.size, (CBox.new W 0 0 0).over hb⟩
theorem ZC.newD {w W w1 : World} (g : Nat) (n p q x y z : Int) (b E : Nat) (t0 t2 t3 t4 : Int) {G : Prop} (hb : Below (((W.alloc (.cells #[.int .i64 0, .int .i64 0, .int .i64 0] 25))).drew).heap.size (((W.alloc (.cells #[.int .i64 0, .int .i64 0, .int .i64 0] 25))).drew) w1) (hs : SR w g n p q x y z b E t0 t2 t3 t4 W.drew) (k : ZC g w1 W.heap.size → G) : G :=
  k ⟨hs.size, (CBox.new W 0 0 0).drew.over hb⟩
theorem ZC.facts {g : Nat} {W : World} {h : Nat} (H : ZC g W h) : W.cell? ⟨h, 0, none⟩ = some (.int .i64 0) ∧ W.cell? ⟨h, 1, none⟩ = some (.int .i64 0) ∧ W.cell? ⟨h, 2, none⟩ = some (.int .i64 0) ∧ (∀ i, W.frozen? ⟨h, i, none⟩ = false) := by
  obtain ⟨_, H⟩ := H
  obtain ⟨x1, x2, x3⟩ := H.cell
  exact ⟨x1, x2, x3, H.frozen⟩
theorem ZC.put {g : Nat} {W : World} {h : Nat} (H : ZC g W h) (x y z : Int) : CBox (((W.setCell ⟨h, 0, none⟩ (.int .i64 x)).setCell ⟨h, 1, none⟩ (.int .i64 y)).setCell ⟨h, 2, none⟩ (.int .i64 z)) h x y z := ((H.2.set0 x).set1 y).set2 z

/-- Later of two stamps: one of them. -/
theorem Later_one (x y z a b c : Int) : ∃ l1 l2 l3, ((l1 = x ∧ l2 = y ∧ l3 = z) ∨ (l1 = a ∧ l2 = b ∧ l3 = c)) ∧ ∀ W, Calls Try.prog 19 #[(Go.Value.agg #[Go.Value.int Go.IntKind.i64 x, Go.Value.int Go.IntKind.i64 y, Go.Value.int Go.IntKind.i64 z]), (Go.Value.agg #[Go.Value.int Go.IntKind.i64 a, Go.Value.int Go.IntKind.i64 b, Go.Value.int Go.IntKind.i64 c])] W fun e w' => e = .returned (Go.Value.agg #[Go.Value.int Go.IntKind.i64 l1, Go.Value.int Go.IntKind.i64 l2, Go.Value.int Go.IntKind.i64 l3]) ∧ Below W.heap.size W w' := by
  by_cases h : 0 < cmpI x y z a b c
  · exact ⟨x, y, z, .inl ⟨rfl, rfl, rfl⟩, fun W => Later_fst _ _ _ _ _ _ W h⟩
  · exact ⟨a, b, c, .inr ⟨rfl, rfl, rfl⟩, fun W => Later_snd _ _ _ _ _ _ W h⟩
/-- Behind a stamp that was heard. -/
def SD (w : World) (g : Nat) (n p q x y z : Int) (b E : Nat) (t0 t2 t3 t4 : Int) (h : Nat) (p' q' r' : Int) (W : World) : Prop := g + 2 ≤ h ∧ SR w g n p q x y z b E t0 t2 t3 t4 W ∧ CBox W h p' q' r'
theorem SD.next {w W W' : World} {g : Nat} {n p q x y z : Int} {b E : Nat} {t0 t2 t3 t4 : Int} {h : Nat} {p' q' r' : Int} (H : SD w g n p q x y z b E t0 t2 t3 t4 h p' q' r' W) (hb : Below W.heap.size W W') : SD w g n p q x y z b E t0 t2 t3 t4 h p' q' r' W' := ⟨H.1, H.2.1.next hb, H.2.2.over hb⟩
theorem SD.drew {w W : World} {g : Nat} {n p q x y z : Int} {b E : Nat} {t0 t2 t3 t4 : Int} {h : Nat} {p' q' r' : Int} (H : SD w g n p q x y z b E t0 t2 t3 t4 h p' q' r' W) : SD w g n p q x y z b E t0 t2 t3 t4 h p' q' r' W.drew := ⟨H.1, H.2.1.drew, H.2.2.drew⟩
theorem SD.put {w W : World} {g : Nat} {n p q x y z : Int} {b E : Nat} {t0 t2 t3 t4 : Int} {h : Nat} {p' q' r' : Int} (H : SD w g n p q x y z b E t0 t2 t3 t4 h p' q' r' W) (l1 l2 l3 : Int) :
    RR w g r' p' q' l1 l2 l3 ((W.setRow g #[.int .i64 p', .int .i64 q', .int .i64 r']).setRow (g + 1) #[.int .i64 l1, .int .i64 l2, .int .i64 l3]) := by
  obtain ⟨_, hs, _⟩ := H
  obtain ⟨h1, h2, h3, h4⟩ := hs.rr
  exact ⟨below_setRow (below_setRow h1 h2 _) (by omega) _, h2, (h3.set p' q' r').other _ (by omega), (h4.other _ (by omega)).set l1 l2 l3⟩

/-- A stamp's block that was laid ahead of a call. -/
def ZS (g : Nat) (W : World) (h : Nat) : Prop := g + 2 ≤ h ∧ Box W h 0 0 0
theorem ZS.facts {g : Nat} {W : World} {h : Nat} (H : ZS g W h) : W.cell? ⟨h, 0, none⟩ = some (.int .i64 0) ∧ W.cell? ⟨h, 1, none⟩ = some (.int .i64 0) ∧ W.cell? ⟨h, 2, none⟩ = some (.int .i64 0) ∧ (∀ i, W.frozen? ⟨h, i, none⟩ = false) := by
  obtain ⟨_, H⟩ := H
  obtain ⟨x1, x2, x3⟩ := H.cell
  exact ⟨x1, x2, x3, H.frozen⟩
theorem ZS.put {g : Nat} {W : World} {h : Nat} (H : ZS g W h) (x y z : Int) : Box (((W.setCell ⟨h, 0, none⟩ (.int .i64 x)).setCell ⟨h, 1, none⟩ (.int .i64 y)).setCell ⟨h, 2, none⟩ (.int .i64 z)) h x y z := ((H.2.set0 x).set1 y).set2 z
/-- Which blocks were laid ahead of the call: none, the clock's, the stamp's, both. -/
theorem laid_c {w W w1 : World} (g : Nat) (n p q x y z : Int) (b E : Nat) (t0 t2 t3 t4 : Int) {G : Prop} (hb : Below (((W.alloc (.cells #[.int .i64 0, .int .i64 0, .int .i64 0] 25))).drew).heap.size (((W.alloc (.cells #[.int .i64 0, .int .i64 0, .int .i64 0] 25))).drew) w1) (hs : SR w g n p q x y z b E t0 t2 t3 t4 W) (k : ZC g w1 W.heap.size → G) : G :=
  k ⟨hs.size, (CBox.new W 0 0 0).drew.over hb⟩
theorem laid_s {w W w1 : World} (g : Nat) (n p q x y z : Int) (b E : Nat) (t0 t2 t3 t4 : Int) {G : Prop} (hb : Below (((W.alloc (.cells #[.int .i64 0, .int .i64 0, .int .i64 0] 23))).drew).heap.size (((W.alloc (.cells #[.int .i64 0, .int .i64 0, .int .i64 0] 23))).drew) w1) (hs : SR w g n p q x y z b E t0 t2 t3 t4 W) (k : ZS g w1 W.heap.size → G) : G :=
  k ⟨hs.size, (Box.new W 0 0 0).drew.over hb⟩
theorem laid_cs {w W w1 : World} (g : Nat) (n p q x y z : Int) (b E : Nat) (t0 t2 t3 t4 : Int) {G : Prop} (hb : Below (((((W.alloc (.cells #[.int .i64 0, .int .i64 0, .int .i64 0] 25))).alloc (.cells #[.int .i64 0, .int .i64 0, .int .i64 0] 23))).drew).heap.size (((((W.alloc (.cells #[.int .i64 0, .int .i64 0, .int .i64 0] 25))).alloc (.cells #[.int .i64 0, .int .i64 0, .int .i64 0] 23))).drew) w1) (hs : SR w g n p q x y z b E t0 t2 t3 t4 W) (k : ZC g w1 W.heap.size → ZS g w1 (W.heap.size + 1) → G) : G := by
  have h := Box.new (W.alloc (.cells #[.int .i64 0, .int .i64 0, .int .i64 0] 25)) 0 0 0
  rw [size_alloc] at h
  exact k ⟨hs.size, ((CBox.new W 0 0 0).alloc _).drew.over hb⟩ ⟨by have := hs.size; omega, h.drew.over hb⟩
theorem laid_sc {w W w1 : World} (g : Nat) (n p q x y z : Int) (b E : Nat) (t0 t2 t3 t4 : Int) {G : Prop} (hb : Below (((((W.alloc (.cells #[.int .i64 0, .int .i64 0, .int .i64 0] 23))).alloc (.cells #[.int .i64 0, .int .i64 0, .int .i64 0] 25))).drew).heap.size (((((W.alloc (.cells #[.int .i64 0, .int .i64 0, .int .i64 0] 23))).alloc (.cells #[.int .i64 0, .int .i64 0, .int .i64 0] 25))).drew) w1) (hs : SR w g n p q x y z b E t0 t2 t3 t4 W) (k : ZC g w1 (W.heap.size + 1) → ZS g w1 W.heap.size → G) : G := by
  have h := CBox.new (W.alloc (.cells #[.int .i64 0, .int .i64 0, .int .i64 0] 23)) 0 0 0
  rw [size_alloc] at h
  exact k ⟨by have := hs.size; omega, h.drew.over hb⟩ ⟨hs.size, ((Box.new W 0 0 0).alloc _).drew.over hb⟩
/-- Behind a stamp that was given. -/
def SN (w : World) (g : Nat) (n p q x y z : Int) (h i : Nat) (p' q' r' : Int) (W : World) : Prop := g + 2 ≤ h ∧ g + 2 ≤ i ∧ RR w g n p q x y z W ∧ CBox W h p' q' r' ∧ Box W i p' q' r'
theorem SN.next {w W W' : World} {g : Nat} {n p q x y z : Int} {h i : Nat} {p' q' r' : Int} (H : SN w g n p q x y z h i p' q' r' W) (hb : Below W.heap.size W W') : SN w g n p q x y z h i p' q' r' W' := ⟨H.1, H.2.1, H.2.2.1.next hb, H.2.2.2.1.over hb, H.2.2.2.2.over hb⟩
/-- The cells of the two. -/
def C6 (h i : Nat) (a b c : Int) (W : World) : Prop := W.cell? ⟨h, 0, none⟩ = some (.int .i64 a) ∧ W.cell? ⟨h, 1, none⟩ = some (.int .i64 b) ∧ W.cell? ⟨h, 2, none⟩ = some (.int .i64 c) ∧ W.cell? ⟨i, 0, none⟩ = some (.int .i64 a) ∧ W.cell? ⟨i, 1, none⟩ = some (.int .i64 b) ∧ W.cell? ⟨i, 2, none⟩ = some (.int .i64 c)
theorem C6.drew {h i : Nat} {a b c : Int} {W : World} (H : C6 h i a b c W) : C6 h i a b c W.drew := H
theorem C6.set {h i : Nat} {a b c : Int} {W : World} (H : C6 h i a b c W) (g : Nat) (hh : g < h) (hi : g < i) (p : Addr) (hp : p.block = g) (v : Value) : C6 h i a b c (W.setCell p v) := by
  obtain ⟨h1, h2, h3, h4, h5, h6⟩ := H
  refine ⟨?_, ?_, ?_, ?_, ?_, ?_⟩
  all_goals
    rw [World.cell?_setCell_other _ _ _ _ (by intro e; subst e; simp only at hp; omega)]
    assumption
theorem SN.c6 {w W : World} {g : Nat} {n p q x y z : Int} {h i : Nat} {p' q' r' : Int} (H : SN w g n p q x y z h i p' q' r' W) : C6 h i p' q' r' W := by
  obtain ⟨x1, x2, x3⟩ := H.2.2.2.1.cell
  obtain ⟨y1, y2, y3⟩ := H.2.2.2.2.cell
  exact ⟨x1, x2, x3, y1, y2, y3⟩
theorem SN.put {w W : World} {g : Nat} {n p q x y z : Int} {h i : Nat} {p' q' r' : Int} (H : SN w g n p q x y z h i p' q' r' W) :
    RR w g r' p' q' p' q' r' ((((((W.setCell ⟨g, 0, none⟩ (.int .i64 p')).setCell ⟨g, 1, none⟩ (.int .i64 q')).setCell ⟨g, 2, none⟩ (.int .i64 r')).setCell ⟨g + 1, 0, none⟩ (.int .i64 p')).setCell ⟨g + 1, 1, none⟩ (.int .i64 q')).setCell ⟨g + 1, 2, none⟩ (.int .i64 r')).drew := by
  obtain ⟨_, _, ⟨h1, h2, h3, h4⟩, _, _⟩ := H
  refine ⟨?_, h2, ?_, ?_⟩
  · exact ((((((h1.setCell h2 _).setCell h2 _).setCell h2 _).setCell (by simp only; omega) _).setCell (by simp only; omega) _).setCell (by simp only; omega) _).drew
  · exact ((((((h3.set0 p').set1 q').set2 r').off _ _ (by simp)).off _ _ (by simp)).off _ _ (by simp)).drew
  · exact ((((((h4.off _ _ (by simp)).off _ _ (by simp)).off _ _ (by simp)).set0 p').set1 q').set2 r').drew

theorem setCell_size (W : World) (a : Addr) (v : Value) : (W.setCell a v).heap.size = W.heap.size := by simp [World.setCell]
theorem SR.set3 {w W : World} {g : Nat} {n p q x y z : Int} {b E : Nat} {t0 t2 t3 t4 : Int} {h : Nat} (hs : SR w g n p q x y z b E t0 t2 t3 t4 W) (hg : g + 2 ≤ h) (p' q' r' : Int) : SR w g n p q x y z b E t0 t2 t3 t4 (((W.setCell ⟨h, 0, none⟩ (.int .i64 p')).setCell ⟨h, 1, none⟩ (.int .i64 q')).setCell ⟨h, 2, none⟩ (.int .i64 r')) :=
  SR.set (SR.set (SR.set hs hg _ rfl _) hg _ rfl _) hg _ rfl _
/-- The six ways in which a stamp that was given may have come to lie. -/
theorem SN.e1 {w W : World} {g : Nat} {n p q x y z : Int} {b E : Nat} {t0 t2 t3 t4 : Int} (hs : SR w g n p q x y z b E t0 t2 t3 t4 W) (p' q' r' : Int) : SN w g n p q x y z W.heap.size (W.heap.size + 1) p' q' r' (((W.alloc (.cells #[.int .i64 p', .int .i64 q', .int .i64 r'] 25))).alloc (.cells #[.int .i64 p', .int .i64 q', .int .i64 r'] 23)) := by
  have h := Box.new (W.alloc (.cells #[.int .i64 p', .int .i64 q', .int .i64 r'] 25)) p' q' r'
  rw [size_alloc] at h
  have h2 := hs.size
  exact ⟨h2, by omega, ((hs.alloc _).alloc _).rr, (CBox.new W p' q' r').alloc _, h⟩
theorem SN.e2 {w W : World} {g : Nat} {n p q x y z : Int} {b E : Nat} {t0 t2 t3 t4 : Int} (hs : SR w g n p q x y z b E t0 t2 t3 t4 W) (p' q' r' : Int) : SN w g n p q x y z (W.heap.size + 1) W.heap.size p' q' r' (((W.alloc (.cells #[.int .i64 p', .int .i64 q', .int .i64 r'] 23))).alloc (.cells #[.int .i64 p', .int .i64 q', .int .i64 r'] 25)) := by
  have h := CBox.new (W.alloc (.cells #[.int .i64 p', .int .i64 q', .int .i64 r'] 23)) p' q' r'
  rw [size_alloc] at h
  have h2 := hs.size
  exact ⟨by omega, h2, ((hs.alloc _).alloc _).rr, h, (Box.new W p' q' r').alloc _⟩
theorem SN.e3 {w W : World} {g : Nat} {n p q x y z : Int} {b E : Nat} {t0 t2 t3 t4 : Int} (hs : SR w g n p q x y z b E t0 t2 t3 t4 W) {h : Nat} (hz : ZC g W h) (p' q' r' : Int) : SN w g n p q x y z h W.heap.size p' q' r' (((((W.setCell ⟨h, 0, none⟩ (.int .i64 p')).setCell ⟨h, 1, none⟩ (.int .i64 q')).setCell ⟨h, 2, none⟩ (.int .i64 r'))).alloc (.cells #[.int .i64 p', .int .i64 q', .int .i64 r'] 23)) := by
  have h1 := Box.new (((W.setCell ⟨h, 0, none⟩ (.int .i64 p')).setCell ⟨h, 1, none⟩ (.int .i64 q')).setCell ⟨h, 2, none⟩ (.int .i64 r')) p' q' r'
  rw [setCell_size, setCell_size, setCell_size] at h1
  exact ⟨hz.1, hs.size, ((hs.set3 hz.1 p' q' r').alloc _).rr, (hz.put p' q' r').alloc _, h1⟩
theorem SN.e4 {w W : World} {g : Nat} {n p q x y z : Int} {b E : Nat} {t0 t2 t3 t4 : Int} (hs : SR w g n p q x y z b E t0 t2 t3 t4 W) {h i : Nat} (hz : ZC g W h) (hy : ZS g W i) (hne : ¬ h = i) (p' q' r' : Int) : SN w g n p q x y z h i p' q' r' ((((((W.setCell ⟨h, 0, none⟩ (.int .i64 p')).setCell ⟨h, 1, none⟩ (.int .i64 q')).setCell ⟨h, 2, none⟩ (.int .i64 r')).setCell ⟨i, 0, none⟩ (.int .i64 p')).setCell ⟨i, 1, none⟩ (.int .i64 q')).setCell ⟨i, 2, none⟩ (.int .i64 r')) :=
  ⟨hz.1, hy.1, ((hs.set3 hz.1 p' q' r').set3 hy.1 p' q' r').rr, (((hz.put p' q' r').off _ _ hne).off _ _ hne).off _ _ hne,
    (((((hy.2.off _ _ (fun e => hne e.symm)).off _ _ (fun e => hne e.symm)).off _ _ (fun e => hne e.symm)).set0 p').set1 q').set2 r'⟩
theorem SN.e5 {w W : World} {g : Nat} {n p q x y z : Int} {b E : Nat} {t0 t2 t3 t4 : Int} (hs : SR w g n p q x y z b E t0 t2 t3 t4 W) {i : Nat} (hy : ZS g W i) (p' q' r' : Int) : SN w g n p q x y z W.heap.size i p' q' r' (((((W.setCell ⟨i, 0, none⟩ (.int .i64 p')).setCell ⟨i, 1, none⟩ (.int .i64 q')).setCell ⟨i, 2, none⟩ (.int .i64 r'))).alloc (.cells #[.int .i64 p', .int .i64 q', .int .i64 r'] 25)) := by
  have h1 := CBox.new (((W.setCell ⟨i, 0, none⟩ (.int .i64 p')).setCell ⟨i, 1, none⟩ (.int .i64 q')).setCell ⟨i, 2, none⟩ (.int .i64 r')) p' q' r'
  rw [setCell_size, setCell_size, setCell_size] at h1
  exact ⟨hs.size, hy.1, ((hs.set3 hy.1 p' q' r').alloc _).rr, h1, (hy.put p' q' r').alloc _⟩

end Go.Proofs.Ytffmannejfmcgaa
