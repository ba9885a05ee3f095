/-
  What the walks ask of the library's variables: the table of powers of ten, the two errors of strconv, bytealg's number. It stays over what lies behind.
-/
import Derived.Test.YtccieoofjopbkaaDoorStBox
import Derived.Lib.LaidTab
import Derived.Lib.ItoaNum
namespace Go.Proofs.YtccieoofjopbkaaDoor
open Go.RowKit

theorem var?_below {B g : Nat} {W W' : World} {n : String} {cs : Array Value} (h : Below B W W') (hg : Tryd.prog.globalNamed n = some g) (hgB : g < B) (hv : W.var? Tryd.prog n = some cs) : W'.var? Tryd.prog n = some cs := by
  rw [← hv]
  unfold World.var?
  rw [hg]
  show (match W'.heap[g]? with | some (.cells cs _ _) => some cs | _ => none) = (match W.heap[g]? with | some (.cells cs _ _) => some cs | _ => none)
  rw [h.block g hgB]
theorem var?_lt {g : Nat} {W : World} {n : String} {cs : Array Value} (hg : Tryd.prog.globalNamed n = some g) (hv : W.var? Tryd.prog n = some cs) : g < W.heap.size := by
  unfold World.var? at hv
  rw [hg] at hv
  rcases Nat.lt_or_ge g W.heap.size with h | h
  · exact h
  · have e : W.heap[g]? = none := Array.getElem?_eq_none h
    simp [e] at hv
theorem var?_over {g : Nat} {W W' : World} {n : String} {cs : Array Value} (hg : Tryd.prog.globalNamed n = some g) (h : Below W.heap.size W W') (hv : W.var? Tryd.prog n = some cs) : W'.var? Tryd.prog n = some cs :=
  var?_below h hg (var?_lt hg hv) hv

theorem gPow : Tryd.prog.globalNamed "internal/strconv.uint64pow10" = some 0 := by kernel_rfl
theorem gES : Tryd.prog.globalNamed "strconv.ErrSyntax" = some 1 := by kernel_rfl
theorem gER : Tryd.prog.globalNamed "strconv.ErrRange" = some 2 := by kernel_rfl

def StTab (W : World) : Prop :=
  Lib.TabIs Tryd.prog W "internal/strconv.uint64pow10" .u64 Lib.pow10Tab ∧ (∃ tp p, W.var? Tryd.prog "strconv.ErrSyntax" = some #[.iface tp p]) ∧ (∃ tp p, W.var? Tryd.prog "strconv.ErrRange" = some #[.iface tp p]) ∧
    (∃ m, W.cell? ⟨3, 0, none⟩ = some (.int .i64 m))
theorem StTab.next {W W' : World} (h : StTab W) (hb : Below W.heap.size W W') : StTab W' := by
  obtain ⟨h1, ⟨t2, p2, h2⟩, ⟨t3, p3, h3⟩, m, h4⟩ := h
  refine ⟨var?_over gPow hb h1, ⟨t2, p2, var?_over gES hb h2⟩, ⟨t3, p3, var?_over gER hb h3⟩, m, ?_⟩
  have hlt : 3 < W.heap.size := by
    rcases Nat.lt_or_ge 3 W.heap.size with h | h
    · exact h
    · have e : W.heap[3]? = none := Array.getElem?_eq_none h
      simp [World.cell?, e] at h4
  exact (hb.cell (p := ⟨3, 0, none⟩) hlt).trans h4
theorem StTab.alloc {W : World} (h : StTab W) (o : Obj) : StTab (W.alloc o) := h.next ((Below.refl _ _).alloc (Nat.le_refl _) o)
theorem StTab.drew {W : World} (h : StTab W) : StTab W.drew := h

end Go.Proofs.YtccieoofjopbkaaDoor
