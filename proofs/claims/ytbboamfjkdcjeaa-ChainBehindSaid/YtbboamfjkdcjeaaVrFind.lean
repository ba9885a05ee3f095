/-
  The contracts of chain.upTo, of its closure, and of the library's search as upTo calls it.
-/
import Derived.Test.YtbboamfjkdcjeaaSmCompare
import Derived.Test.YtbboamfjkdcjeaaSmCalm
import Derived.Test.YtbboamfjkdcjeaaVrBox
import Derived.Deep.DeepCutAuto
set_option linter.unusedVariables false
namespace Go.Proofs.Ytbboamfjkdcjeaa
open Go.RowKit

/-- The two captured boxes, a version of the row. -/
def FnRel (w : World) (ba bx b off n cap o : Nat) (x y z : Int) (v : Ver) (W : World) : Prop :=
  Below w.heap.size w W ∧ W.cell? ⟨ba, 0, none⟩ = some (.slice (some ⟨b, off, none⟩) n cap) ∧ Box W bx x y z ∧ VerAt W b o v
theorem FnRel.next {w W W' : World} {ba bx b off n cap o : Nat} {x y z : Int} {v : Ver} (hba : ba < w.heap.size) (hb0 : b < w.heap.size) (H : FnRel w ba bx b off n cap o x y z v W) (hb : Below W.heap.size W W') : FnRel w ba bx b off n cap o x y z v W' := by
  obtain ⟨h1, h2, h3, h4⟩ := H
  have := h1.size
  exact ⟨h1.trans (hb.mono h1.size), (hb.cell (p := ⟨ba, 0, none⟩) (by show ba < _; omega)).trans h2, h3.over hb, h4.next hb (by omega)⟩

set_option maxRecDepth 100000 in
set_option maxHeartbeats 1000000 in
theorem found_any (w : World) (ba bx b off n cap k : Nat) (x y z : Int) (v : Ver) (hk : k < n) (hn : n ≤ 9223372036854775807) (hba : ba < w.heap.size) (hb0 : b < w.heap.size)
    (hc : w.cell? ⟨ba, 0, none⟩ = some (.slice (some ⟨b, off, none⟩) n cap)) (hx : Box w bx x y z) (hv : VerAt w b (off + k * 5) v) :
    Calls Try.prog 35 #[.int .i64 k, .pointer (some ⟨ba, 0, none⟩), .pointer (some ⟨bx, 0, none⟩)] w fun e w' => e = .returned (.bool (befS x y z v)) ∧ Below w.heap.size w w' := by
  obtain ⟨a, t, c, g, s⟩ := v
  obtain ⟨q, hq⟩ : ∃ q, q = cmpI a t c x y z := ⟨_, rfl⟩
  have HC : Hid (∀ W, Calls Try.prog 22 #[(Go.Value.agg #[Go.Value.int Go.IntKind.i64 a, Go.Value.int Go.IntKind.i64 t, Go.Value.int Go.IntKind.i64 c]), (Go.Value.agg #[Go.Value.int Go.IntKind.i64 x, Go.Value.int Go.IntKind.i64 y, Go.Value.int Go.IntKind.i64 z])] W fun e w' => e = .returned (.int .i64 q) ∧ Below W.heap.size W w') := fun W => by rw [hq]; exact Compare_any _ _ _ _ _ _ W
  have HQ : Hid (befS x y z (a, t, c, g, s) = decide (0 < q)) := by
    show _ = _
    rcases cmp_cases a t c x y z with ⟨h1, h2, h3⟩ | ⟨h1, h2, h3⟩ | ⟨h1, h2, h3, _⟩ <;> simp [befS, hq, h2, h3]
  have H : Hid (FnRel w ba bx b off n cap (off + k * 5) x y z (a, t, c, g, s) w) := ⟨Below.refl _ _, hc, hx, hv⟩
  have HBA := Lib.hid hba
  have HB0 := Lib.hid hb0
  clear hq hc hx hv hba hb0
  go_enter Try.func35, Try.ntmps35
  go_upto_region 1 with (fail)
  refine wp_region_calm (FnRel w ba bx b off n cap (off + k * 5) x y z (a, t, c, g, s)) (by kernel_rfl) (by kernel_rfl) (H.out.next HBA.out HB0.out (Below.refl _ _).drew) ?_
  repeat ((with_reducible refine wpQuiet_step (fun K hK => ?_)); go_simp; first | (refine hK _ ?_; clear hK K) | (apply Exists.intro; refine ⟨fun wc hwc => ?_, hK _ ?_⟩; (focus (first | (first | (go_at_call 22; refine (HC.out _).mono ?_; rintro e w1 ⟨rfl, hb1⟩; exact ⟨rfl, hwc.next HBA.out HB0.out hb1⟩)) | (((obtain ⟨_, z0, hx, ⟨x0, x1, x2, x3, x4⟩⟩ := hwc; obtain ⟨y0, y1, y2⟩ := hx.cell; dsimp only at x0 x1 x2 x3 x4 y0 y1 y2; clear hx)); go_simp; done) | (((obtain ⟨_, z0, hx, ⟨x0, x1, x2, x3, x4⟩⟩ := hwc; obtain ⟨y0, y1, y2⟩ := hx.cell; dsimp only at x0 x1 x2 x3 x4 y0 y1 y2; clear hx)); go_simp; exact rfl))); clear hK K))
  refine wpQuiet_nil ?_
  intro wc hwc
  go_wp2_with fail
  go_ret
  exact ⟨by rw [HQ.out]; rfl, hwc.1⟩

set_option maxRecDepth 100000 in
set_option maxHeartbeats 1000000 in
theorem Search_upTo (w : World) (n cnt ba bx : Nat) (p : Nat → Bool) (hn : n < 4611686018427387904) (h1 : cnt ≤ n) (h2 : ∀ i, i < cnt → p i = false) (h3 : ∀ i, cnt ≤ i → i < n → p i = true)
    (HF : ∀ W i, Below w.heap.size w W → i < n → Calls Try.prog 35 #[.int .i64 i, .pointer (some ⟨ba, 0, none⟩), .pointer (some ⟨bx, 0, none⟩)] W fun e w' => e = .returned (.bool (p i)) ∧ Below W.heap.size W w') :
    Calls Try.prog 34 #[.int .i64 n, .func (.func 35) #[] #[.pointer (some ⟨ba, 0, none⟩), .pointer (some ⟨bx, 0, none⟩)]] w fun e w' => e = .returned (.int .i64 cnt) ∧ Below w.heap.size w w' := by
  have H2 := Lib.hid h2
  have H3 := Lib.hid h3
  have HFH := Lib.hid HF
  clear h2 h3 HF
  go_enter Try.func34, Try.ntmps34
  go_wp2_with fail
  go_loopw [5, 6] (fun u v wr => ∃ lo hi : Nat, u = .int .i64 lo ∧ v = .int .i64 hi ∧ lo ≤ cnt ∧ cnt ≤ hi ∧ hi ≤ n ∧ Hid (Below w.heap.size w wr)) (fun u v _ => (intOf v).toNat - (intOf u).toNat)
  case atStart => exact ⟨0, n, rfl, rfl, Nat.zero_le _, h1, Nat.le_refl _, Below.refl _ _⟩
  case round =>
    obtain ⟨lo, hi, rfl, rfl, hlo, hhi, hin, hbel⟩ := hrel
    by_cases hlt : lo < hi
    · have hc := Lib.hid (HFH.out wr ((lo + hi) / 2) hbel.out (by omega))
      obtain ⟨m, hm⟩ : ∃ m, m = (lo + hi) / 2 := ⟨_, rfl⟩
      have q1 : ((lo : Int) + (hi : Int)) / 2 = (m : Int) := by omega
      have q2 : lo ≤ m ∧ m < hi := by omega
      rw [← hm] at hc
      have HM := Lib.hid hm
      clear hm
      obtain ⟨r, hr⟩ : ∃ r, r = p m := ⟨_, rfl⟩
      rw [← hr] at hc
      have HR := Lib.hid hr
      clear hr
      cases r
      · have hmc : m < cnt := by
          rcases Nat.lt_or_ge m cnt with h | h
          · exact h
          · have := H3.out m h (by omega)
            rw [← HR.out] at this; cases this
        go_wp2_with (go_at_call 35; refine hc.out.mono ?_; rintro e w1 ⟨rfl, hb1⟩)
        go_roundw
        case rel => exact ⟨m + 1, hi, by go_num, rfl, by omega, hhi, hin, hbel.out.trans (hb1.mono hbel.out.size)⟩
        case measure => simp [intOf]; omega
      · have hmc : cnt ≤ m := by
          rcases Nat.lt_or_ge m cnt with h | h
          · have := H2.out m h
            rw [← HR.out] at this; cases this
          · exact h
        go_wp2_with (go_at_call 35; refine hc.out.mono ?_; rintro e w1 ⟨rfl, hb1⟩)
        go_roundw
        case rel => exact ⟨lo, m, rfl, by go_num, hlo, by omega, by omega, hbel.out.trans (hb1.mono hbel.out.size)⟩
        case measure => simp [intOf]; omega
    · obtain rfl : lo = cnt := by omega
      go_wp2_with fail
      go_ret
      exact ⟨rfl, hbel.out⟩

set_option maxRecDepth 100000 in
set_option maxHeartbeats 400000 in
theorem upTo_row (w : World) (x y z : Int) (ao : Option Addr) (n cap cnt : Nat) (l : List Ver) (hl : l.length = n) (h64 : n ≤ 64) (hcell : 0 < n → ∃ b off, ao = some ⟨b, off, none⟩ ∧ b < w.heap.size ∧ ∀ i, i < n → VerAt w b (off + i * 5) (vat l i)) (hcnt : IsCnt l x y z cnt) :
    Calls Try.prog 28 #[.slice ao n cap, (Go.Value.agg #[Go.Value.int Go.IntKind.i64 x, Go.Value.int Go.IntKind.i64 y, Go.Value.int Go.IntKind.i64 z])] w fun e w' => e = .returned (.int .i64 cnt) ∧ Below w.heap.size w w' := by
  have hn : n < 4611686018427387904 := by omega
  have HS : Hid (∀ W, Below w.heap.size w W → W.cell? ⟨w.heap.size, 0, none⟩ = some (.slice ao n cap) → Box W (w.heap.size + 1) x y z → Calls Try.prog 34 #[.int .i64 n, .func (.func 35) #[] #[.pointer (some ⟨w.heap.size, 0, none⟩), .pointer (some ⟨w.heap.size + 1, 0, none⟩)]] W fun e w' => e = .returned (.int .i64 cnt) ∧ Below W.heap.size W w') := by
    intro W hW hc hx
    refine Search_upTo W n cnt _ _ (fun i => befS x y z (vat l i)) hn (by rw [← hl]; exact hcnt.1) hcnt.2.1 (fun i h h2 => hcnt.2.2 i h (by omega)) fun W' i hW' hi => ?_
    obtain ⟨b, off, rfl, hb, hcl⟩ := hcell (by omega)
    have h1 := hW.size
    have h2 := hW'.size
    have h3 := hx.lt
    exact found_any W' _ _ b off n cap i x y z _ hi (by omega) (by omega) (by omega) ((hW'.cell (p := ⟨w.heap.size, 0, none⟩) (by show w.heap.size < _; omega)).trans hc) (hx.over hW') (((hcl i hi).next hW hb).next hW' (by omega))
  clear hcell hcnt hl h64
  have HB : Hid (Below w.heap.size w ((w.alloc (.cells #[.slice ao n cap] 22)).alloc (.cells #[.int .i64 x, .int .i64 y, .int .i64 z] 24))) := ((Below.refl _ _).alloc (Nat.le_refl _) _).alloc (by simp) _
  have HX : Hid (Box ((w.alloc (.cells #[.slice ao n cap] 22)).alloc (.cells #[.int .i64 x, .int .i64 y, .int .i64 z] 24)) (w.heap.size + 1) x y z) := by
    have := Box.new (w.alloc (.cells #[.slice ao n cap] 22)) x y z
    show Box _ _ _ _ _
    simpa using this
  go_enter Try.func28, Try.ntmps28
  go_wp2_with fail
  refine (HS.out _ HB.out (by simp) HX.out).mono ?_
  rintro e w1 ⟨rfl, hb1⟩
  go_wp2_with fail
  go_ret
  exact ⟨rfl, HB.out.trans (hb1.mono HB.out.size)⟩

theorem upTo_any {w : World} {v : Value} {l : List Ver} (h : Vers w v l) (h64 : l.length ≤ 64) {x y z : Int} {n : Nat} (hn : IsCnt l x y z n) : Calls Try.prog 28 #[v, (Go.Value.agg #[Go.Value.int Go.IntKind.i64 x, Go.Value.int Go.IntKind.i64 y, Go.Value.int Go.IntKind.i64 z])] w fun e w' => e = .returned (.int .i64 n) ∧ Below w.heap.size w w' := by
  obtain ⟨ao, cap, rfl, h1, h2, h3⟩ := h
  exact upTo_row w x y z ao _ cap n l rfl h64 h3 hn

end Go.Proofs.Ytbboamfjkdcjeaa
