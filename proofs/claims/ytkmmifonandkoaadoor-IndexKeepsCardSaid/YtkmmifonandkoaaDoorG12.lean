/-
  Merged texts, in build order: IxRefPages IxPagesWalk IxMore IxPrunesWalk IxCutsWalk IxBackWalk IxWholeWalk IxKeepsWalk IxWalks KyTie UtTie SmOpen VrOpen IxOpen.
-/
import Derived.Test.YtkmmifonandkoaaDoorG11
import Derived.Test.YtkmmifonandkoaaDoorG03
import Derived.Test.YtkmmifonandkoaaDoorG09
import Derived.Test.YtkmmifonandkoaaDoorG07
import Derived.Test.YtkmmifonandkoaaDoorG10
import Derived.Test.YtkmmifonandkoaaDoorG04
import Derived.Test.YtkmmifonandkoaaDoorRows
import Derived.Lib.LaidU8
import Derived.PinnedBridge
import Derived.MakeChecks
import Derived.Test.YtkmmifonandkoaaDoorCards
import Derived.Test.YtkmmifonandkoaaDoorTie
import Derived.Test.YtkmmifonandkoaaDoorG01
import Derived.ProofKit
import Derived.ChangeSame
import Derived.Deep.Strs
import Derived.Lib.SmallJoins
import Derived.Deep.Slices
import Derived.Below

/-
  The contracts of the document's Page, and of SameItems of two rows that are the same.
-/
set_option linter.unusedVariables false
namespace Go.Proofs.YtkmmifonandkoaaDoor
open Go.RowKit

/-- The item at a place, nothing old touched. -/
def PgRel (w : World) (b o : Nat) (e : Itm) (W : World) : Prop := b < w.heap.size ∧ Below w.heap.size w W ∧ ItmAt W b o e
theorem PgRel.next {w W W' : World} {b o : Nat} {e : Itm} (H : PgRel w b o e W) (hb : Below W.heap.size W W') : PgRel w b o e W' := by
  obtain ⟨h0, h1, h2⟩ := H
  have := h1.size
  exact ⟨h0, h1.trans (hb.mono h1.size), h2.next hb (by omega)⟩

set_option maxRecDepth 100000 in
set_option maxHeartbeats 1000000 in
theorem refPage_any {w : World} {v : Value} {l : List Ent} (h : Ents w v l) (lo hi : ByteArray) (x y z lim : Int) (hlim : -9223372036854775808 ≤ lim ∧ lim ≤ 9223372036854775807) (hks : ∀ i, i < l.length → (lat l i).1.size ≤ 1048576) (h80 : l.length ≤ 80) (hlo : lo.size ≤ 1048576) (hhi : hi.size ≤ 1048576) :
    Calls Tryd.prog 22 #[v, .string lo, .string hi, (Go.Value.agg #[Go.Value.int Go.IntKind.i64 x, Go.Value.int Go.IntKind.i64 y, Go.Value.int Go.IntKind.i64 z]), .int .i64 lim] w fun e w' => ∃ v', e = .returned (.tuple #[v', .string (pgK (aliveL l lo hi x y z) lim), .bool (pgM (aliveL l lo hi x y z) lim)]) ∧ Itms w' v' (pgL (aliveL l lo hi x y z) lim) ∧ Below w.heap.size w w' := by
  have HA : Hid (∀ W, Below w.heap.size w W → Calls Tryd.prog 48 #[v, .string lo, .string hi, (Go.Value.agg #[Go.Value.int Go.IntKind.i64 x, Go.Value.int Go.IntKind.i64 y, Go.Value.int Go.IntKind.i64 z])] W fun e w' => ∃ v', e = .returned v' ∧ OwnsM w' W.heap.size v' (aliveL l lo hi x y z) ∧ Below W.heap.size W w') := fun W hW => refAlive_any (h.next hW) lo hi x y z hks h80 hlo hhi
  have HB : Hid (Below w.heap.size w (w.alloc (.cells #[.int .i64 x, .int .i64 y, .int .i64 z] 24))) := (Below.refl _ _).alloc (Nat.le_refl _) _
  have hal := alive_len l lo hi x y z
  obtain ⟨al, hal2⟩ : ∃ al, aliveL l lo hi x y z = al := ⟨_, rfl⟩
  rw [hal2] at HA hal ⊢
  have H80 : Hid (al.length ≤ 80) := Nat.le_trans hal h80
  obtain ⟨N, hN⟩ : ∃ N, N = lim.toNat := ⟨_, rfl⟩
  have HN := Lib.hid hN
  have hcase : (lim < 0 ∧ N = 0) ∨ (0 ≤ lim ∧ lim = (N : Int)) := by omega
  clear h hks h80 hlo hhi hal hal2
  have key : ∀ (a : Act) (W : World), True := fun _ _ => trivial
  clear key
  rcases hcase with ⟨hneg, h0⟩ | ⟨hpos, hlN⟩
  · have d1 : decide (lim < 0) = true := decide_eq_true hneg
    subst h0
    have HNEG := Lib.hid hneg
    clear hneg hN
    go_enter Tryd.func22, Tryd.ntmps22
    go_wp2_with fail
    refine (HA.out _ HB.out).mono ?_
    rintro e w1 ⟨v1, rfl, ho, hb1⟩
    have HB1 : Hid (Below w.heap.size w w1) := HB.out.trans (hb1.mono HB.out.size)
    have HI := Lib.hid ho.itms
    clear ho hb1
    obtain ⟨ao, cap, rfl, h1, h2, h3⟩ := HI.out
    obtain ⟨m, hm⟩ : ∃ m, al.length = m := ⟨_, rfl⟩
    have HM := Lib.hid hm
    rw [hm] at HI h1 h3 ⊢
    clear hm
    by_cases hm0 : m = 0
    · subst hm0
      have HX := Lib.hid (pg_all (al := al) (lim := lim) (by rw [HM.out]; exact Nat.zero_le _))
      go_wp2_with fail
      go_ret3
      exact ⟨_, by rw [HX.out.2.1, HX.out.2.2]; rfl, by rw [HX.out.1]; exact HI.out, HB1.out⟩
    · obtain ⟨b, off, rfl, hb, hcl⟩ := h3 (by omega)
      have HX := Lib.hid (pg_some (al := al) (lim := lim) (by rw [HM.out, ← HN.out]; omega))
      have d2 : decide ((m : Int) ≤ 0) = false := decide_eq_false (by omega)
      have q0 : 0 < m := by omega
      have q1 : 0 ≤ cap := by omega
      have HCL := Lib.hid hcl
      have HBB := Lib.hid hb
      obtain ⟨e, he⟩ : ∃ e, e = mat al 0 := ⟨_, rfl⟩
      have HEE := Lib.hid he
      have HI2 : Hid (PgRel w1 b off e w1.drew) := by refine ⟨hb, (Below.refl _ _).drew, ?_⟩; have h9 : ItmAt w1 b off (mat al 0) := (by simpa using hcl 0 q0); rw [he]; exact h9
      have HRES : Hid (∀ W, Below w1.heap.size w1 W → Itms W (.slice (some ⟨b, off, none⟩) 0 cap) (pgL al lim)) := fun W hW => by
        have h4 := Itms.front (k := 0) (c := cap) HM.out HBB.out HCL.out (Nat.zero_le _) (Nat.zero_le _) h2
        unfold pgL
        rw [← HN.out]
        exact h4.next hW
      obtain ⟨s, t⟩ := e
      clear hcl hb hm0 h1 h3 he
      go_upto_region 6 with (fail)
      refine wp_region_calm (PgRel w1 b off (s, t)) (by kernel_rfl) (by kernel_rfl) HI2.out ?_
      repeat ((with_reducible refine wpQuiet_step (fun K hK => ?_)); go_simp; first | (refine hK _ ?_; clear hK K) | (apply Exists.intro; refine ⟨fun wc hwc => ?_, hK _ ?_⟩; (focus (first | (fail) | (((obtain ⟨_, _, ⟨x0, x1⟩⟩ := hwc; dsimp only at x0 x1)); go_simp; done) | (((obtain ⟨_, _, ⟨x0, x1⟩⟩ := hwc; dsimp only at x0 x1)); go_simp; exact rfl))); clear hK K))
      refine wpQuiet_nil ?_
      intro wc hwc
      have HW := Lib.hid hwc
      clear hwc
      go_wp2_with fail
      go_ret3
      exact ⟨_, by rw [HX.out.1, HX.out.2, ← HN.out, ← HEE.out]; rfl, HRES.out _ HW.out.2.1, HB1.out.trans (HW.out.2.1.mono HB1.out.size)⟩
  · have d1 : decide ((N : Int) < 0) = false := decide_eq_false (by omega)
    subst hlN
    clear hpos hN
    go_enter Tryd.func22, Tryd.ntmps22
    go_wp2_with fail
    refine (HA.out _ HB.out).mono ?_
    rintro e w1 ⟨v1, rfl, ho, hb1⟩
    have HB1 : Hid (Below w.heap.size w w1) := HB.out.trans (hb1.mono HB.out.size)
    have HI := Lib.hid ho.itms
    clear ho hb1
    obtain ⟨ao, cap, rfl, h1, h2, h3⟩ := HI.out
    obtain ⟨m, hm⟩ : ∃ m, al.length = m := ⟨_, rfl⟩
    have HM := Lib.hid hm
    rw [hm] at HI h1 h3 ⊢
    clear hm
    by_cases hmN : m ≤ N
    · have d2 : decide ((m : Int) ≤ (N : Int)) = true := decide_eq_true (by omega)
      have HX := Lib.hid (pg_all (al := al) (lim := (N : Int)) (by rw [HM.out]; exact hmN))
      go_wp2_with fail
      go_ret3
      exact ⟨_, by rw [HX.out.2.1, HX.out.2.2]; rfl, by rw [HX.out.1]; exact HI.out, HB1.out⟩
    · obtain ⟨b, off, rfl, hb, hcl⟩ := h3 (by omega)
      have HX := Lib.hid (pg_some (al := al) (lim := (N : Int)) (by rw [HM.out]; show N < m; omega))
      have d2 : decide ((m : Int) ≤ (N : Int)) = false := decide_eq_false (by omega)
      have q0 : N < m := by omega
      have q1 : N ≤ cap := by omega
      have HCL := Lib.hid hcl
      have HBB := Lib.hid hb
      obtain ⟨e, he⟩ : ∃ e, e = mat al N := ⟨_, rfl⟩
      have HEE := Lib.hid he
      have HI2 : Hid (PgRel w1 b (off + N * 2) e w1.drew) := by refine ⟨hb, (Below.refl _ _).drew, ?_⟩; rw [he]; exact hcl N q0
      have HRES : Hid (∀ W, Below w1.heap.size w1 W → Itms W (.slice (some ⟨b, off, none⟩) N cap) (pgL al N)) := fun W hW => by
        have h4 := Itms.front (k := N) (c := cap) HM.out HBB.out HCL.out (by omega) (by omega) h2
        exact h4.next hW
      obtain ⟨s, t⟩ := e
      clear hcl hb h1 h3 he
      go_upto_region 6 with (fail)
      refine wp_region_calm (PgRel w1 b (off + N * 2) (s, t)) (by kernel_rfl) (by kernel_rfl) HI2.out ?_
      repeat ((with_reducible refine wpQuiet_step (fun K hK => ?_)); go_simp; first | (refine hK _ ?_; clear hK K) | (apply Exists.intro; refine ⟨fun wc hwc => ?_, hK _ ?_⟩; (focus (first | (fail) | (((obtain ⟨_, _, ⟨x0, x1⟩⟩ := hwc; dsimp only at x0 x1)); go_simp; done) | (((obtain ⟨_, _, ⟨x0, x1⟩⟩ := hwc; dsimp only at x0 x1)); go_simp; exact rfl))); clear hK K))
      refine wpQuiet_nil ?_
      intro wc hwc
      have HW := Lib.hid hwc
      clear hwc
      go_wp2_with fail
      go_ret3
      exact ⟨_, by rw [HX.out.1, HX.out.2]; show _ = Ending.returned (.tuple #[_, .string (mat al N).1, _]); rw [← HEE.out]; rfl, HRES.out _ HW.out.2.1, HB1.out.trans (HW.out.2.1.mono HB1.out.size)⟩

/-- The same item at two places. -/
def M2 (w : World) (b1 o1 b2 o2 : Nat) (e : Itm) (W : World) : Prop := b1 < w.heap.size ∧ b2 < w.heap.size ∧ Below w.heap.size w W ∧ ItmAt W b1 o1 e ∧ ItmAt W b2 o2 e
theorem M2.next {w W W' : World} {b1 o1 b2 o2 : Nat} {e : Itm} (H : M2 w b1 o1 b2 o2 e W) (hb : Below W.heap.size W W') : M2 w b1 o1 b2 o2 e W' := by
  obtain ⟨h0, h1, h2, h3, h4⟩ := H
  have := h2.size
  exact ⟨h0, h1, h2.trans (hb.mono h2.size), h3.next hb (by omega), h4.next hb (by omega)⟩
theorem M2.drew {w W : World} {b1 o1 b2 o2 : Nat} {e : Itm} (H : M2 w b1 o1 b2 o2 e W) : M2 w b1 o1 b2 o2 e W.drew := H.next ((Below.refl _ _).drew)

set_option maxRecDepth 100000 in
set_option maxHeartbeats 1000000 in
theorem refSame_any {w : World} {v v' : Value} {l : List Itm} (h : Itms w v l) (h' : Itms w v' l) : Calls Tryd.prog 23 #[v, v'] w fun e w' => e = .returned (.bool true) ∧ Below w.heap.size w w' := by
  obtain ⟨ao, cap, rfl, h1, h2, h3⟩ := h
  obtain ⟨ao', cap', rfl, h1', h2', h3'⟩ := h'
  have hmx : l.length ≤ 9223372036854775807 := Nat.le_trans h1 (Nat.le_trans h2 (by decide))
  obtain ⟨n, hn⟩ : ∃ n, l.length = n := ⟨_, rfl⟩
  rw [hn] at h3 h3' hmx ⊢
  have HR := Lib.hid h3
  have HR' := Lib.hid h3'
  clear h1 h2 h3 h1' h2' h3' hn
  go_enter Tryd.func23, Tryd.ntmps23
  go_wp2_with fail
  go_loopw [5] (fun i wr => ∃ k : Nat, k ≤ n ∧ i = .int .i64 k ∧ Hid (Below w.heap.size w wr)) (fun i _ => n - (intOf i).toNat)
  case atStart => exact ⟨0, Nat.zero_le _, rfl, Below.refl _ _⟩
  case round =>
    obtain ⟨k, hk, rfl, hbel⟩ := hrel
    by_cases hlt : k < n
    · obtain ⟨b, off, rfl, hb, hcl⟩ := HR.out (by omega)
      obtain ⟨b', off', rfl, hb', hcl'⟩ := HR'.out (by omega)
      obtain ⟨e, he⟩ : ∃ e, e = mat l k := ⟨_, rfl⟩
      have H : Hid (M2 w b (off + k * 2) b' (off' + k * 2) e wr) := ⟨hb, hb', hbel.out, by rw [he]; exact (hcl k hlt).next hbel.out hb, by rw [he]; exact (hcl' k hlt).next hbel.out hb'⟩
      clear he hcl hcl' hbel
      obtain ⟨s, t⟩ := e
      have q0 : k < n := hlt
      go_upto_region 6 with (fail)
      refine wp_region_calm (M2 w b (off + k * 2) b' (off' + k * 2) (s, t)) (by kernel_rfl) (by kernel_rfl) H.out.drew ?_
      repeat ((with_reducible refine wpQuiet_step (fun K hK => ?_)); go_simp; first | (refine hK _ ?_; clear hK K) | (apply Exists.intro; refine ⟨fun wc hwc => ?_, hK _ ?_⟩; (focus (first | (fail) | (((obtain ⟨_, _, _, ⟨x0, x1⟩, ⟨y0, y1⟩⟩ := hwc; dsimp only at x0 x1 y0 y1)); go_simp; done) | (((obtain ⟨_, _, _, ⟨x0, x1⟩, ⟨y0, y1⟩⟩ := hwc; dsimp only at x0 x1 y0 y1)); go_simp; exact rfl))); clear hK K))
      refine wpQuiet_nil ?_
      intro wc hwc
      go_wp2_with fail
      go_roundw
      case rel => exact ⟨k + 1, by omega, by go_num, hwc.2.2.1⟩
      case measure => simp [intOf]; omega
    · go_wp2_with fail
      go_ret
      exact ⟨rfl, hbel.out⟩

end Go.Proofs.YtkmmifonandkoaaDoor

/-
  The walk of IndexPages, over what it asks of package index.
-/
set_option linter.unusedVariables false
namespace Go.Proofs.YtkmmifonandkoaaDoor
open Go.RowKit

theorem pg_nil (lim : Int) : pgL [] lim = [] ∧ pgK [] lim = { data := #[] } ∧ pgM [] lim = false := pg_all (al := []) (Nat.zero_le _)

set_option maxRecDepth 100000 in
set_option maxHeartbeats 1000000 in
theorem indexPages_core (HF : FIAwake) (HG : FIPage) (w : World) (hT : UtfAt w) (v : Value) (l : List Ent) (hv : Ents w v l) (lo hi : ByteArray) (x y z lim : Int) (hlim : -9223372036854775808 ≤ lim ∧ lim ≤ 9223372036854775807) :
    Calls Tryd.prog 5 #[v, .string lo, .string hi, (Go.Value.agg #[Go.Value.int Go.IntKind.i64 x, Go.Value.int Go.IntKind.i64 y, Go.Value.int Go.IntKind.i64 z]), .int .i64 lim] w fun e w' => e = .returned (.bool true) ∧ Below w.heap.size w w' := by
  have HAW : Hid (∀ W, Below w.heap.size w W → Calls Tryd.prog 12 #[] W fun e w' => e = .returned (.bool true) ∧ Below W.heap.size W w') := fun W hW => HF W (hT.next hW)
  have HS : Hid (∀ W, Below w.heap.size w W → Calls Tryd.prog 11 #[v] W fun e w' => e = .returned (.bool (smallI l)) ∧ w' = W) := fun W hW => refSmall_any (hv.next hW)
  obtain ⟨W0, hW0, H0, hBX⟩ : ∃ W0, w.alloc (.cells #[.int .i64 x, .int .i64 y, .int .i64 z] 24) = W0 ∧ Hid (Below w.heap.size w W0) ∧ Hid (Box W0 w.heap.size x y z) := ⟨_, rfl, (Below.refl _ _).alloc (Nat.le_refl _) _, Box.new w x y z⟩
  obtain ⟨sm, hsm⟩ : ∃ sm, sm = smallI l := ⟨_, rfl⟩
  rw [← hsm] at HS
  have HSM := Lib.hid hsm
  have HT := Lib.hid hT
  have HV := Lib.hid hv
  have HLIM := Lib.hid hlim
  clear hsm hT hv hlim
  cases sm
  · go_enter Tryd.func5, Tryd.ntmps5
    go_wp2_with fail
    refine (HS.out _ H0.out).mono ?_
    rintro e w1 ⟨rfl, rfl⟩
    go_wp2_with fail
    refine (HAW.out _ H0.out).mono ?_
    rintro e w2 ⟨rfl, hb2⟩
    go_wp2_with fail
    go_ret
    exact ⟨rfl, H0.out.trans (hb2.mono H0.out.size)⟩
  rcases Nat.lt_or_ge 100 lo.size with hlo | hlo
  · have d1 : decide (100 < (lo.size : Int)) = true := decide_eq_true (by omega)
    go_enter Tryd.func5, Tryd.ntmps5
    go_wp2_with fail
    refine (HS.out _ H0.out).mono ?_
    rintro e w1 ⟨rfl, rfl⟩
    go_wp2_with fail
    refine (HAW.out _ H0.out).mono ?_
    rintro e w2 ⟨rfl, hb2⟩
    go_wp2_with fail
    go_ret
    exact ⟨rfl, H0.out.trans (hb2.mono H0.out.size)⟩
  have d1 : decide (100 < (lo.size : Int)) = false := decide_eq_false (by omega)
  rcases Nat.lt_or_ge 100 hi.size with hhi | hhi
  · have d2 : decide (100 < (hi.size : Int)) = true := decide_eq_true (by omega)
    go_enter Tryd.func5, Tryd.ntmps5
    go_wp2_with fail
    refine (HS.out _ H0.out).mono ?_
    rintro e w1 ⟨rfl, rfl⟩
    go_wp2_with fail
    refine (HAW.out _ H0.out).mono ?_
    rintro e w2 ⟨rfl, hb2⟩
    go_wp2_with fail
    go_ret
    exact ⟨rfl, H0.out.trans (hb2.mono H0.out.size)⟩
  have d2 : decide (100 < (hi.size : Int)) = false := decide_eq_false (by omega)
  obtain ⟨r, hr⟩ : ∃ r, r = rightI l := ⟨_, rfl⟩
  have HKS : Hid (l.length ≤ 80 ∧ ∀ i, i < l.length → (lat l i).1.size ≤ 1048576) := small_keys HSM.out.symm
  have HRR : Hid (∀ W, Below w.heap.size w W → Calls Tryd.prog 17 #[v] W fun e w' => e = .returned (.bool r) ∧ Below W.heap.size W w') := fun W hW => by rw [hr]; exact refIRight_any (HV.out.next hW) HKS.out.2
  obtain ⟨al, hal⟩ : ∃ al, al = alI l lo hi x y z := ⟨_, rfl⟩
  have HGH : Hid (∀ W, Below w.heap.size w W → Calls Tryd.prog 21 #[v, .string lo, .string hi, (Go.Value.agg #[Go.Value.int Go.IntKind.i64 x, Go.Value.int Go.IntKind.i64 y, Go.Value.int Go.IntKind.i64 z]), .int .i64 lim] W fun e w' => ∃ v', e = .returned (.tuple #[v', .string (pgK al lim), .bool (pgM al lim)]) ∧ Itms w' v' (pgL al lim) ∧ Below W.heap.size W w') := fun W hW => by rw [hal]; exact HG W v l lo hi x y z lim (HT.out.next hW) (HV.out.next hW) HLIM.out
  have HRP : Hid (r = true → ∀ W, Below w.heap.size w W → Calls Tryd.prog 22 #[v, .string lo, .string hi, (Go.Value.agg #[Go.Value.int Go.IntKind.i64 x, Go.Value.int Go.IntKind.i64 y, Go.Value.int Go.IntKind.i64 z]), .int .i64 lim] W fun e w' => ∃ v', e = .returned (.tuple #[v', .string (pgK al lim), .bool (pgM al lim)]) ∧ Itms w' v' (pgL al lim) ∧ Below W.heap.size W w') := fun h W hW => by
    rw [hal, show alI l lo hi x y z = aliveL l lo hi x y z by unfold alI; rw [← hr, h]; rfl]
    exact refPage_any (HV.out.next hW) lo hi x y z lim HLIM.out HKS.out.2 HKS.out.1 (by omega) (by omega)
  have HNO : Hid (r = false → al = []) := fun h => by rw [hal]; unfold alI; rw [← hr, h]; rfl
  clear hr hal hlo hhi HG HF
  go_enter Tryd.func5, Tryd.ntmps5
  go_wp2_with fail
  refine (HS.out _ H0.out).mono ?_
  rintro e w1 ⟨rfl, rfl⟩
  obtain ⟨x0, x1, x2⟩ := hBX.out.cell
  go_wp2_with fail
  refine (HGH.out _ H0.out).mono ?_
  rintro e w2 ⟨v2, rfl, hi2, hb2⟩
  have H2 : Hid (Below w.heap.size w w2 ∧ Box w2 w.heap.size x y z) := ⟨H0.out.trans (hb2.mono H0.out.size), hBX.out.over hb2⟩
  have HI2 := Lib.hid hi2
  clear hb2 hi2 x0 x1 x2
  go_wp2_with fail
  refine (HRR.out _ H2.out.1).mono ?_
  rintro e w3 ⟨rfl, hb3⟩
  have H3 : Hid (Below w.heap.size w w3 ∧ Box w3 w.heap.size x y z) := ⟨H2.out.1.trans (hb3.mono H2.out.1.size), H2.out.2.over hb3⟩
  have HI3 := Lib.hid (HI2.out.next hb3)
  clear hb3 H2 HI2
  cases r
  · have he := HNO.out (by first | rfl | trivial)
    subst he
    obtain ⟨e1, e2, e3⟩ := pg_nil lim
    rw [e1] at HI3
    rw [e2, e3]
    obtain ⟨ao2, cap2, rfl⟩ := itms_slice HI3.out
    clear e1 e2 e3
    go_wp2_with fail
    refine (HAW.out _ H3.out.1).mono ?_
    rintro e w4 ⟨rfl, hb4⟩
    go_wp2_with fail
    go_ret
    exact ⟨rfl, H3.out.1.trans (hb4.mono H3.out.1.size)⟩
  · obtain ⟨pk, hpk⟩ : ∃ pk, pk = pgK al lim := ⟨_, rfl⟩
    obtain ⟨pm, hpm⟩ : ∃ pm, pm = pgM al lim := ⟨_, rfl⟩
    obtain ⟨pl, hpl⟩ : ∃ pl, pl = pgL al lim := ⟨_, rfl⟩
    rw [← hpk, ← hpm, ← hpl] at HRP
    rw [← hpl] at HI3
    rw [← hpk, ← hpm]
    clear hpk hpm hpl HGH
    obtain ⟨x0, x1, x2⟩ := H3.out.2.cell
    go_wp2_with fail
    refine (HRP.out (by first | rfl | trivial) _ H3.out.1).mono ?_
    rintro e w4 ⟨v4, rfl, hi4, hb4⟩
    have H4 : Hid (Below w.heap.size w w4) := H3.out.1.trans (hb4.mono H3.out.1.size)
    have HQ := Lib.hid (refSame_any (HI3.out.next hb4) hi4)
    clear hb4 hi4 HI3 H3 x0 x1 x2
    go_wp2_with fail
    refine HQ.out.mono ?_
    rintro e w5 ⟨rfl, hb5⟩
    have H5 : Hid (Below w.heap.size w w5) := H4.out.trans (hb5.mono H4.out.size)
    clear hb5
    go_wp2_with fail
    refine (HAW.out _ H5.out).mono ?_
    rintro e w6 ⟨rfl, hb6⟩
    go_wp2_with fail
    go_ret
    exact ⟨rfl, H5.out.trans (hb6.mono H5.out.size)⟩

end Go.Proofs.YtkmmifonandkoaaDoor

/-
  Plain facts on indexes: parts of right ones, pruning, pages behind one another. No walk.
-/
set_option linter.unusedVariables false
namespace Go.Proofs.YtkmmifonandkoaaDoor
open Go.RowKit

theorem lat_get {l : List Ent} {i : Nat} (h : i < l.length) : lat l i = l[i] := by simp [lat, List.getD, h]
theorem right_to {l : List Ent} (h : rightI l = true) : l.length ≤ 64 ∧ (∀ e ∈ l, Ky.right e.1 = true ∧ 0 < e.2.length ∧ rightC e.2 = true) ∧ l.Pairwise (fun a b => Ky.compare a.1 b.1 < 0) := by
  refine ⟨(rightI_spec h).1, fun e he => ?_, ?_⟩
  · obtain ⟨i, hi, rfl⟩ := lat_mem he
    have := ent_spec h hi
    exact ⟨this.1, this.2.1, this.2.2.1⟩
  · rw [List.pairwise_iff_getElem]
    intro i j hi hj hij
    have := key_lt h hij hj
    rwa [lat_get hi, lat_get hj] at this
theorem right_of {l : List Ent} (h : l.length ≤ 64) (h2 : ∀ e ∈ l, Ky.right e.1 = true ∧ 0 < e.2.length ∧ rightC e.2 = true) (h3 : l.Pairwise (fun a b => Ky.compare a.1 b.1 < 0)) : rightI l = true := by
  refine rightI_yes h fun i hi => ?_
  have h4 := h2 (lat l i) (by rw [lat_get hi]; exact List.getElem_mem hi)
  refine ent_ok h4.1 h4.2.1 h4.2.2 fun h0 => ?_
  rw [List.pairwise_iff_getElem] at h3
  have := h3 (i - 1) i (by omega) hi (by omega)
  rw [lat_get hi, lat_get (by omega : i - 1 < l.length)]
  exact this
theorem right_sub {l m : List Ent} (h : rightI l = true) (hs : m.Sublist l) : rightI m = true := by
  obtain ⟨h1, h2, h3⟩ := right_to h
  exact right_of (Nat.le_trans hs.length_le h1) (fun e he => h2 e (hs.subset he)) (h3.sublist hs)
theorem apart_cut {l : List Ent} (h : rightI l = true) (n : Nat) : apartB (l.take n) (l.drop n) = true := by
  unfold apartB
  refine decide_eq_true fun i hi k hk => ?_
  rw [List.length_take] at hi
  rw [List.length_drop] at hk
  rw [lat_take l (by omega), lat_drop]
  exact key_lt h (by omega) (by omega)
theorem join_cut {l : List Ent} (h : rightI l = true) (n : Nat) : IsJoin (l.take n) (l.drop n) l 0 :=
  .inr (.inr (.inr ⟨right_sub h (List.take_sublist _ _), right_sub h (List.drop_sublist _ _), apart_cut h n, by rw [← List.length_append, List.take_append_drop]; exact (right_to h).1, (List.take_append_drop n l).symm, rfl⟩))

/-! ### Pruning -/
theorem pr_right {c : List Ver} (h : rightC c = true) (x y z : Int) : rightC (prC x y z c) = true ∧ (prC x y z c).length ≤ c.length := pruned_right (pr_is c x y z) h
theorem prune_right {l : List Ent} (h : rightI l = true) (x y z : Int) : rightI (pruneI l x y z) = true := by
  obtain ⟨h1, h2, h3⟩ := right_to h
  refine right_of (Nat.le_trans (pruneI_len l x y z) h1) (fun e he => ?_) ?_
  · unfold pruneI at he
    obtain ⟨he1, he2⟩ := List.mem_filter.1 he
    obtain ⟨e0, he0, rfl⟩ := List.mem_map.1 he1
    have h4 := h2 e0 he0
    exact ⟨h4.1, of_decide_eq_true he2, (pr_right h4.2.2 x y z).1⟩
  · unfold pruneI
    refine List.Pairwise.filter _ ?_
    rw [List.pairwise_map]
    exact h3
theorem has_nil (x y z : Int) (k : ByteArray) : hasE x y z (k, []) = false := by
  have h := at_is [] x y z
  show hasV (atV [] x y z) (atO [] x y z) = false
  rcases h with ⟨e, _⟩ | ⟨_, _, _, e⟩ | ⟨_, _, n, c, _⟩
  · cases e
  · rw [e]; rfl
  · have := c.1; simp at this
theorem keeps_ent {e : Ent} (h : rightC e.2 = true) {a b c x y z : Int} (hle : befB x y z a b c = false) : hasE x y z (prE a b c e) = hasE x y z e ∧ valE x y z (prE a b c e) = valE x y z e := by
  obtain ⟨h1, h2⟩ := pruned_keeps h (pr_is e.2 a b c) hle (at_is e.2 x y z) (at_is (prC a b c e.2) x y z)
  exact ⟨h2.symm, h1.symm⟩
theorem keeps_alive {a b c x y z : Int} (hle : befB x y z a b c = false) (lo hi : ByteArray) : ∀ l : List Ent, (∀ e ∈ l, rightC e.2 = true) → aliveL (pruneI l a b c) lo hi x y z = aliveL l lo hi x y z := by
  intro l
  induction l with
  | nil => intro _; rfl
  | cons e l ih =>
    intro h
    have ih' := ih (fun e he => h e (List.mem_cons_of_mem _ he))
    obtain ⟨k1, k2⟩ := keeps_ent (h e List.mem_cons_self) hle
    have e1 : pruneI (e :: l) a b c = pruneI [e] a b c ++ pruneI l a b c := by rw [← pruneI_app]; rfl
    have e2 : aliveL (e :: l) lo hi x y z = aliveL [e] lo hi x y z ++ aliveL l lo hi x y z := by rw [← alive_app]; rfl
    rw [e1, alive_app, e2, ih']
    congr 1
    by_cases hf : 0 < (prC a b c e.2).length
    · have e3 : pruneI [e] a b c = [prE a b c e] := by simp [pruneI, fullB, prE, hf]
      have e4 : aliveB lo hi x y z (prE a b c e) = aliveB lo hi x y z e := by simp only [aliveB, k1]; rfl
      rw [e3]
      simp only [aliveL, List.filter_cons, List.filter_nil, e4]
      split
      · simp only [List.map_cons, List.map_nil, k2]; rfl
      · rfl
    · have hn : prC a b c e.2 = [] := List.length_eq_zero_iff.1 (by omega)
      have e3 : pruneI [e] a b c = [] := by simp [pruneI, fullB, prE, hn]
      have e4 : hasE x y z e = false := by rw [← k1]; unfold prE; rw [hn]; exact has_nil x y z e.1
      rw [e3]
      simp [aliveL, aliveB, e4]

/-! ### Pages behind one another -/
theorem codes_empty : Ky.codes { data := #[] } 0 = [] := Ky.codes_end _ _ (by decide)
theorem cmp_empty (k : ByteArray) : 0 ≤ Ky.compare k { data := #[] } := by
  unfold Ky.compare
  rw [codes_empty]
  cases Ky.codes k 0 <;> simp [Ky.cmpL]
/-- What is alive from some text on. -/
theorem alive_from {l : List Ent} (h : rightI l = true) (hi : ByteArray) (x y z : Int) {q : Nat} (hq : q < (aliveL l { data := #[] } hi x y z).length) :
    aliveL l (mat (aliveL l { data := #[] } hi x y z) q).1 hi x y z = (aliveL l { data := #[] } hi x y z).drop q := by
  obtain ⟨f, hf⟩ : ∃ f, f = l.filter (aliveB { data := #[] } hi x y z) := ⟨_, rfl⟩
  have hal : aliveL l { data := #[] } hi x y z = f.map fun e => (e.1, valE x y z e) := by rw [hf]; rfl
  rw [hal] at hq ⊢
  rw [List.length_map] at hq
  have hkey : (mat (f.map fun e => (e.1, valE x y z e)) q).1 = (lat f q).1 := by
    simp [mat, lat, List.getD, hq]
  rw [hkey]
  have hfr : rightI f = true := by rw [hf]; exact right_sub h List.filter_sublist
  have hpos : IsPos f (lat f q).1 q := ⟨Nat.le_of_lt hq, fun i hi => key_lt hfr hi hq, fun i h1 h2 => by
    rcases Nat.lt_or_ge q i with h3 | h3
    · have := key_lt hfr h3 h2
      have h4 := cmp_neg' (lat f q).1 (lat f i).1
      omega
    · obtain rfl : i = q := by omega
      rw [cmp_self]; omega⟩
  have hs := (side_front hpos).2
  have e1 : ∀ k, l.filter (aliveB k hi x y z) = sideI f k false := by
    intro k
    rw [hf]
    unfold sideI
    rw [List.filter_filter]
    congr 1
    funext e
    unfold aliveB inR ltB
    rw [decide_eq_true (cmp_empty e.1)]
    have h5 : decide (0 ≤ Ky.compare e.1 k) = (decide (Ky.compare e.1 k < 0) == false) := by
      by_cases h6 : Ky.compare e.1 k < 0
      · rw [decide_eq_true h6, decide_eq_false (by omega)]; rfl
      · rw [decide_eq_false h6, decide_eq_true (by omega)]; rfl
    rw [h5]
    cases hasE x y z e <;> simp
  show (l.filter (aliveB (lat f q).1 hi x y z)).map _ = _
  rw [e1, hs, List.map_drop]

end Go.Proofs.YtkmmifonandkoaaDoor

/-
  The walk of IndexPrunes, over what it asks of package index.
-/
set_option linter.unusedVariables false
namespace Go.Proofs.YtkmmifonandkoaaDoor
open Go.RowKit

set_option maxRecDepth 100000 in
set_option maxHeartbeats 1000000 in
theorem indexPrunes_core (HF : FIAwake) (HR : FIRight) (HP : FIPrune) (w : World) (hT : UtfAt w) (v : Value) (l : List Ent) (hv : Ents w v l) (x y z : Int) :
    Calls Tryd.prog 6 #[v, (Go.Value.agg #[Go.Value.int Go.IntKind.i64 x, Go.Value.int Go.IntKind.i64 y, Go.Value.int Go.IntKind.i64 z])] w fun e w' => e = .returned (.bool true) ∧ Below w.heap.size w w' := by
  have HAW : Hid (∀ W, Below w.heap.size w W → Calls Tryd.prog 12 #[] W fun e w' => e = .returned (.bool true) ∧ Below W.heap.size W w') := fun W hW => HF W (hT.next hW)
  have HS : Hid (∀ W, Below w.heap.size w W → Calls Tryd.prog 11 #[v] W fun e w' => e = .returned (.bool (smallI l)) ∧ w' = W) := fun W hW => refSmall_any (hv.next hW)
  obtain ⟨W0, hW0, H0, hBX⟩ : ∃ W0, w.alloc (.cells #[.int .i64 x, .int .i64 y, .int .i64 z] 24) = W0 ∧ Hid (Below w.heap.size w W0) ∧ Hid (Box W0 w.heap.size x y z) := ⟨_, rfl, (Below.refl _ _).alloc (Nat.le_refl _) _, Box.new w x y z⟩
  obtain ⟨sm, hsm⟩ : ∃ sm, sm = smallI l := ⟨_, rfl⟩
  rw [← hsm] at HS
  have HSM := Lib.hid hsm
  have HT := Lib.hid hT
  have HV := Lib.hid hv
  clear hsm hT hv
  cases sm
  · go_enter Tryd.func6, Tryd.ntmps6
    go_wp2_with fail
    refine (HS.out _ H0.out).mono ?_
    rintro e w1 ⟨rfl, rfl⟩
    go_wp2_with fail
    refine (HAW.out _ H0.out).mono ?_
    rintro e w2 ⟨rfl, hb2⟩
    go_wp2_with fail
    go_ret
    exact ⟨rfl, H0.out.trans (hb2.mono H0.out.size)⟩
  obtain ⟨r, hr⟩ : ∃ r, r = rightI l := ⟨_, rfl⟩
  have HKS : Hid (l.length ≤ 80 ∧ ∀ i, i < l.length → (lat l i).1.size ≤ 1048576) := small_keys HSM.out.symm
  have HRR : Hid (∀ W, Below w.heap.size w W → Calls Tryd.prog 17 #[v] W fun e w' => e = .returned (.bool r) ∧ Below W.heap.size W w') := fun W hW => by rw [hr]; exact refIRight_any (HV.out.next hW) HKS.out.2
  obtain ⟨pl, hpl⟩ : ∃ pl, pl = prI l x y z := ⟨_, rfl⟩
  have HPH : Hid (∀ W, Below w.heap.size w W → Calls Tryd.prog 24 #[v, (Go.Value.agg #[Go.Value.int Go.IntKind.i64 x, Go.Value.int Go.IntKind.i64 y, Go.Value.int Go.IntKind.i64 z])] W fun e w' => ∃ v', e = .returned v' ∧ Ents w' v' pl ∧ Below W.heap.size W w') := fun W hW => by rw [hpl]; exact HP W v l x y z (HT.out.next hW) (HV.out.next hW)
  have HRP : Hid (r = true → ∀ W, Below w.heap.size w W → Calls Tryd.prog 25 #[v, (Go.Value.agg #[Go.Value.int Go.IntKind.i64 x, Go.Value.int Go.IntKind.i64 y, Go.Value.int Go.IntKind.i64 z])] W fun e w' => ∃ v', e = .returned v' ∧ Ents w' v' pl ∧ Below W.heap.size W w') := fun h W hW => by
    rw [hpl, show prI l x y z = pruneI l x y z by unfold prI; rw [← hr, h]; rfl]
    exact refIPrune_any (HV.out.next hW) x y z (by rw [← hr]; exact h)
  have HPR : Hid (r = true → ∀ W v', Below w.heap.size w W → Ents W v' pl → Calls Tryd.prog 16 #[v'] W fun e w' => e = .returned (.bool true) ∧ Below W.heap.size W w') := fun h W v' hW he => by
    have h1 : rightI pl = true := by rw [hpl, show prI l x y z = pruneI l x y z by unfold prI; rw [← hr, h]; rfl]; exact prune_right (by rw [← hr]; exact h) x y z
    rw [← h1]
    exact HR W v' pl (HT.out.next hW) he
  have HNO : Hid (r = false → pl = []) := fun h => by rw [hpl]; unfold prI; rw [← hr, h]; rfl
  clear hr hpl HP HF HR
  go_enter Tryd.func6, Tryd.ntmps6
  go_wp2_with fail
  refine (HS.out _ H0.out).mono ?_
  rintro e w1 ⟨rfl, rfl⟩
  obtain ⟨x0, x1, x2⟩ := hBX.out.cell
  go_wp2_with fail
  refine (HPH.out _ H0.out).mono ?_
  rintro e w2 ⟨v2, rfl, hi2, hb2⟩
  have H2 : Hid (Below w.heap.size w w2 ∧ Box w2 w.heap.size x y z) := ⟨H0.out.trans (hb2.mono H0.out.size), hBX.out.over hb2⟩
  have HI2 := Lib.hid hi2
  clear hb2 hi2 x0 x1 x2
  go_wp2_with fail
  refine (HRR.out _ H2.out.1).mono ?_
  rintro e w3 ⟨rfl, hb3⟩
  have H3 : Hid (Below w.heap.size w w3 ∧ Box w3 w.heap.size x y z) := ⟨H2.out.1.trans (hb3.mono H2.out.1.size), H2.out.2.over hb3⟩
  have HI3 := Lib.hid (HI2.out.next hb3)
  clear hb3 H2 HI2
  cases r
  · have he := HNO.out (by first | rfl | trivial)
    subst he
    obtain ⟨ao2, cap2, rfl⟩ := ents_slice HI3.out
    go_wp2_with fail
    refine (HAW.out _ H3.out.1).mono ?_
    rintro e w4 ⟨rfl, hb4⟩
    go_wp2_with fail
    go_ret
    exact ⟨rfl, H3.out.1.trans (hb4.mono H3.out.1.size)⟩
  · obtain ⟨x0, x1, x2⟩ := H3.out.2.cell
    go_wp2_with fail
    refine (HRP.out (by first | rfl | trivial) _ H3.out.1).mono ?_
    rintro e w4 ⟨v4, rfl, hi4, hb4⟩
    have H4 : Hid (Below w.heap.size w w4) := H3.out.1.trans (hb4.mono H3.out.1.size)
    have HI4 := Lib.hid (HI3.out.next hb4)
    have HQ := Lib.hid (refIEqual_any HI4.out hi4)
    clear hb4 hi4 HI3 H3 x0 x1 x2
    go_wp2_with fail
    refine HQ.out.mono ?_
    rintro e w5 ⟨rfl, hb5⟩
    have H5 : Hid (Below w.heap.size w w5) := H4.out.trans (hb5.mono H4.out.size)
    have HI5 := Lib.hid (HI4.out.next hb5)
    clear hb5 HI4
    go_wp2_with fail
    refine (HPR.out (by first | rfl | trivial) _ _ H5.out HI5.out).mono ?_
    rintro e w6 ⟨rfl, hb6⟩
    have H6 : Hid (Below w.heap.size w w6) := H5.out.trans (hb6.mono H5.out.size)
    clear hb6
    go_wp2_with fail
    refine (HAW.out _ H6.out).mono ?_
    rintro e w7 ⟨rfl, hb7⟩
    go_wp2_with fail
    go_ret
    exact ⟨rfl, H6.out.trans (hb7.mono H6.out.size)⟩

end Go.Proofs.YtkmmifonandkoaaDoor

/-
  The walk of IndexCuts, over what it asks of package index.
-/
set_option linter.unusedVariables false
namespace Go.Proofs.YtkmmifonandkoaaDoor
open Go.RowKit

set_option maxRecDepth 100000 in
set_option maxHeartbeats 2000000 in
theorem indexCuts_core (HF : FIAwake) (HC : FICut) (HJ : FIJoin) (w : World) (hT : UtfAt w) (v : Value) (l : List Ent) (hv : Ents w v l) (vb : Value) (lb : List Ent) (hvb : Ents w vb lb) (a : ByteArray) :
    Calls Tryd.prog 7 #[v, vb, .string a] w fun e w' => e = .returned (.bool true) ∧ Below w.heap.size w w' := by
  have HAW : Hid (∀ W, Below w.heap.size w W → Calls Tryd.prog 12 #[] W fun e w' => e = .returned (.bool true) ∧ Below W.heap.size W w') := fun W hW => HF W (hT.next hW)
  obtain ⟨sm, hsm⟩ : ∃ sm, sm = smallI l := ⟨_, rfl⟩
  obtain ⟨sb, hsb⟩ : ∃ sm, sm = smallI lb := ⟨_, rfl⟩
  have HS : Hid (∀ W, W = w → Calls Tryd.prog 11 #[v] W fun e w' => e = .returned (.bool sm) ∧ w' = W) := fun W hW => by subst hW; rw [hsm]; exact refSmall_any hv
  have HS2 : Hid (∀ W, W = w → Calls Tryd.prog 11 #[vb] W fun e w' => e = .returned (.bool sb) ∧ w' = W) := fun W hW => by subst hW; rw [hsb]; exact refSmall_any hvb
  have HSM : Hid (sm = smallI l ∧ sb = smallI lb) := ⟨hsm, hsb⟩
  have HT := Lib.hid hT
  have HV := Lib.hid hv
  have HVB := Lib.hid hvb
  clear hsm hsb hT hv hvb
  cases sm
  · go_enter Tryd.func7, Tryd.ntmps7
    go_wp2_with fail
    refine (HS.out _ rfl).mono ?_
    rintro e w1 ⟨rfl, rfl⟩
    go_wp2_with fail
    refine (HAW.out _ (Below.refl _ _)).mono ?_
    rintro e w2 ⟨rfl, hb2⟩
    go_wp2_with fail
    go_ret
    exact ⟨rfl, hb2⟩
  cases sb
  · go_enter Tryd.func7, Tryd.ntmps7
    go_wp2_with fail
    refine (HS.out _ rfl).mono ?_
    rintro e w1 ⟨rfl, rfl⟩
    go_wp2_with fail
    refine (HS2.out _ rfl).mono ?_
    rintro e w2 ⟨rfl, rfl⟩
    go_wp2_with fail
    refine (HAW.out _ (Below.refl _ _)).mono ?_
    rintro e w3 ⟨rfl, hb2⟩
    go_wp2_with fail
    go_ret
    exact ⟨rfl, hb2⟩
  rcases Nat.lt_or_ge 100 a.size with ha | ha
  · have d1 : decide (100 < (a.size : Int)) = true := decide_eq_true (by omega)
    go_enter Tryd.func7, Tryd.ntmps7
    go_wp2_with fail
    refine (HS.out _ rfl).mono ?_
    rintro e w1 ⟨rfl, rfl⟩
    go_wp2_with fail
    refine (HS2.out _ rfl).mono ?_
    rintro e w2 ⟨rfl, rfl⟩
    go_wp2_with fail
    refine (HAW.out _ (Below.refl _ _)).mono ?_
    rintro e w3 ⟨rfl, hb2⟩
    go_wp2_with fail
    go_ret
    exact ⟨rfl, hb2⟩
  have d1 : decide (100 < (a.size : Int)) = false := decide_eq_false (by omega)
  obtain ⟨r, hr⟩ : ∃ r, r = rightI l := ⟨_, rfl⟩
  have HKS : Hid (l.length ≤ 80 ∧ ∀ i, i < l.length → (lat l i).1.size ≤ 1048576) := small_keys HSM.out.1.symm
  have HKB : Hid (lb.length ≤ 80 ∧ ∀ i, i < lb.length → (lat lb i).1.size ≤ 1048576) := small_keys HSM.out.2.symm
  have HRR : Hid (∀ W, Below w.heap.size w W → Calls Tryd.prog 17 #[v] W fun e w' => e = .returned (.bool r) ∧ Below W.heap.size W w') := fun W hW => by rw [hr]; exact refIRight_any (HV.out.next hW) HKS.out.2
  obtain ⟨n, hn⟩ := cut_ex' l a
  obtain ⟨cl, hcl⟩ : ∃ cl, cl = cutL l n := ⟨_, rfl⟩
  obtain ⟨cr, hcr⟩ : ∃ cr, cr = cutR l n := ⟨_, rfl⟩
  have HCH : Hid (∀ W, Below w.heap.size w W → Calls Tryd.prog 26 #[v, .string a] W fun e w' => ∃ v1 v2, e = .returned (.tuple #[v1, v2]) ∧ Ents w' v1 cl ∧ Ents w' v2 cr ∧ Below W.heap.size W w') := fun W hW => by
    rw [hcl, hcr]; exact HC W v l a n (HT.out.next hW) (HV.out.next hW) hn
  have HSL : Hid (r = true → ∀ W, Below w.heap.size w W → Calls Tryd.prog 27 #[v, .string a, .bool true] W fun e w' => ∃ v', e = .returned v' ∧ Ents w' v' cl ∧ Below W.heap.size W w') := fun h W hW => by
    have h1 := hn (by rw [← hr]; exact h)
    rw [hcl, show cutL l n = sideI l a true by unfold cutL; rw [← hr, h, (side_front h1).1]; rfl]
    exact refSide_any (HV.out.next hW) a true HKS.out.1 HKS.out.2 (by omega)
  have HSR : Hid (r = true → ∀ W, Below w.heap.size w W → Calls Tryd.prog 27 #[v, .string a, .bool false] W fun e w' => ∃ v', e = .returned v' ∧ Ents w' v' cr ∧ Below W.heap.size W w') := fun h W hW => by
    have h1 := hn (by rw [← hr]; exact h)
    rw [hcr, show cutR l n = sideI l a false by unfold cutR; rw [← hr, h, (side_front h1).2]; rfl]
    exact refSide_any (HV.out.next hW) a false HKS.out.1 HKS.out.2 (by omega)
  have HNO : Hid (r = false → cl = [] ∧ cr = []) := fun h => ⟨by rw [hcl]; unfold cutL; rw [← hr, h]; rfl, by rw [hcr]; unfold cutR; rw [← hr, h]; rfl⟩
  obtain ⟨m, er, hm⟩ := join_ex l lb
  have HJH : Hid (∀ W, Below w.heap.size w W → Calls Tryd.prog 28 #[v, vb] W fun e' w' => ∃ v', e' = .returned (.tuple #[v', .int .i64 er]) ∧ Ents w' v' m ∧ Below W.heap.size W w') := fun W hW => HJ W v vb l lb m er (HT.out.next hW) (HV.out.next hW) (HVB.out.next hW) hm
  have HJR : Hid (∀ W, Below w.heap.size w W → Calls Tryd.prog 29 #[v, vb] W fun e' w' => ∃ v', e' = .returned (.tuple #[v', .int .i64 er]) ∧ Ents w' v' m ∧ Below W.heap.size W w') := fun W hW => refJoin_any (HV.out.next hW) (HVB.out.next hW) HKS.out.2 HKB.out.2 m er hm
  clear hr hn hcl hcr hm HC HJ HF
  go_enter Tryd.func7, Tryd.ntmps7
  go_wp2_with fail
  refine (HS.out _ rfl).mono ?_
  rintro e w1 ⟨rfl, rfl⟩
  go_wp2_with fail
  refine (HS2.out _ rfl).mono ?_
  rintro e w2 ⟨rfl, rfl⟩
  go_wp2_with fail
  refine (HCH.out _ (Below.refl _ _)).mono ?_
  rintro e w3 ⟨v1, v2, rfl, h1, h2, hb3⟩
  have H3 : Hid (Below w2.heap.size w2 w3 ∧ Ents w3 v1 cl ∧ Ents w3 v2 cr) := ⟨hb3, h1, h2⟩
  clear hb3 h1 h2
  go_wp2_with fail
  refine (HRR.out _ H3.out.1).mono ?_
  rintro e w4 ⟨rfl, hb4⟩
  have H4 : Hid (Below w2.heap.size w2 w4 ∧ Ents w4 v1 cl ∧ Ents w4 v2 cr) := ⟨H3.out.1.trans (hb4.mono H3.out.1.size), H3.out.2.1.next hb4, H3.out.2.2.next hb4⟩
  clear hb4 H3
  cases r
  · obtain ⟨rfl, rfl⟩ := HNO.out (by first | rfl | trivial)
    obtain ⟨a1, c1, rfl⟩ := ents_slice H4.out.2.1
    obtain ⟨a2, c2, rfl⟩ := ents_slice H4.out.2.2
    have H8 : Hid (Below w2.heap.size w2 w4) := H4.out.1
    go_wp2_with fail
    refine (HJH.out _ H8.out).mono ?_
    rintro e w9 ⟨v9, rfl, h9, hb9⟩
    have H9 : Hid (Below w2.heap.size w2 w9 ∧ Ents w9 v9 m) := ⟨H8.out.trans (hb9.mono H8.out.size), h9⟩
    clear hb9 h9
    go_wp2_with fail
    refine (HJR.out _ H9.out.1).mono ?_
    rintro e w10 ⟨v10, rfl, h10, hb10⟩
    have H10 : Hid (Below w2.heap.size w2 w10) := H9.out.1.trans (hb10.mono H9.out.1.size)
    have HQ := Lib.hid (refIEqual_any (H9.out.2.next hb10) h10)
    clear hb10 h10 H9
    go_wp2_with fail
    refine HQ.out.mono ?_
    rintro e w11 ⟨rfl, hb11⟩
    have H11 : Hid (Below w2.heap.size w2 w11) := H10.out.trans (hb11.mono H10.out.size)
    clear hb11
    go_wp2_with fail
    refine (HAW.out _ H11.out).mono ?_
    rintro e w12 ⟨rfl, hb12⟩
    go_wp2_with fail
    go_ret
    exact ⟨rfl, H11.out.trans (hb12.mono H11.out.size)⟩
  · go_wp2_with fail
    refine (HSL.out (by first | rfl | trivial) _ H4.out.1).mono ?_
    rintro e w5 ⟨v5, rfl, h5, hb5⟩
    have H5 : Hid (Below w2.heap.size w2 w5 ∧ Ents w5 v2 cr) := ⟨H4.out.1.trans (hb5.mono H4.out.1.size), H4.out.2.2.next hb5⟩
    have HQ5 := Lib.hid (refIEqual_any (H4.out.2.1.next hb5) h5)
    clear hb5 h5 H4
    go_wp2_with fail
    refine HQ5.out.mono ?_
    rintro e w6 ⟨rfl, hb6⟩
    have H6 : Hid (Below w2.heap.size w2 w6 ∧ Ents w6 v2 cr) := ⟨H5.out.1.trans (hb6.mono H5.out.1.size), H5.out.2.next hb6⟩
    clear hb6 H5 HQ5
    go_wp2_with fail
    refine (HSR.out (by first | rfl | trivial) _ H6.out.1).mono ?_
    rintro e w7 ⟨v7, rfl, h7, hb7⟩
    have H7 : Hid (Below w2.heap.size w2 w7) := H6.out.1.trans (hb7.mono H6.out.1.size)
    have HQ7 := Lib.hid (refIEqual_any (H6.out.2.next hb7) h7)
    clear hb7 h7 H6
    go_wp2_with fail
    refine HQ7.out.mono ?_
    rintro e w8 ⟨rfl, hb8⟩
    have H8 : Hid (Below w2.heap.size w2 w8) := H7.out.trans (hb8.mono H7.out.size)
    clear hb8 H7 HQ7
    go_wp2_with fail
    refine (HJH.out _ H8.out).mono ?_
    rintro e w9 ⟨v9, rfl, h9, hb9⟩
    have H9 : Hid (Below w2.heap.size w2 w9 ∧ Ents w9 v9 m) := ⟨H8.out.trans (hb9.mono H8.out.size), h9⟩
    clear hb9 h9
    go_wp2_with fail
    refine (HJR.out _ H9.out.1).mono ?_
    rintro e w10 ⟨v10, rfl, h10, hb10⟩
    have H10 : Hid (Below w2.heap.size w2 w10) := H9.out.1.trans (hb10.mono H9.out.1.size)
    have HQ := Lib.hid (refIEqual_any (H9.out.2.next hb10) h10)
    clear hb10 h10 H9
    go_wp2_with fail
    refine HQ.out.mono ?_
    rintro e w11 ⟨rfl, hb11⟩
    have H11 : Hid (Below w2.heap.size w2 w11) := H10.out.trans (hb11.mono H10.out.size)
    clear hb11
    go_wp2_with fail
    refine (HAW.out _ H11.out).mono ?_
    rintro e w12 ⟨rfl, hb12⟩
    go_wp2_with fail
    go_ret
    exact ⟨rfl, H11.out.trans (hb12.mono H11.out.size)⟩

end Go.Proofs.YtkmmifonandkoaaDoor

/-
  The walk of IndexBack, over what it asks of package index.
-/
set_option linter.unusedVariables false
namespace Go.Proofs.YtkmmifonandkoaaDoor
open Go.RowKit

set_option maxRecDepth 100000 in
set_option maxHeartbeats 1000000 in
theorem indexBack_core (HF : FIAwake) (HR : FIRight) (HC : FICut) (HJ : FIJoin) (w : World) (hT : UtfAt w) (v : Value) (l : List Ent) (hv : Ents w v l) (a : ByteArray) :
    Calls Tryd.prog 8 #[v, .string a] w fun e w' => e = .returned (.bool true) ∧ Below w.heap.size w w' := by
  have HAW : Hid (∀ W, Below w.heap.size w W → Calls Tryd.prog 12 #[] W fun e w' => e = .returned (.bool true) ∧ Below W.heap.size W w') := fun W hW => HF W (hT.next hW)
  have HS : Hid (Calls Tryd.prog 11 #[v] w fun e w' => e = .returned (.bool (smallI l)) ∧ w' = w) := refSmall_any hv
  obtain ⟨sm, hsm⟩ : ∃ sm, sm = smallI l := ⟨_, rfl⟩
  rw [← hsm] at HS
  have HT := Lib.hid hT
  have HV := Lib.hid hv
  clear hsm hT hv
  cases sm
  · go_enter Tryd.func8, Tryd.ntmps8
    go_wp2_with fail
    refine HS.out.mono ?_
    rintro e w1 ⟨rfl, rfl⟩
    go_wp2_with fail
    refine (HAW.out _ (Below.refl _ _)).mono ?_
    rintro e w2 ⟨rfl, hb2⟩
    go_wp2_with fail
    go_ret
    exact ⟨rfl, hb2⟩
  rcases Nat.lt_or_ge 100 a.size with ha | ha
  · have d1 : decide (100 < (a.size : Int)) = true := decide_eq_true (by omega)
    go_enter Tryd.func8, Tryd.ntmps8
    go_wp2_with fail
    refine HS.out.mono ?_
    rintro e w1 ⟨rfl, rfl⟩
    go_wp2_with fail
    refine (HAW.out _ (Below.refl _ _)).mono ?_
    rintro e w2 ⟨rfl, hb2⟩
    go_wp2_with fail
    go_ret
    exact ⟨rfl, hb2⟩
  have d1 : decide (100 < (a.size : Int)) = false := decide_eq_false (by omega)
  obtain ⟨r, hr⟩ : ∃ r, r = rightI l := ⟨_, rfl⟩
  have HRR : Hid (∀ W, Below w.heap.size w W → Calls Tryd.prog 16 #[v] W fun e w' => e = .returned (.bool r) ∧ Below W.heap.size W w') := fun W hW => by rw [hr]; exact HR W v l (HT.out.next hW) (HV.out.next hW)
  cases r
  · clear hr
    go_enter Tryd.func8, Tryd.ntmps8
    go_wp2_with fail
    refine HS.out.mono ?_
    rintro e w1 ⟨rfl, rfl⟩
    go_wp2_with fail
    refine (HRR.out _ (Below.refl _ _)).mono ?_
    rintro e w2 ⟨rfl, hb2⟩
    go_wp2_with fail
    refine (HAW.out _ hb2).mono ?_
    rintro e w3 ⟨rfl, hb3⟩
    go_wp2_with fail
    go_ret
    exact ⟨rfl, hb2.trans (hb3.mono hb2.size)⟩
  obtain ⟨n, hn⟩ := pos_ex hr.symm a
  obtain ⟨lf, hlf⟩ : ∃ lf, lf = l.take n := ⟨_, rfl⟩
  obtain ⟨lb, hlb⟩ : ∃ lb, lb = l.drop n := ⟨_, rfl⟩
  have HCH : Hid (∀ W, Below w.heap.size w W → Calls Tryd.prog 26 #[v, .string a] W fun e w' => ∃ v1 v2, e = .returned (.tuple #[v1, v2]) ∧ Ents w' v1 lf ∧ Ents w' v2 lb ∧ Below W.heap.size W w') := fun W hW => by
    have h := HC W v l a n (HT.out.next hW) (HV.out.next hW) (fun _ => hn)
    rwa [show cutL l n = lf by unfold cutL; rw [← hr, hlf]; rfl, show cutR l n = lb by unfold cutR; rw [← hr, hlb]; rfl] at h
  have HJH : Hid (∀ W v1 v2, Below w.heap.size w W → Ents W v1 lf → Ents W v2 lb → Calls Tryd.prog 28 #[v1, v2] W fun e' w' => ∃ v', e' = .returned (.tuple #[v', .int .i64 0]) ∧ Ents w' v' l ∧ Below W.heap.size W w') := fun W v1 v2 hW h1 h2 => HJ W v1 v2 lf lb l 0 (HT.out.next hW) h1 h2 (by rw [hlf, hlb]; exact join_cut hr.symm n)
  have HRL : Hid (∀ W v1, Below w.heap.size w W → Ents W v1 lf → Calls Tryd.prog 16 #[v1] W fun e w' => e = .returned (.bool true) ∧ Below W.heap.size W w') := fun W v1 hW h1 => by
    have h2 : rightI lf = true := by rw [hlf]; exact right_sub hr.symm (List.take_sublist _ _)
    rw [← h2]; exact HR W v1 lf (HT.out.next hW) h1
  have HRB : Hid (∀ W v1, Below w.heap.size w W → Ents W v1 lb → Calls Tryd.prog 16 #[v1] W fun e w' => e = .returned (.bool true) ∧ Below W.heap.size W w') := fun W v1 hW h1 => by
    have h2 : rightI lb = true := by rw [hlb]; exact right_sub hr.symm (List.drop_sublist _ _)
    rw [← h2]; exact HR W v1 lb (HT.out.next hW) h1
  clear hr hn hlf hlb HR HC HJ HF
  go_enter Tryd.func8, Tryd.ntmps8
  go_wp2_with fail
  refine HS.out.mono ?_
  rintro e w1 ⟨rfl, rfl⟩
  go_wp2_with fail
  refine (HRR.out _ (Below.refl _ _)).mono ?_
  rintro e w2 ⟨rfl, hb2⟩
  have H2 := Lib.hid hb2
  clear hb2
  go_wp2_with fail
  refine (HCH.out _ H2.out).mono ?_
  rintro e w3 ⟨v1, v2, rfl, h1, h2, hb3⟩
  have H3 : Hid (Below w1.heap.size w1 w3 ∧ Ents w3 v1 lf ∧ Ents w3 v2 lb) := ⟨H2.out.trans (hb3.mono H2.out.size), h1, h2⟩
  clear hb3 h1 h2 H2
  go_wp2_with fail
  refine (HJH.out _ _ _ H3.out.1 H3.out.2.1 H3.out.2.2).mono ?_
  rintro e w4 ⟨v4, rfl, h4, hb4⟩
  have H4 : Hid (Below w1.heap.size w1 w4 ∧ Ents w4 v1 lf ∧ Ents w4 v2 lb) := ⟨H3.out.1.trans (hb4.mono H3.out.1.size), H3.out.2.1.next hb4, H3.out.2.2.next hb4⟩
  have HQ := Lib.hid (refIEqual_any h4 (HV.out.next H4.out.1))
  clear hb4 h4 H3
  go_wp2_with fail
  refine HQ.out.mono ?_
  rintro e w5 ⟨rfl, hb5⟩
  have H5 : Hid (Below w1.heap.size w1 w5 ∧ Ents w5 v1 lf ∧ Ents w5 v2 lb) := ⟨H4.out.1.trans (hb5.mono H4.out.1.size), H4.out.2.1.next hb5, H4.out.2.2.next hb5⟩
  clear hb5 H4
  go_wp2_with fail
  refine (HRL.out _ _ H5.out.1 H5.out.2.1).mono ?_
  rintro e w6 ⟨rfl, hb6⟩
  have H6 : Hid (Below w1.heap.size w1 w6 ∧ Ents w6 v2 lb) := ⟨H5.out.1.trans (hb6.mono H5.out.1.size), H5.out.2.2.next hb6⟩
  clear hb6 H5
  go_wp2_with fail
  refine (HRB.out _ _ H6.out.1 H6.out.2).mono ?_
  rintro e w7 ⟨rfl, hb7⟩
  have H7 : Hid (Below w1.heap.size w1 w7) := H6.out.1.trans (hb7.mono H6.out.1.size)
  clear hb7 H6
  go_wp2_with fail
  refine (HAW.out _ H7.out).mono ?_
  rintro e w8 ⟨rfl, hb8⟩
  go_wp2_with fail
  go_ret
  exact ⟨rfl, H7.out.trans (hb8.mono H7.out.size)⟩

end Go.Proofs.YtkmmifonandkoaaDoor

/-
  The walk of IndexWhole, over what it asks of package index.
-/
set_option linter.unusedVariables false
namespace Go.Proofs.YtkmmifonandkoaaDoor
open Go.RowKit

theorem itms_news {w : World} {b off n : Nat} {l : List Itm} (hl : l.length = n) (h : ∀ i, i < n → ItmAt w b (off + i * 2) (mat l i)) : ∀ j u, (itmsC l)[j]? = some u → w.cell? ((⟨b, off, none⟩ : Addr).add j) = some u := by
  intro j u hj
  have hlt : j < l.length * 2 := by rw [← itmsC_len]; exact (List.getElem?_eq_some_iff.1 hj).1
  have e : j = j / 2 * 2 + j % 2 := by omega
  rw [e, itmsC_at l (j / 2) (j % 2) (by omega) (by omega)] at hj
  obtain ⟨h0, h1⟩ := h (j / 2) (by omega)
  have ha : (⟨b, off, none⟩ : Addr).add j = ⟨b, off + j / 2 * 2 + j % 2, none⟩ := by
    rw [Addr.add_lit, show off + j = off + j / 2 * 2 + j % 2 by omega]
  rw [ha]
  have hs : j % 2 = 0 ∨ j % 2 = 1 := by omega
  rcases hs with e | e <;> rw [e] at hj ⊢ <;> simp [itmC] at hj <;> subst hj <;> assumption
theorem wpList_append_itms {w : World} {ops : Array Oper} {rest : List Oper} {o : Oper} {a : Act} {Q : Exit → Act → World → Prop} (hgd : o.guard = none) (s x : Operand)
    (ho : o.op = .call { callee := .builtin .append, args := #[s, x], argTypes := #[42, 42] }) (base : Nat) (v u : Value) (xs l : List Itm) (hs : a.eval s = v) (hown : OwnsM w base v xs) (hx : a.eval x = u) (hu : Itms w u l)
    (hlen : xs.length + l.length ≤ 1000000) (hbase : base ≤ w.heap.size)
    (h : ∀ v' w', OwnsM w' base v' (xs ++ l) → w.grownBy w' v.ownBlock → wpList Tryd.prog ops Q rest (a.put o.dst v') w') : wpList Tryd.prog ops Q (o :: rest) a w := by
  obtain ⟨i0, hi, hz0, hz1, hz2⟩ := info_parts info_itm
  have hown' : w.ownsRow base 62 2 v xs.length (itmsC xs) := hown
  obtain ⟨ao, cap, rfl, h1, h2, h3⟩ := hu
  have hmany : ∀ ad, ao = some ad → (∀ j u, (itmsC l)[j]? = some u → w.cell? (ad.add j) = some u) → wpList Tryd.prog ops Q (o :: rest) a w := by
    rintro ad rfl hn
    refine wpList_append_own w hgd s x 42 ho base 62 i0 _ 2 32 Tryd.underlying42 hi hz0 hz1 hz2 rfl (by decide) v _ _ hs hown' ad _ cap (itmsC l) hx (itmsC_len l) hn (itmsC_one l) (by unfold maxLen; omega) (by omega) hbase fun v' w' hown1 hg _ => h v' w' ?_ hg
    show World.ownsRow w' base _ 2 v' (xs ++ l).length (itmsC (xs ++ l))
    rw [List.length_append, ← itmsC_app]
    exact hown1
  rcases Nat.eq_zero_or_pos l.length with h0 | h0
  · obtain rfl : l = [] := List.length_eq_zero_iff.1 h0
    cases ao with
    | some ad => exact hmany ad rfl (by intro j u hj; simp [itmsC] at hj)
    | none =>
      have h' := h v w (by rw [List.append_nil]; exact hown) ⟨rfl, rfl, rfl, Nat.le_refl _, fun _ _ _ => rfl⟩
      exact Lib.wpList_append_run w hgd s x _ _ ho v _ hs hx v w (run_append_none' base _ _ _ i0 2 cap Tryd.underlying42 hi v _ _ hown') h'
  · obtain ⟨b, off, e, hb, hcl⟩ := h3 h0
    exact hmany _ e (itms_news rfl hcl)

/-- Where the pages stand: so many items seen, from some text on the others are to come; or all seen. -/
def WhAt (l : List Ent) (hi : ByteArray) (x y z : Int) (al : List Itm) (n p : Nat) (at_ : ByteArray) (more : Bool) (seen : List Itm) : Prop :=
  (more = true ∧ p ≤ al.length ∧ n ≤ p ∧ seen = al.take p ∧ alI l at_ hi x y z = al.drop p) ∨ (more = false ∧ seen = al)
theorem al_len {l : List Ent} (lo hi : ByteArray) (x y z : Int) : (alI l lo hi x y z).length ≤ 64 := by
  unfold alI
  cases h : rightI l
  · simp
  · simp only [if_true]
    exact Nat.le_trans (alive_len _ _ _ _ _ _) (right_to h).1
theorem al_from {l : List Ent} (hi : ByteArray) (x y z : Int) {q : Nat} (hq : q < (alI l { data := #[] } hi x y z).length) :
    alI l (mat (alI l { data := #[] } hi x y z) q).1 hi x y z = (alI l { data := #[] } hi x y z).drop q := by
  unfold alI at *
  cases h : rightI l
  · rw [h] at hq; simp at hq
  · rw [h] at hq
    simp only [if_true] at hq ⊢
    exact alive_from h hi x y z hq
theorem mat_drop (l : List Itm) (k i : Nat) : mat (l.drop k) i = mat l (k + i) := by simp [mat, List.getD]
/-- One page more. -/
theorem wh_next {l : List Ent} {hi : ByteArray} {x y z : Int} {al : List Itm} {n p : Nat} {at_ : ByteArray} {lim : Nat} (hal : al = alI l { data := #[] } hi x y z) (h1 : 0 < lim) (hp : p ≤ al.length) (hn : n ≤ p) :
    (pgM (al.drop p) lim = true → (pgL (al.drop p) lim).length = lim) ∧ WhAt l hi x y z al (n + 1) (p + lim) (pgK (al.drop p) lim) (pgM (al.drop p) lim) (al.take p ++ pgL (al.drop p) lim) := by
  by_cases h : (al.drop p).length ≤ lim
  · obtain ⟨e1, e2, e3⟩ := pg_all (al := al.drop p) (lim := (lim : Int)) (by simpa using h)
    rw [e1, e2, e3]
    exact ⟨(fun h => by cases h), .inr ⟨rfl, List.take_append_drop p al⟩⟩
  · obtain ⟨e2, e3⟩ := pg_some (al := al.drop p) (lim := (lim : Int)) (by simp at h ⊢; omega)
    have hlt : p + lim < al.length := by rw [List.length_drop] at h; omega
    have e1 : pgL (al.drop p) (lim : Int) = (al.drop p).take lim := rfl
    rw [e2, e3, e1]
    refine ⟨fun _ => by rw [List.length_take, List.length_drop]; omega, .inl ⟨rfl, by omega, by omega, ?_, ?_⟩⟩
    · rw [List.take_add]
    · show alI l (mat (al.drop p) lim).1 hi x y z = _
      rw [mat_drop]
      subst hal
      exact al_from hi x y z hlt

set_option maxRecDepth 100000 in
set_option maxHeartbeats 2000000 in
theorem indexWhole_core (HF : FIAwake) (HG : FIPage) (w : World) (hT : UtfAt w) (v : Value) (l : List Ent) (hv : Ents w v l) (hi : ByteArray) (x y z lim : Int) (hlim : -9223372036854775808 ≤ lim ∧ lim ≤ 9223372036854775807) :
    Calls Tryd.prog 9 #[v, .string hi, (Go.Value.agg #[Go.Value.int Go.IntKind.i64 x, Go.Value.int Go.IntKind.i64 y, Go.Value.int Go.IntKind.i64 z]), .int .i64 lim] w fun e w' => e = .returned (.bool true) ∧ Below w.heap.size w w' := by
  have HAW : Hid (∀ W, Below w.heap.size w W → Calls Tryd.prog 12 #[] W fun e w' => e = .returned (.bool true) ∧ Below W.heap.size W w') := fun W hW => HF W (hT.next hW)
  have HS : Hid (∀ W, Below w.heap.size w W → Calls Tryd.prog 11 #[v] W fun e w' => e = .returned (.bool (smallI l)) ∧ w' = W) := fun W hW => refSmall_any (hv.next hW)
  obtain ⟨W0, hW0, H0, hBX⟩ : ∃ W0, w.alloc (.cells #[.int .i64 x, .int .i64 y, .int .i64 z] 24) = W0 ∧ Hid (Below w.heap.size w W0) ∧ Hid (Box W0 w.heap.size x y z) := ⟨_, rfl, (Below.refl _ _).alloc (Nat.le_refl _) _, Box.new w x y z⟩
  obtain ⟨sm, hsm⟩ : ∃ sm, sm = smallI l := ⟨_, rfl⟩
  rw [← hsm] at HS
  have HT := Lib.hid hT
  have HV := Lib.hid hv
  clear hsm hT hv
  cases sm
  · go_enter Tryd.func9, Tryd.ntmps9
    go_wp2_with fail
    refine (HS.out _ H0.out).mono ?_
    rintro e w1 ⟨rfl, rfl⟩
    go_wp2_with fail
    refine (HAW.out _ H0.out).mono ?_
    rintro e w2 ⟨rfl, hb2⟩
    go_wp2_with fail
    go_ret
    exact ⟨rfl, H0.out.trans (hb2.mono H0.out.size)⟩
  rcases Nat.lt_or_ge 100 hi.size with hhi | hhi
  · have d1 : decide (100 < (hi.size : Int)) = true := decide_eq_true (by omega)
    go_enter Tryd.func9, Tryd.ntmps9
    go_wp2_with fail
    refine (HS.out _ H0.out).mono ?_
    rintro e w1 ⟨rfl, rfl⟩
    go_wp2_with fail
    refine (HAW.out _ H0.out).mono ?_
    rintro e w2 ⟨rfl, hb2⟩
    go_wp2_with fail
    go_ret
    exact ⟨rfl, H0.out.trans (hb2.mono H0.out.size)⟩
  have d1 : decide (100 < (hi.size : Int)) = false := decide_eq_false (by omega)
  by_cases hl1 : lim < 1
  · have d2 : decide (lim < 1) = true := decide_eq_true hl1
    go_enter Tryd.func9, Tryd.ntmps9
    go_wp2_with fail
    refine (HS.out _ H0.out).mono ?_
    rintro e w1 ⟨rfl, rfl⟩
    go_wp2_with fail
    refine (HAW.out _ H0.out).mono ?_
    rintro e w2 ⟨rfl, hb2⟩
    go_wp2_with fail
    go_ret
    exact ⟨rfl, H0.out.trans (hb2.mono H0.out.size)⟩
  have d2 : decide (lim < 1) = false := decide_eq_false hl1
  by_cases hl2 : 100 < lim
  · have d3 : decide (100 < lim) = true := decide_eq_true hl2
    go_enter Tryd.func9, Tryd.ntmps9
    go_wp2_with fail
    refine (HS.out _ H0.out).mono ?_
    rintro e w1 ⟨rfl, rfl⟩
    go_wp2_with fail
    refine (HAW.out _ H0.out).mono ?_
    rintro e w2 ⟨rfl, hb2⟩
    go_wp2_with fail
    go_ret
    exact ⟨rfl, H0.out.trans (hb2.mono H0.out.size)⟩
  obtain ⟨lm, rfl⟩ : ∃ lm : Nat, lim = (lm : Int) := ⟨lim.toNat, by omega⟩
  have d3 : decide (100 < (lm : Int)) = false := decide_eq_false hl2
  have HLM : Hid (0 < lm ∧ lm ≤ 100) := ⟨by omega, by omega⟩
  obtain ⟨al, hal⟩ : ∃ al, al = alI l { data := #[] } hi x y z := ⟨_, rfl⟩
  have HAL := Lib.hid hal
  have H64 : Hid (al.length ≤ 64) := by rw [hal]; exact al_len _ _ _ _ _
  have HG0 : Hid (∀ W, Below w.heap.size w W → Calls Tryd.prog 21 #[v, .string { data := #[] }, .string hi, (Go.Value.agg #[Go.Value.int Go.IntKind.i64 x, Go.Value.int Go.IntKind.i64 y, Go.Value.int Go.IntKind.i64 z]), .int .i64 1000] W fun e w' => ∃ v', e = .returned (.tuple #[v', .string { data := #[] }, .bool false]) ∧ Itms w' v' al ∧ Below W.heap.size W w') := fun W hW => by
    have h := HG W v l { data := #[] } hi x y z 1000 (HT.out.next hW) (HV.out.next hW) (by omega)
    rw [← hal] at h
    obtain ⟨e1, e2, e3⟩ := pg_all (al := al) (lim := 1000) (by have := H64.out; show al.length ≤ 1000; omega)
    rwa [e1, e2, e3] at h
  have HG1 : Hid (∀ W at_ p, Below w.heap.size w W → alI l at_ hi x y z = al.drop p → Calls Tryd.prog 21 #[v, .string at_, .string hi, (Go.Value.agg #[Go.Value.int Go.IntKind.i64 x, Go.Value.int Go.IntKind.i64 y, Go.Value.int Go.IntKind.i64 z]), .int .i64 lm] W fun e w' => ∃ v', e = .returned (.tuple #[v', .string (pgK (al.drop p) lm), .bool (pgM (al.drop p) lm)]) ∧ Itms w' v' (pgL (al.drop p) lm) ∧ Below W.heap.size W w') := fun W at_ p hW he => by
    have h := HG W v l at_ hi x y z lm (HT.out.next hW) (HV.out.next hW) (by omega)
    rwa [he] at h
  clear hal HG HF hhi hl1 hl2 hlim
  go_enter Tryd.func9, Tryd.ntmps9
  go_wp2_with fail
  refine (HS.out _ H0.out).mono ?_
  rintro e w1 ⟨rfl, rfl⟩
  obtain ⟨x0, x1, x2⟩ := hBX.out.cell
  go_wp2_with fail
  refine (HG0.out _ H0.out).mono ?_
  rintro e w2 ⟨v2, rfl, hi2, hb2⟩
  have H2 : Hid (Below w.heap.size w w2 ∧ Box w2 w.heap.size x y z ∧ Itms w2 v2 al) := ⟨H0.out.trans (hb2.mono H0.out.size), hBX.out.over hb2, hi2⟩
  clear hb2 hi2 x0 x1 x2
  go_wp2_with fail
  go_loopw [12, 13, 14, 15] (fun u at_ mo i wr => ∃ (n p : Nat) (s : ByteArray) (m : Bool) (seen : List Itm), n ≤ 100 ∧ i = .int .i64 n ∧ at_ = .string s ∧ mo = .bool m ∧ Hid (WhAt l hi x y z al n p s m seen) ∧ Hid (OwnsM wr w2.heap.size u seen) ∧ Hid (Below w2.heap.size w2 wr)) (fun _ _ _ i _ => 100 - (intOf i).toNat)
  case atStart => exact ⟨0, 0, { data := #[] }, true, [], by omega, rfl, rfl, rfl, .inl ⟨rfl, Nat.zero_le _, Nat.le_refl _, by simp, by rw [List.drop_zero]; exact HAL.out.symm⟩, OwnsM.nil _ _, Below.refl _ _⟩
  case round =>
    obtain ⟨n, p, s, m, seen, hn, rfl, rfl, rfl, hwh, hown, hbel⟩ := hrel
    cases m
    · have hse : seen = al := by
        rcases hwh.out with ⟨h, _⟩ | ⟨_, h⟩
        · cases h
        · exact h
      subst hse
      have HBB : Hid (Below w.heap.size w wr) := H2.out.1.trans (hbel.out.mono H2.out.1.size)
      have HQ := Lib.hid (refSame_any hown.out.itms (H2.out.2.2.next hbel.out))
      clear hwh
      cases hd : decide ((n : Int) < 100)
      all_goals
        go_wp2_with fail
        refine HQ.out.mono ?_
        rintro e w5 ⟨rfl, hb5⟩
        have H5 : Hid (Below w.heap.size w w5) := HBB.out.trans (hb5.mono HBB.out.size)
        clear hb5
        go_wp2_with fail
        refine (HAW.out _ H5.out).mono ?_
        rintro e w6 ⟨rfl, hb6⟩
        go_wp2_with fail
        go_ret
        exact ⟨rfl, H5.out.trans (hb6.mono H5.out.size)⟩
    · have hfa : p ≤ al.length ∧ n ≤ p ∧ seen = al.take p ∧ alI l s hi x y z = al.drop p := by
        rcases hwh.out with ⟨_, h⟩ | ⟨h, _⟩
        · exact h
        · cases h
      obtain ⟨hp1, hp2, hse, hat⟩ := hfa
      have HX := Lib.hid (wh_next (x := x) (y := y) (z := z) (at_ := s) HAL.out HLM.out.1 hp1 hp2)
      have hlt : n < 100 := by have := H64.out; omega
      have d4 : decide ((n : Int) < 100) = true := decide_eq_true (by omega)
      have HGC := Lib.hid (HG1.out wr s p (H2.out.1.trans (hbel.out.mono H2.out.1.size)) hat)
      subst hse
      have HP : Hid (p ≤ 64) := by show p ≤ 64; have := H64.out; omega
      obtain ⟨pk, hpk⟩ : ∃ pk, pk = pgK (al.drop p) lm := ⟨_, rfl⟩
      obtain ⟨pm, hpm⟩ : ∃ pm, pm = pgM (al.drop p) lm := ⟨_, rfl⟩
      obtain ⟨pl, hpl⟩ : ∃ pl, pl = pgL (al.drop p) lm := ⟨_, rfl⟩
      rw [← hpk, ← hpm, ← hpl] at HX HGC
      have HPL : Hid (pl.length ≤ 64) := by
        show _ ≤ _
        rw [hpl]
        unfold pgL
        rw [List.length_take, List.length_drop]
        have := H64.out
        omega
      clear hp1 hp2 hat hwh hpk hpm hpl
      obtain ⟨x0, x1, x2⟩ := (H2.out.2.1.over hbel.out).cell
      go_wp2_with fail
      refine HGC.out.mono ?_
      rintro e w3 ⟨v3, rfl, hi3, hb3⟩
      have H3 : Hid (Below w2.heap.size w2 w3 ∧ OwnsM w3 w2.heap.size u12 (al.take p) ∧ Itms w3 v3 pl) := ⟨hbel.out.trans (hb3.mono hbel.out.size), hown.out.next hb3, hi3⟩
      clear hb3 hi3 x0 x1 x2 hown hbel HGC
      obtain ⟨ao3, cap3, rfl⟩ := itms_slice H3.out.2.2
      obtain ⟨k, hk⟩ : ∃ k, pl.length = k := ⟨_, rfl⟩
      have HK := Lib.hid hk
      rw [hk] at H3 ⊢
      clear hk
      cases pm
      · go_wp2_with (at_builtin; refine wpList_append_itms rfl _ _ rfl w2.heap.size _ _ (al.take p) pl rfl H3.out.2.1 rfl H3.out.2.2 (by have := HP.out; have := HPL.out; rw [List.length_take]; omega) H3.out.1.size ?_; intro v4 w4 ho4 hg4; have H4 : Hid (OwnsM w4 w2.heap.size v4 (al.take p ++ pl) ∧ Below w2.heap.size w2 w4) := ⟨ho4, H3.out.1.grown hg4 H3.out.1.size (fun k hk => (World.ownsRow.lt H3.out.2.1 k hk).1)⟩; clear ho4 hg4)
        exact ⟨⟨n + 1, p + lm, pk, false, _, by omega, by go_num, rfl, rfl, HX.out.2, H4.out.1, H4.out.2⟩, by simp [intOf]; omega⟩
      · have hkl : k = lm := by rw [← HK.out]; exact HX.out.1 rfl
        subst hkl
        go_wp2_with (at_builtin; refine wpList_append_itms rfl _ _ rfl w2.heap.size _ _ (al.take p) pl rfl H3.out.2.1 rfl H3.out.2.2 (by have := HP.out; have := HPL.out; rw [List.length_take]; omega) H3.out.1.size ?_; intro v4 w4 ho4 hg4; have H4 : Hid (OwnsM w4 w2.heap.size v4 (al.take p ++ pl) ∧ Below w2.heap.size w2 w4) := ⟨ho4, H3.out.1.grown hg4 H3.out.1.size (fun k hk => (World.ownsRow.lt H3.out.2.1 k hk).1)⟩; clear ho4 hg4)
        exact ⟨⟨n + 1, p + k, pk, true, _, by omega, by go_num, rfl, rfl, HX.out.2, H4.out.1, H4.out.2⟩, by simp [intOf]; omega⟩

end Go.Proofs.YtkmmifonandkoaaDoor

/-
  The walk of IndexKeeps, over what it asks of package index.
-/
set_option linter.unusedVariables false
namespace Go.Proofs.YtkmmifonandkoaaDoor
open Go.RowKit

/-- The two stamps' boxes, the page that is there. -/
def KpRel (w : World) (a b c x y z : Int) (va : Value) (il : List Itm) (W : World) : Prop := Below w.heap.size w W ∧ Box W w.heap.size a b c ∧ Box W (w.heap.size + 1) x y z ∧ Itms W va il
theorem KpRel.next {w W W' : World} {a b c x y z : Int} {va : Value} {il : List Itm} (H : KpRel w a b c x y z va il W) (hb : Below W.heap.size W W') : KpRel w a b c x y z va il W' := ⟨H.1.trans (hb.mono H.1.size), H.2.1.over hb, H.2.2.1.over hb, H.2.2.2.next hb⟩
def KpC (w : World) (a b c x y z : Int) (va : Value) (il : List Itm) (W : World) : Prop :=
  W.cell? ⟨w.heap.size, 0, none⟩ = some (.int .i64 a) ∧ W.cell? ⟨w.heap.size, 1, none⟩ = some (.int .i64 b) ∧ W.cell? ⟨w.heap.size, 2, none⟩ = some (.int .i64 c) ∧
  W.cell? ⟨w.heap.size + 1, 0, none⟩ = some (.int .i64 x) ∧ W.cell? ⟨w.heap.size + 1, 1, none⟩ = some (.int .i64 y) ∧ W.cell? ⟨w.heap.size + 1, 2, none⟩ = some (.int .i64 z) ∧ KpRel w a b c x y z va il W
theorem KpC.of {w W : World} {a b c x y z : Int} {va : Value} {il : List Itm} (h : KpRel w a b c x y z va il W) : KpC w a b c x y z va il W := by
  obtain ⟨x1, x2, x3⟩ := h.2.1.cell
  obtain ⟨y1, y2, y3⟩ := h.2.2.1.cell
  exact ⟨x1, x2, x3, y1, y2, y3, h⟩
theorem KpC.rel {w W : World} {a b c x y z : Int} {va : Value} {il : List Itm} (h : KpC w a b c x y z va il W) : KpRel w a b c x y z va il W := h.2.2.2.2.2.2
theorem KpC.next {w W W' : World} {a b c x y z : Int} {va : Value} {il : List Itm} (h : KpC w a b c x y z va il W) (hb : Below W.heap.size W W') : KpC w a b c x y z va il W' := .of (h.rel.next hb)

set_option maxRecDepth 100000 in
set_option maxHeartbeats 2000000 in
theorem indexKeeps_core (HF : FIAwake) (HR : FIRight) (HG : FIPage) (HP : FIPrune) (w : World) (hT : UtfAt w) (v : Value) (l : List Ent) (hv : Ents w v l) (a b c x y z : Int) (lo hi : ByteArray) :
    Calls Tryd.prog 10 #[v, (Go.Value.agg #[Go.Value.int Go.IntKind.i64 a, Go.Value.int Go.IntKind.i64 b, Go.Value.int Go.IntKind.i64 c]), (Go.Value.agg #[Go.Value.int Go.IntKind.i64 x, Go.Value.int Go.IntKind.i64 y, Go.Value.int Go.IntKind.i64 z]), .string lo, .string hi] w fun e w' => e = .returned (.bool true) ∧ Below w.heap.size w w' := by
  have HAW : Hid (∀ W, Below w.heap.size w W → Calls Tryd.prog 12 #[] W fun e w' => e = .returned (.bool true) ∧ Below W.heap.size W w') := fun W hW => HF W (hT.next hW)
  have HS : Hid (∀ W, Below w.heap.size w W → Calls Tryd.prog 11 #[v] W fun e w' => e = .returned (.bool (smallI l)) ∧ w' = W) := fun W hW => refSmall_any (hv.next hW)
  obtain ⟨W0, hW0, H0⟩ : ∃ W0, (w.alloc (.cells #[.int .i64 a, .int .i64 b, .int .i64 c] 24)).alloc (.cells #[.int .i64 x, .int .i64 y, .int .i64 z] 24) = W0 ∧ Hid (KpRel w a b c x y z (.slice none 0 0) [] W0) := by
    refine ⟨_, rfl, ((Below.refl _ _).alloc (Nat.le_refl _) _).alloc (by simp) _, (Box.new w a b c).alloc _, ?_, itms_nil _⟩
    have := Box.new (w.alloc (.cells #[.int .i64 a, .int .i64 b, .int .i64 c] 24)) x y z
    simpa using this
  obtain ⟨sm, hsm⟩ : ∃ sm, sm = smallI l := ⟨_, rfl⟩
  rw [← hsm] at HS
  have HT := Lib.hid hT
  have HV := Lib.hid hv
  clear hsm hT hv
  cases sm
  · go_enter Tryd.func10, Tryd.ntmps10
    go_wp2_with fail
    refine (HS.out _ H0.out.1).mono ?_
    rintro e w1 ⟨rfl, rfl⟩
    go_wp2_with fail
    refine (HAW.out _ H0.out.1).mono ?_
    rintro e w2 ⟨rfl, hb2⟩
    go_wp2_with fail
    go_ret
    exact ⟨rfl, H0.out.1.trans (hb2.mono H0.out.1.size)⟩
  rcases Nat.lt_or_ge 100 lo.size with hlo | hlo
  · have d1 : decide (100 < (lo.size : Int)) = true := decide_eq_true (by omega)
    go_enter Tryd.func10, Tryd.ntmps10
    go_wp2_with fail
    refine (HS.out _ H0.out.1).mono ?_
    rintro e w1 ⟨rfl, rfl⟩
    go_wp2_with fail
    refine (HAW.out _ H0.out.1).mono ?_
    rintro e w2 ⟨rfl, hb2⟩
    go_wp2_with fail
    go_ret
    exact ⟨rfl, H0.out.1.trans (hb2.mono H0.out.1.size)⟩
  have d1 : decide (100 < (lo.size : Int)) = false := decide_eq_false (by omega)
  rcases Nat.lt_or_ge 100 hi.size with hhi | hhi
  · have d2 : decide (100 < (hi.size : Int)) = true := decide_eq_true (by omega)
    go_enter Tryd.func10, Tryd.ntmps10
    go_wp2_with fail
    refine (HS.out _ H0.out.1).mono ?_
    rintro e w1 ⟨rfl, rfl⟩
    go_wp2_with fail
    refine (HAW.out _ H0.out.1).mono ?_
    rintro e w2 ⟨rfl, hb2⟩
    go_wp2_with fail
    go_ret
    exact ⟨rfl, H0.out.1.trans (hb2.mono H0.out.1.size)⟩
  have d2 : decide (100 < (hi.size : Int)) = false := decide_eq_false (by omega)
  obtain ⟨r, hr⟩ : ∃ r, r = rightI l := ⟨_, rfl⟩
  have HRR : Hid (∀ W, Below w.heap.size w W → Calls Tryd.prog 16 #[v] W fun e w' => e = .returned (.bool r) ∧ Below W.heap.size W w') := fun W hW => by rw [hr]; exact HR W v l (HT.out.next hW) (HV.out.next hW)
  cases r
  · clear hr
    go_enter Tryd.func10, Tryd.ntmps10
    go_wp2_with fail
    refine (HS.out _ H0.out.1).mono ?_
    rintro e w1 ⟨rfl, rfl⟩
    go_wp2_with fail
    refine (HRR.out _ H0.out.1).mono ?_
    rintro e w2 ⟨rfl, hb2⟩
    have H2 := Lib.hid (H0.out.next hb2)
    clear hb2
    go_wp2_with fail
    refine (HAW.out _ H2.out.1).mono ?_
    rintro e w3 ⟨rfl, hb3⟩
    go_wp2_with fail
    go_ret
    exact ⟨rfl, H2.out.1.trans (hb3.mono H2.out.1.size)⟩
  obtain ⟨q, hq⟩ : ∃ q, q = cmpI x y z a b c := ⟨_, rfl⟩
  have HCM : Hid (∀ W, Calls Tryd.prog 30 #[(Go.Value.agg #[Go.Value.int Go.IntKind.i64 x, Go.Value.int Go.IntKind.i64 y, Go.Value.int Go.IntKind.i64 z]), (Go.Value.agg #[Go.Value.int Go.IntKind.i64 a, Go.Value.int Go.IntKind.i64 b, Go.Value.int Go.IntKind.i64 c])] W fun e w' => e = .returned (.int .i64 q) ∧ Below W.heap.size W w') := fun W => by rw [hq]; exact Compare_any _ _ _ _ _ _ W
  by_cases hq0 : q < 0
  · have d3 : decide (q < 0) = true := decide_eq_true hq0
    clear hq hq0 hr
    go_enter Tryd.func10, Tryd.ntmps10
    go_wp2_with fail
    refine (HS.out _ H0.out.1).mono ?_
    rintro e w1 ⟨rfl, rfl⟩
    go_wp2_with fail
    refine (HRR.out _ H0.out.1).mono ?_
    rintro e w2 ⟨rfl, hb2⟩
    have H2 := Lib.hid (H0.out.next hb2)
    clear hb2
    obtain ⟨x0, x1, x2⟩ := H2.out.2.1.cell
    obtain ⟨y0, y1, y2⟩ := H2.out.2.2.1.cell
    go_wp2_with fail
    refine (HCM.out _).mono ?_
    rintro e w3 ⟨rfl, hb3⟩
    have H3 := Lib.hid (H2.out.next hb3)
    clear hb3 x0 x1 x2 y0 y1 y2
    go_wp2_with fail
    refine (HAW.out _ H3.out.1).mono ?_
    rintro e w4 ⟨rfl, hb4⟩
    go_wp2_with fail
    go_ret
    exact ⟨rfl, H3.out.1.trans (hb4.mono H3.out.1.size)⟩
  have d3 : decide (q < 0) = false := decide_eq_false hq0
  have hle : befB x y z a b c = false := by
    rcases cmp_cases x y z a b c with ⟨_, _, h⟩ | ⟨h, _, _⟩ | ⟨h, _⟩
    · omega
    · exact h
    · exact h
  obtain ⟨al, hal⟩ : ∃ al, al = alI l lo hi x y z := ⟨_, rfl⟩
  obtain ⟨il, hil⟩ : ∃ il, il = pgL al 1000 := ⟨_, rfl⟩
  obtain ⟨pk, hpk⟩ : ∃ pk, pk = pgK al 1000 := ⟨_, rfl⟩
  obtain ⟨pm, hpm⟩ : ∃ pm, pm = pgM al 1000 := ⟨_, rfl⟩
  have HGH : Hid (∀ W, Below w.heap.size w W → Calls Tryd.prog 21 #[v, .string lo, .string hi, (Go.Value.agg #[Go.Value.int Go.IntKind.i64 x, Go.Value.int Go.IntKind.i64 y, Go.Value.int Go.IntKind.i64 z]), .int .i64 1000] W fun e w' => ∃ v', e = .returned (.tuple #[v', .string pk, .bool pm]) ∧ Itms w' v' il ∧ Below W.heap.size W w') := fun W hW => by
    rw [hil, hpk, hpm, hal]; exact HG W v l lo hi x y z 1000 (HT.out.next hW) (HV.out.next hW) (by omega)
  have HPH : Hid (∀ W, Below w.heap.size w W → Calls Tryd.prog 24 #[v, (Go.Value.agg #[Go.Value.int Go.IntKind.i64 a, Go.Value.int Go.IntKind.i64 b, Go.Value.int Go.IntKind.i64 c])] W fun e w' => ∃ v', e = .returned v' ∧ Ents w' v' (prI l a b c) ∧ Below W.heap.size W w') := fun W hW => HP W v l a b c (HT.out.next hW) (HV.out.next hW)
  have HGP : Hid (∀ W v', Below w.heap.size w W → Ents W v' (prI l a b c) → Calls Tryd.prog 21 #[v', .string lo, .string hi, (Go.Value.agg #[Go.Value.int Go.IntKind.i64 x, Go.Value.int Go.IntKind.i64 y, Go.Value.int Go.IntKind.i64 z]), .int .i64 1000] W fun e w' => ∃ v', e = .returned (.tuple #[v', .string pk, .bool pm]) ∧ Itms w' v' il ∧ Below W.heap.size W w') := fun W v' hW he => by
    have h1 : alI (prI l a b c) lo hi x y z = al := by
      have e1 : prI l a b c = pruneI l a b c := by unfold prI; rw [← hr]; rfl
      rw [hal, e1]
      unfold alI
      rw [prune_right hr.symm, ← hr, keeps_alive hle lo hi l (fun e he => ((right_to hr.symm).2.1 e he).2.2)]
    have h2 := HG W v' _ lo hi x y z 1000 (HT.out.next hW) he (by omega)
    rw [h1] at h2
    rw [hil, hpk, hpm]; exact h2
  obtain ⟨pr, hpr⟩ : ∃ pr, pr = prI l a b c := ⟨_, rfl⟩
  rw [← hpr] at HPH HGP
  clear hr hq hq0 hle hal hil hpk hpm hpr HR HG HP HF hlo hhi
  go_enter Tryd.func10, Tryd.ntmps10
  go_wp2_with fail
  refine (HS.out _ H0.out.1).mono ?_
  rintro e w1 ⟨rfl, rfl⟩
  go_wp2_with fail
  refine (HRR.out _ H0.out.1).mono ?_
  rintro e w2 ⟨rfl, hb2⟩
  have H2 := Lib.hid (H0.out.next hb2)
  clear hb2
  obtain ⟨x0, x1, x2⟩ := H2.out.2.1.cell
  obtain ⟨y0, y1, y2⟩ := H2.out.2.2.1.cell
  go_wp2_with fail
  refine (HCM.out _).mono ?_
  rintro e w3 ⟨rfl, hb3⟩
  have H3 := Lib.hid (H2.out.next hb3)
  clear hb3 x0 x1 x2 y0 y1 y2 H2
  obtain ⟨y0, y1, y2⟩ := H3.out.2.2.1.cell
  go_wp2_with fail
  refine (HGH.out _ H3.out.1).mono ?_
  rintro e w4 ⟨v4, rfl, hi4, hb4⟩
  have H4 : Hid (KpRel w a b c x y z v4 il w4) := ⟨H3.out.1.trans (hb4.mono H3.out.1.size), H3.out.2.1.over hb4, H3.out.2.2.1.over hb4, hi4⟩
  clear hb4 hi4 y0 y1 y2 H3
  go_upto_region 4 with (fail)
  go_cut [14, 15, 16] (fun s14 s15 s16 wx => Hid (KpRel w a b c x y z v4 il wx ∧ Itms wx s14 il))
  case first =>
    have HS0 : KpC w a b c x y z v4 il w4.drew := .of (H4.out.next ((Below.refl _ _).drew))
    go_region_held3 (fun W => W.cell? ⟨w.heap.size, 0, none⟩ = some (.int .i64 a) ∧ W.cell? ⟨w.heap.size, 1, none⟩ = some (.int .i64 b) ∧ W.cell? ⟨w.heap.size, 2, none⟩ = some (.int .i64 c) ∧ W.cell? ⟨w.heap.size + 1, 0, none⟩ = some (.int .i64 x) ∧ W.cell? ⟨w.heap.size + 1, 1, none⟩ = some (.int .i64 y) ∧ W.cell? ⟨w.heap.size + 1, 2, none⟩ = some (.int .i64 z) ∧ KpRel w a b c x y z v4 il W) ((show KpC w a b c x y z v4 il _; first | (with_reducible exact hs2) | (with_reducible exact hs1) | (with_reducible exact HS0))) (first | (go_at_call 24; refine (HPH.out _ HS0.rel.1).mono ?_; rintro e w1 ⟨v1, rfl, hv1, hb1⟩; have hs1 := HS0.next hb1) | (go_at_call 21; refine (HGP.out _ _ hs1.rel.1 hv1).mono ?_; rintro e w2 ⟨v2, rfl, hi2, hb2⟩; have hs2 := hs1.next hb2))
    all_goals (go_wp2_with fail; go_meet; exact ⟨hs2.rel, hi2⟩)
  case rest =>
    have H5 := Lib.hid hcut.out
    clear hcut H4
    have HQ := Lib.hid (refSame_any H5.out.1.2.2.2 H5.out.2)
    go_wp2_with fail
    refine HQ.out.mono ?_
    rintro e w6 ⟨rfl, hb6⟩
    have H6 : Hid (Below w.heap.size w w6) := H5.out.1.1.trans (hb6.mono H5.out.1.1.size)
    clear hb6
    go_wp2_with fail
    refine (HAW.out _ H6.out).mono ?_
    rintro e w7 ⟨rfl, hb7⟩
    go_wp2_with fail
    go_ret
    exact ⟨rfl, H6.out.trans (hb7.mono H6.out.size)⟩

end Go.Proofs.YtkmmifonandkoaaDoor

/-
  The laws' walks over package index.
-/
set_option linter.unusedVariables false
namespace Go.Proofs.YtkmmifonandkoaaDoor
open Go.RowKit

theorem fIAwake : FIAwake := iawake_any fIPut fIPage
theorem indexPuts_walk (w : World) (hT : UtfAt w) (v : Value) (l : List Ent) (hv : Ents w v l) (k : ByteArray) (hk : k.size ≤ 140737488351232) (a b c : Int) (g : Bool) (s : ByteArray) : Calls Tryd.prog 3 #[v, .string k, (Go.Value.agg #[Go.Value.int Go.IntKind.i64 a, Go.Value.int Go.IntKind.i64 b, Go.Value.int Go.IntKind.i64 c, Go.Value.bool g, Go.Value.string s])] w fun e w' => e = .returned (.bool true) ∧ Below w.heap.size w w' := indexPuts_core fIAwake fIRight fIPut w hT v l hv k a b c g s
theorem indexReads_walk (w : World) (hT : UtfAt w) (v : Value) (l : List Ent) (hv : Ents w v l) (k : ByteArray) (hk : k.size ≤ 140737488351232) (x y z : Int) : Calls Tryd.prog 4 #[v, .string k, (Go.Value.agg #[Go.Value.int Go.IntKind.i64 x, Go.Value.int Go.IntKind.i64 y, Go.Value.int Go.IntKind.i64 z])] w fun e w' => e = .returned (.bool true) ∧ Below w.heap.size w w' := indexReads_core fIAwake fIRead w hT v l hv k x y z
theorem indexPages_walk (w : World) (hT : UtfAt w) (v : Value) (l : List Ent) (hv : Ents w v l) (lo : ByteArray) (hlo : lo.size ≤ 140737488351232) (hi : ByteArray) (hhi : hi.size ≤ 140737488351232) (x y z lim : Int) (hlim : -9223372036854775808 ≤ lim ∧ lim ≤ 9223372036854775807) : Calls Tryd.prog 5 #[v, .string lo, .string hi, (Go.Value.agg #[Go.Value.int Go.IntKind.i64 x, Go.Value.int Go.IntKind.i64 y, Go.Value.int Go.IntKind.i64 z]), .int .i64 lim] w fun e w' => e = .returned (.bool true) ∧ Below w.heap.size w w' := indexPages_core fIAwake fIPage w hT v l hv lo hi x y z lim hlim
theorem indexPrunes_walk (w : World) (hT : UtfAt w) (v : Value) (l : List Ent) (hv : Ents w v l) (x y z : Int) : Calls Tryd.prog 6 #[v, (Go.Value.agg #[Go.Value.int Go.IntKind.i64 x, Go.Value.int Go.IntKind.i64 y, Go.Value.int Go.IntKind.i64 z])] w fun e w' => e = .returned (.bool true) ∧ Below w.heap.size w w' := indexPrunes_core fIAwake fIRight fIPrune w hT v l hv x y z
theorem indexCuts_walk (w : World) (hT : UtfAt w) (v : Value) (l : List Ent) (hv : Ents w v l) (vb : Value) (lb : List Ent) (hvb : Ents w vb lb) (a : ByteArray) (ha : a.size ≤ 140737488351232) : Calls Tryd.prog 7 #[v, vb, .string a] w fun e w' => e = .returned (.bool true) ∧ Below w.heap.size w w' := indexCuts_core fIAwake fICut fIJoin w hT v l hv vb lb hvb a
theorem indexBack_walk (w : World) (hT : UtfAt w) (v : Value) (l : List Ent) (hv : Ents w v l) (a : ByteArray) (ha : a.size ≤ 140737488351232) : Calls Tryd.prog 8 #[v, .string a] w fun e w' => e = .returned (.bool true) ∧ Below w.heap.size w w' := indexBack_core fIAwake fIRight fICut fIJoin w hT v l hv a
theorem indexWhole_walk (w : World) (hT : UtfAt w) (v : Value) (l : List Ent) (hv : Ents w v l) (hi : ByteArray) (hhi : hi.size ≤ 140737488351232) (x y z lim : Int) (hlim : -9223372036854775808 ≤ lim ∧ lim ≤ 9223372036854775807) : Calls Tryd.prog 9 #[v, .string hi, (Go.Value.agg #[Go.Value.int Go.IntKind.i64 x, Go.Value.int Go.IntKind.i64 y, Go.Value.int Go.IntKind.i64 z]), .int .i64 lim] w fun e w' => e = .returned (.bool true) ∧ Below w.heap.size w w' := indexWhole_core fIAwake fIPage w hT v l hv hi x y z lim hlim
theorem indexKeeps_walk (w : World) (hT : UtfAt w) (v : Value) (l : List Ent) (hv : Ents w v l) (a b c x y z : Int) (lo : ByteArray) (hlo : lo.size ≤ 140737488351232) (hi : ByteArray) (hhi : hi.size ≤ 140737488351232) : Calls Tryd.prog 10 #[v, (Go.Value.agg #[Go.Value.int Go.IntKind.i64 a, Go.Value.int Go.IntKind.i64 b, Go.Value.int Go.IntKind.i64 c]), (Go.Value.agg #[Go.Value.int Go.IntKind.i64 x, Go.Value.int Go.IntKind.i64 y, Go.Value.int Go.IntKind.i64 z]), .string lo, .string hi] w fun e w' => e = .returned (.bool true) ∧ Below w.heap.size w w' := indexKeeps_core fIAwake fIRight fIPage fIPrune w hT v l hv a b c x y z lo hi

end Go.Proofs.YtkmmifonandkoaaDoor

/-
  The two tables of the library's decoder, out of a row's list; their cells, for a witness's world.
-/
namespace Go.Proofs.YtkmmifonandkoaaDoor
open Go.RowKit

/-- What a row's list gives that bears both tables, wherever they stand on it (the list without handles: the first premise by kernel_rfl). -/
theorem utfAt_of {W : World} {l : List (String × DataW Unit)} (hl : (l.all fun x => x.2.handleName?.isNone) = true) (h : laidMetH Tryd.prog l W)
    (m3 : ("unicode/utf8.first", Rows.laid_unicode_utf8_first) ∈ l) (m4 : ("unicode/utf8.acceptRanges", Rows.laid_unicode_utf8_acceptRanges) ∈ l) : UtfAt W := by
  rw [MakeChecks.laidMetH_plain _ _ _ hl] at h
  have h3 := Lib.laidMet.reads h m3
  have h4 := Lib.laidMet.reads h m4
  rw [show Rows.laid_unicode_utf8_first = Lib.firstData from Pinned.utf8First_eq] at h3
  rw [show Rows.laid_unicode_utf8_acceptRanges = Lib.acceptData by kernel_rfl] at h4
  exact utf8Tabs_of_reads Tryd.lays260 ⟨by kernel_rfl, by kernel_rfl, by kernel_rfl, by kernel_rfl, by kernel_rfl, by kernel_rfl, by kernel_rfl⟩ h3 h4

def firstCells : Array Value := (Lib.firstTab.map (Value.int .u8)).toArray
def acceptCells : Array Value := ((List.range 16).flatMap fun i => [Value.int .u8 (Lib.accLo i), Value.int .u8 (Lib.accHi i)]).toArray
/-- A variable's cells, laid anew (the witness's world: heap.modify g (putCells cells), a variable behind the other). -/
def putCells (cs : Array Value) (o : Obj) : Obj :=
  match o with
  | .cells _ t frozen => .cells cs t frozen
  | o => o

end Go.Proofs.YtkmmifonandkoaaDoor

/-
  What the rows' list gives: the decoder's two tables; a world that holds them.
-/
namespace Go.Proofs.YtkmmifonandkoaaDoor
open Go.RowKit

theorem tabs_of {W : World} (h : laidMetH Tryd.prog [("unicode/utf8.acceptRanges", Rows.laid_unicode_utf8_acceptRanges), ("unicode/utf8.first", Rows.laid_unicode_utf8_first)] W) : UtfAt W :=
  utfAt_of (by kernel_rfl) h (.tail _ (.head _)) (.head _)
/-- A world in which the tables hold what their initialisers lay. -/
noncomputable def laidWorld (os : Os) : World :=
  { World.holding Tryd.prog os ⟨#[], #[], []⟩ with heap := (Array.modify (World.holding Tryd.prog os ⟨#[], #[], []⟩).heap 0 (putCells firstCells)).modify 1 (putCells acceptCells) }

end Go.Proofs.YtkmmifonandkoaaDoor

/-
  Stamps that came in: their cells.
-/
set_option linter.unusedVariables false
namespace Go.Proofs.YtkmmifonandkoaaDoor
open Go.RowKit Go.ChangeShapes Go.WideShapes Go.Deep

theorem trod_stamp {H : Type} {enc : TypeId × Value → H} {W : World} {base fuel : Nat} {sp : Nat → Bool} {hd : Bool} {cs : List Value} {x : DataW H × List MemPlace} (hl : cs.length = 3)
    (h : DataW.trod enc Tryd.prog W base sp hd fuel 24 cs = some x) : ∃ a b c : Int, cs = [.int .i64 a, .int .i64 b, .int .i64 c] := by
  match cs, hl with
  | [v0, v1, v2], _ =>
    obtain ⟨y0, y1, y2, n, _, _, h0, h1, h2⟩ := trod_struct3 Tryd.underlying24 h
    have k : Tryd.prog.cellsOf 3 = 1 := by kernel_rfl
    have g0 : DataW.trod enc Tryd.prog W base sp hd n 3 (([v0, v1, v2].drop 0).take (Tryd.prog.cellsOf 3)) = some y0 := h0
    have g1 : DataW.trod enc Tryd.prog W base sp hd n 3 (([v0, v1, v2].drop 1).take (Tryd.prog.cellsOf 3)) = some y1 := h1
    have g2 : DataW.trod enc Tryd.prog W base sp hd n 3 (([v0, v1, v2].drop 2).take (Tryd.prog.cellsOf 3)) = some y2 := h2
    rw [k] at g0 g1 g2
    obtain ⟨n0, f0, _, _⟩ := DataW.trod_int Tryd.underlying3 g0
    obtain ⟨n1, f1, _, _⟩ := DataW.trod_int Tryd.underlying3 g1
    obtain ⟨n2, f2, _, _⟩ := DataW.trod_int Tryd.underlying3 g2
    simp only [List.drop, List.take] at f0 f1 f2
    simp only [List.cons.injEq, and_true] at f0 f1 f2
    subst f0; subst f1; subst f2
    exact ⟨n0, n1, n2, rfl⟩

set_option maxRecDepth 100000 in
theorem open_stamp {H : Type} {enc : TypeId × Value → H} {W : World} {base b0 : Nat} {r : Reach} {sp : Nat → Bool} {hd : Bool} {v : Value} {d : DataW H} {p : List MemPlace} (hv : Value.okWide Tryd.prog W r b0 24 v)
    (h : DataW.Trod enc Tryd.prog W base sp hd 24 v d p) : ∃ a b c : Int, v = (Go.Value.agg #[Go.Value.int Go.IntKind.i64 a, Go.Value.int Go.IntKind.i64 b, Go.Value.int Go.IntKind.i64 c]) := by
  obtain ⟨cs, rfl, hsz⟩ := okWide_struct Tryd.underlying24 hv
  obtain ⟨c0, c1, c2, rfl⟩ := Joins.array3 (hsz.trans (show Tryd.prog.cellsOf 24 = 3 by kernel_rfl))
  obtain ⟨fuel, hf⟩ := h
  obtain ⟨a, b, c, e⟩ := trod_stamp rfl (show DataW.trod enc Tryd.prog W base sp hd fuel 24 [c0, c1, c2] = some (d, p) from hf)
  simp only [List.cons.injEq, and_true] at e
  obtain ⟨rfl, rfl, rfl⟩ := e
  exact ⟨a, b, c, rfl⟩

end Go.Proofs.YtkmmifonandkoaaDoor

/-
  Versions that came in, by value and in a slice.
-/
set_option linter.unusedVariables false
namespace Go.Proofs.YtkmmifonandkoaaDoor
open Go.RowKit Go.ChangeShapes Go.WideShapes Go.Deep

theorem trod_version {H : Type} {enc : TypeId × Value → H} {W : World} {base fuel : Nat} {sp : Nat → Bool} {hd : Bool} {cs : List Value} {x : DataW H × List MemPlace} (hl : cs.length = 5)
    (h : DataW.trod enc Tryd.prog W base sp hd fuel 26 cs = some x) : ∃ v : Ver, cs = verC v := by
  match cs, hl with
  | [v0, v1, v2, v3, v4], _ =>
    obtain ⟨y0, y1, y2, n, _, _, h0, h1, h2⟩ := trod_struct3 Tryd.underlying26 h
    have ks : Tryd.prog.cellsOf 24 = 3 := by kernel_rfl
    have kb : Tryd.prog.cellsOf 4 = 1 := by kernel_rfl
    have kt : Tryd.prog.cellsOf 9 = 1 := by kernel_rfl
    have g0 : DataW.trod enc Tryd.prog W base sp hd n 24 (([v0, v1, v2, v3, v4].drop 0).take (Tryd.prog.cellsOf 24)) = some y0 := h0
    have g1 : DataW.trod enc Tryd.prog W base sp hd n 4 (([v0, v1, v2, v3, v4].drop 3).take (Tryd.prog.cellsOf 4)) = some y1 := h1
    have g2 : DataW.trod enc Tryd.prog W base sp hd n 9 (([v0, v1, v2, v3, v4].drop 4).take (Tryd.prog.cellsOf 9)) = some y2 := h2
    rw [ks] at g0
    rw [kb] at g1
    rw [kt] at g2
    obtain ⟨a, b, c, f0⟩ := trod_stamp rfl g0
    obtain ⟨n1, f1, _⟩ := DataW.trod_bool Tryd.underlying4 g1
    obtain ⟨s, f2, _⟩ := DataW.trod_string Tryd.underlying9 g2
    simp only [List.drop, List.take, List.cons.injEq, and_true] at f0 f1 f2
    obtain ⟨rfl, rfl, rfl⟩ := f0
    subst f1; subst f2
    exact ⟨(_, _, _, n1, s), rfl⟩

set_option maxRecDepth 100000 in
theorem open_version {H : Type} {enc : TypeId × Value → H} {W : World} {base b0 : Nat} {r : Reach} {sp : Nat → Bool} {hd : Bool} {v : Value} {d : DataW H} {p : List MemPlace} (hv : Value.okWide Tryd.prog W r b0 26 v)
    (h : DataW.Trod enc Tryd.prog W base sp hd 26 v d p) : ∃ (a b c : Int) (g : Bool) (s : ByteArray), v = (Go.Value.agg #[Go.Value.int Go.IntKind.i64 a, Go.Value.int Go.IntKind.i64 b, Go.Value.int Go.IntKind.i64 c, Go.Value.bool g, Go.Value.string s]) := by
  obtain ⟨cs, rfl, hsz⟩ := okWide_struct Tryd.underlying26 hv
  have k5 : Tryd.prog.cellsOf 26 = 5 := by kernel_rfl
  rw [k5] at hsz
  obtain ⟨l⟩ := cs
  obtain ⟨fuel, hf⟩ := h
  obtain ⟨⟨a, b, c, g, s⟩, e⟩ := trod_version (by simpa using hsz) (show DataW.trod enc Tryd.prog W base sp hd fuel 26 l = some (d, p) from hf)
  exact ⟨a, b, c, g, s, by rw [e]; rfl⟩

set_option maxRecDepth 100000 in
theorem open_versions {H : Type} {enc : TypeId × Value → H} {W : World} {b0 : Nat} {r : Reach} {hd : Bool} {v : Value} {d : DataW H} {p : List MemPlace} (hv : Value.okWide Tryd.prog W r b0 39 v)
    (h : DataW.Trod enc Tryd.prog W 0 (fun _ => true) hd 39 v d p) (hlt : ∀ x ∈ p, x.block < W.heap.size) : ∃ l : List Ver, Vers W v l := by
  obtain ⟨o, len, cap, rfl⟩ := okWide_slice Tryd.underlying39 hv
  obtain ⟨fuel, hf⟩ := h
  rcases open_slice Tryd.underlying39 hf with ⟨hcs, _⟩ | ⟨a, l, c, m, n, D, Pl, hcs, _, hl, hm, hmm, hx, hcell⟩
  · simp [Value.cells] at hcs
    obtain ⟨rfl, rfl, rfl⟩ := hcs
    exact ⟨[], none, 0, rfl, by simp, by unfold maxLen; omega, fun hp => absurd hp (Nat.not_lt_zero _)⟩
  · simp [Value.cells] at hcs
    obtain ⟨rfl, rfl, rfl⟩ := hcs
    by_cases h0 : len = 0
    · subst h0
      exact ⟨[], _, _, rfl, by simp, hm, fun hp => absurd hp (Nat.not_lt_zero _)⟩
    have hm2 : m = cap := by simpa using hmm
    subst hm2
    have k5 : Tryd.prog.cellsOf 26 = 5 := by kernel_rfl
    rw [k5] at hx hcell
    simp only [Prod.mk.injEq] at hx
    obtain ⟨b, off, spot⟩ := a
    have hspot : spot = none := by
      obtain ⟨cs', h1, h2⟩ := hcell 0 (by omega)
      obtain ⟨_, hlen, hc⟩ := World.cells?_some h1
      obtain ⟨q, rfl⟩ := trod_version hlen h2
      have c0 : W.cell? (((⟨b, off, spot⟩ : Addr).add (0 * 5)).add 0) = some (.int .i64 q.1) := by simpa [verC] using hc 0 (by omega)
      simpa [Addr.add] using World.cell?_spot c0
    subst hspot
    have each : ∀ i, i < len → ∃ q : Ver, VerAt W b (off + i * 5) q := by
      intro i hi
      obtain ⟨cs', h1, h2⟩ := hcell i (by omega)
      obtain ⟨_, hlen, hc⟩ := World.cells?_some h1
      obtain ⟨q, rfl⟩ := trod_version hlen h2
      have ad : ∀ j, ((⟨b, off, none⟩ : Addr).add (i * 5)).add j = ⟨b, off + i * 5 + j, none⟩ := by
        intro j
        rw [add_add]
        unfold Addr.add
        split
        · rename_i h9
          have e1 : off + i * 5 + j = off := by omega
          rw [e1]
        · rw [Nat.add_assoc]
      have c0 := hc 0 (by omega)
      have c1 := hc 1 (by omega)
      have c2 := hc 2 (by omega)
      have c3 := hc 3 (by omega)
      have c4 := hc 4 (by omega)
      rw [ad] at c0 c1 c2 c3 c4
      exact ⟨q, by simpa [verC] using c0, by simpa [verC] using c1, by simpa [verC] using c2, by simpa [verC] using c3, by simpa [verC] using c4⟩
    obtain ⟨q, hq⟩ := choose_lt (α := Ver) each
    refine ⟨(List.range len).map q, some ⟨b, off, none⟩, m, by simp, by simpa using hl, hm, fun _ => ⟨b, off, rfl, hlt (.cell b off) ?_, fun i hi => ?_⟩⟩
    · rw [hx.2]
      exact List.mem_append.2 (.inl (MemPlace.mem_row.2 ⟨0, by omega, by simp⟩))
    · have hi' : i < len := by simpa using hi
      have e1 : vat ((List.range len).map q) i = q i := by simp [vat, List.getD, hi']
      rw [e1]
      exact hq i hi'

end Go.Proofs.YtkmmifonandkoaaDoor

/-
  Entries that came in, in a slice.
-/
set_option linter.unusedVariables false
namespace Go.Proofs.YtkmmifonandkoaaDoor
open Go.RowKit Go.ChangeShapes Go.WideShapes Go.Deep

set_option maxRecDepth 100000 in
/-- The chain's cell. -/
theorem trod_versions {H : Type} {enc : TypeId × Value → H} {W : World} {hd : Bool} {fuel : Nat} {cs : List Value} {d : DataW H} {p : List MemPlace} (hf : DataW.trod enc Tryd.prog W 0 (fun _ => true) hd fuel 39 cs = some (d, p)) (hlt : ∀ x ∈ p, x.block < W.heap.size) : ∃ (v : Value) (l : List Ver), cs = [v] ∧ Vers W v l := by
  rcases open_slice Tryd.underlying39 hf with ⟨hcs, _⟩ | ⟨a, len, cap, m, n, D, Pl, hcs, _, hl, hm, hmm, hx, hcell⟩
  · exact ⟨_, [], hcs, none, 0, rfl, by simp, by unfold maxLen; omega, fun hp => absurd hp (Nat.not_lt_zero _)⟩
  · subst hcs
    by_cases h0 : len = 0
    · subst h0
      exact ⟨_, [], rfl, _, _, rfl, by simp, hm, fun hp => absurd hp (Nat.not_lt_zero _)⟩
    have hm2 : m = cap := by simpa using hmm
    subst hm2
    have k5 : Tryd.prog.cellsOf 26 = 5 := by kernel_rfl
    rw [k5] at hx hcell
    simp only [Prod.mk.injEq] at hx
    obtain ⟨b, off, spot⟩ := a
    have hspot : spot = none := by
      obtain ⟨cs', h1, h2⟩ := hcell 0 (by omega)
      obtain ⟨_, hlen, hc⟩ := World.cells?_some h1
      obtain ⟨q, rfl⟩ := trod_version hlen h2
      have c0 : W.cell? (((⟨b, off, spot⟩ : Addr).add (0 * 5)).add 0) = some (.int .i64 q.1) := by simpa [verC] using hc 0 (by omega)
      simpa [Addr.add] using World.cell?_spot c0
    subst hspot
    have each : ∀ i, i < len → ∃ q : Ver, VerAt W b (off + i * 5) q := by
      intro i hi
      obtain ⟨cs', h1, h2⟩ := hcell i (by omega)
      obtain ⟨_, hlen, hc⟩ := World.cells?_some h1
      obtain ⟨q, rfl⟩ := trod_version hlen h2
      have ad : ∀ j, ((⟨b, off, none⟩ : Addr).add (i * 5)).add j = ⟨b, off + i * 5 + j, none⟩ := by
        intro j
        rw [add_add]
        unfold Addr.add
        split
        · rename_i h9
          have e1 : off + i * 5 + j = off := by omega
          rw [e1]
        · rw [Nat.add_assoc]
      have c0 := hc 0 (by omega)
      have c1 := hc 1 (by omega)
      have c2 := hc 2 (by omega)
      have c3 := hc 3 (by omega)
      have c4 := hc 4 (by omega)
      rw [ad] at c0 c1 c2 c3 c4
      exact ⟨q, by simpa [verC] using c0, by simpa [verC] using c1, by simpa [verC] using c2, by simpa [verC] using c3, by simpa [verC] using c4⟩
    obtain ⟨q, hq⟩ := choose_lt (α := Ver) each
    refine ⟨_, (List.range len).map q, rfl, some ⟨b, off, none⟩, m, by simp, by simpa using hl, hm, fun _ => ⟨b, off, rfl, hlt (.cell b off) ?_, fun i hi => ?_⟩⟩
    · rw [hx.2]
      exact List.mem_append.2 (.inl (MemPlace.mem_row.2 ⟨0, by omega, by simp⟩))
    · have hi' : i < len := by simpa using hi
      have e1 : vat ((List.range len).map q) i = q i := by simp [vat, List.getD, hi']
      rw [e1]
      exact hq i hi'
theorem trod_entry {H : Type} {enc : TypeId × Value → H} {W : World} {hd : Bool} {fuel : Nat} {cs : List Value} {d : DataW H} {p : List MemPlace} (hl : cs.length = 2)
    (h : DataW.trod enc Tryd.prog W 0 (fun _ => true) hd fuel 60 cs = some (d, p)) (hlt : ∀ x ∈ p, x.block < W.heap.size) : ∃ (k : ByteArray) (v : Value) (l : List Ver), cs = [.string k, v] ∧ Vers W v l := by
  match cs, hl with
  | [v0, v1], _ =>
    obtain ⟨y0, y1, n, hx, _, h0, h1⟩ := ChangeShapes.trod_struct2 Tryd.underlying60 h
    have kt : Tryd.prog.cellsOf 9 = 1 := by kernel_rfl
    have ks : Tryd.prog.cellsOf 39 = 1 := by kernel_rfl
    have g0 : DataW.trod enc Tryd.prog W 0 (fun _ => true) hd n 9 (([v0, v1].drop 0).take (Tryd.prog.cellsOf 9)) = some y0 := h0
    have g1 : DataW.trod enc Tryd.prog W 0 (fun _ => true) hd n 39 (([v0, v1].drop 1).take (Tryd.prog.cellsOf 39)) = some y1 := h1
    rw [kt] at g0
    rw [ks] at g1
    obtain ⟨s, f0, _⟩ := DataW.trod_string Tryd.underlying9 g0
    obtain ⟨d1, p1⟩ := y1
    simp only [Prod.mk.injEq] at hx
    obtain ⟨v, l, f1, hv⟩ := trod_versions g1 (fun x hx1 => hlt x (by rw [hx.2]; exact List.mem_append.2 (.inr hx1)))
    simp only [List.drop, List.take, List.cons.injEq, and_true] at f0 f1
    subst f0; subst f1
    exact ⟨s, v1, l, rfl, hv⟩

set_option maxRecDepth 100000 in
theorem open_entries {H : Type} {enc : TypeId × Value → H} {W : World} {b0 : Nat} {r : Reach} {hd : Bool} {v : Value} {d : DataW H} {p : List MemPlace} (hv : Value.okWide Tryd.prog W r b0 22 v)
    (h : DataW.Trod enc Tryd.prog W 0 (fun _ => true) hd 22 v d p) (hlt : ∀ x ∈ p, x.block < W.heap.size) : ∃ l : List Ent, Ents W v l := by
  obtain ⟨o, len, cap, rfl⟩ := okWide_slice Tryd.underlying22 hv
  obtain ⟨fuel, hf⟩ := h
  have hnil : ∀ ao c, c ≤ maxLen → Ents W (.slice ao 0 c) [] := fun ao c hc => ⟨[], ⟨ao, c, rfl, by simp, hc, fun hp => absurd hp (Nat.not_lt_zero _)⟩, rfl, fun i hi => absurd hi (Nat.not_lt_zero _)⟩
  rcases open_slice Tryd.underlying22 hf with ⟨hcs, _⟩ | ⟨a, l, c, m, n, D, Pl, hcs, _, hl, hm, hmm, hx, hcell⟩
  · simp [Value.cells] at hcs
    obtain ⟨rfl, rfl, rfl⟩ := hcs
    exact ⟨[], hnil _ _ (by unfold maxLen; omega)⟩
  · simp [Value.cells] at hcs
    obtain ⟨rfl, rfl, rfl⟩ := hcs
    by_cases h0 : len = 0
    · subst h0
      exact ⟨[], hnil _ _ hm⟩
    have hm2 : m = cap := by simpa using hmm
    subst hm2
    have k2 : Tryd.prog.cellsOf 60 = 2 := by kernel_rfl
    rw [k2] at hx hcell
    simp only [Prod.mk.injEq] at hx
    have hltP : ∀ i, i < m → ∀ x ∈ Pl i, x.block < W.heap.size := fun i hi x hxi => hlt x (by
      rw [hx.2]
      exact List.mem_append.2 (.inr (List.mem_flatMap.2 ⟨i, List.mem_range.2 hi, hxi⟩)))
    obtain ⟨b, off, spot⟩ := a
    have hspot : spot = none := by
      obtain ⟨cs', h1, h2⟩ := hcell 0 (by omega)
      obtain ⟨_, hlen, hc⟩ := World.cells?_some h1
      obtain ⟨k, q, ql, rfl, _⟩ := trod_entry hlen h2 (hltP 0 (by omega))
      have c0 : W.cell? (((⟨b, off, spot⟩ : Addr).add (0 * 2)).add 0) = some (.string k) := by simpa using hc 0 (by omega)
      simpa [Addr.add] using World.cell?_spot c0
    subst hspot
    have each : ∀ i, i < len → ∃ q : EntV × List Ver, EntAt W b (off + i * 2) q.1 ∧ Vers W q.1.2 q.2 := by
      intro i hi
      obtain ⟨cs', h1, h2⟩ := hcell i (by omega)
      obtain ⟨_, hlen, hc⟩ := World.cells?_some h1
      obtain ⟨k, q, ql, rfl, hq⟩ := trod_entry hlen h2 (hltP i (by omega))
      have ad : ∀ j, ((⟨b, off, none⟩ : Addr).add (i * 2)).add j = ⟨b, off + i * 2 + j, none⟩ := by
        intro j
        rw [add_add]
        unfold Addr.add
        split
        · rename_i h9
          have e1 : off + i * 2 + j = off := by omega
          rw [e1]
        · rw [Nat.add_assoc]
      have c0 := hc 0 (by omega)
      have c1 := hc 1 (by omega)
      rw [ad] at c0 c1
      exact ⟨((k, q), ql), ⟨by simpa using c0, by simpa using c1⟩, hq⟩
    obtain ⟨q, hq⟩ := choose_lt (α := EntV × List Ver) each
    refine ⟨(List.range len).map fun i => ((q i).1.1, (q i).2), (List.range len).map fun i => (q i).1, ⟨some ⟨b, off, none⟩, m, by simp, by simpa using hl, hm, fun _ => ⟨b, off, rfl, hlt (.cell b off) ?_, fun i hi => ?_⟩⟩, by simp, fun i hi => ?_⟩
    · rw [hx.2]
      exact List.mem_append.2 (.inl (MemPlace.mem_row.2 ⟨0, by omega, by simp⟩))
    · have hi' : i < len := by simpa using hi
      have e1 : eat ((List.range len).map fun i => (q i).1) i = (q i).1 := by simp [eat, List.getD, hi']
      rw [e1]
      exact (hq i hi').1
    · have hi' : i < len := by simpa using hi
      have e1 : eat ((List.range len).map fun i => (q i).1) i = (q i).1 := by simp [eat, List.getD, hi']
      have e2 : lat ((List.range len).map fun i => ((q i).1.1, (q i).2)) i = ((q i).1.1, (q i).2) := by simp [lat, List.getD, hi']
      rw [e1, e2]
      exact ⟨rfl, (hq i hi').2⟩

end Go.Proofs.YtkmmifonandkoaaDoor
