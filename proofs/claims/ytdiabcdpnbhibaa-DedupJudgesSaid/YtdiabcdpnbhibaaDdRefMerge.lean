/-
  The contract of the document's Merge of tables.
-/
import Derived.Test.YtdiabcdpnbhibaaDdRefPut
set_option linter.unusedVariables false
namespace Go.Proofs.Ytdiabcdpnbhibaa
open Go.RowKit

theorem take_dat {l : List Dn} {k : Nat} (h : k < l.length) : l.take (k + 1) = l.take k ++ [dat l k] := by
  rw [List.take_succ_eq_append_getElem h, dat_get h]
theorem filt_yes {l : List Dn} {k : Nat} {p : Dn → Bool} (h : k < l.length) (hp : p (dat l k) = true) : (l.take (k + 1)).filter p = (l.take k).filter p ++ [dat l k] := by
  rw [take_dat h, List.filter_append]
  simp [hp]
theorem filt_no {l : List Dn} {k : Nat} {p : Dn → Bool} (h : k < l.length) (hp : p (dat l k) = false) : (l.take (k + 1)).filter p = (l.take k).filter p := by
  rw [take_dat h, List.filter_append]
  simp [hp]
/-- What merging gives, and the error's number. -/
def IsDMerge (a b m : List Dn) (e : Int) : Prop :=
  ((rightT a = false ∨ rightT b = false) ∧ m = [] ∧ e = 1) ∨
  (rightT a = true ∧ rightT b = true ∧ 8 < (unT a b).length ∧ m = [] ∧ e = 6) ∨
  (rightT a = true ∧ rightT b = true ∧ (unT a b).length ≤ 8 ∧ IsMerged a b m ∧ e = 0)
/-- The rows of one's own so far. -/
def MgOwn (w : World) (lv : Value) (m : List Dn) (W : World) : Prop := ∃ es : List DnV, OwnsD W w.heap.size lv es ∧ es.map Prod.fst = m ∧ Below w.heap.size w W
theorem MgOwn.next {w W W' : World} {lv : Value} {m : List Dn} (H : MgOwn w lv m W) (hb : Below W.heap.size W W') : MgOwn w lv m W' := by
  obtain ⟨es, h1, h2, h3⟩ := H
  exact ⟨es, h1.next hb, h2, h3.trans (hb.mono h3.size)⟩
/-- A row that lies somewhere, and the rows of one's own. -/
def MgRel (w : World) (b o : Nat) (d : DnV) (lv : Value) (m : List Dn) (W : World) : Prop := b < w.heap.size ∧ DnAt W b o d ∧ MgOwn w lv m W
theorem MgRel.below {w W : World} {b o : Nat} {d : DnV} {lv : Value} {m : List Dn} (H : MgRel w b o d lv m W) : Below w.heap.size w W := by obtain ⟨_, _, es, _, _, h⟩ := H; exact h
theorem MgRel.next {w W W' : World} {b o : Nat} {d : DnV} {lv : Value} {m : List Dn} (H : MgRel w b o d lv m W) (hb : Below W.heap.size W W') : MgRel w b o d lv m W' := by
  have h1 := H.below.size
  exact ⟨H.1, H.2.1.next hb (by have := H.1; omega), H.2.2.next hb⟩
theorem mg_tab {w W : World} {lv : Value} {m : List Dn} (H : MgOwn w lv m W) : Tab W lv m := by
  obtain ⟨es, h1, h2, _⟩ := H
  exact own_tab h1 h2

set_option maxRecDepth 100000 in
set_option maxHeartbeats 400000 in
theorem refMerge_bad (w : World) (va vb : Value) (g1 g2 : Bool) (hbad : g1 = false ∨ g2 = false) (HA : Hid (∀ W, Below w.heap.size w W → Calls Try.prog 10 #[va] W fun e w' => e = .returned (.bool g1) ∧ Below W.heap.size W w'))
    (HB : Hid (∀ W, Below w.heap.size w W → Calls Try.prog 10 #[vb] W fun e w' => e = .returned (.bool g2) ∧ Below W.heap.size W w')) :
    Calls Try.prog 20 #[va, vb] w fun e w' => e = .returned (.tuple #[.slice none 0 0, .int .i64 1]) ∧ Below w.heap.size w w' := by
  cases g1
  · clear hbad
    go_enter Try.func20, Try.ntmps20
    go_wp2_with fail
    refine (HA.out _ (Below.refl _ _)).mono ?_
    rintro e w1 ⟨rfl, hb1⟩
    go_wp2_with fail
    go_ret2
    exact ⟨rfl, hb1⟩
  · obtain rfl : g2 = false := by rcases hbad with h | h; cases h; exact h
    clear hbad
    go_enter Try.func20, Try.ntmps20
    go_wp2_with fail
    refine (HA.out _ (Below.refl _ _)).mono ?_
    rintro e w1 ⟨rfl, hb1⟩
    go_wp2_with fail
    refine (HB.out _ hb1).mono ?_
    rintro e w2 ⟨rfl, hb2⟩
    have hb := hb1.trans (hb2.mono hb1.size)
    go_wp2_with fail
    go_ret2
    exact ⟨rfl, hb⟩

set_option maxRecDepth 100000 in
set_option maxHeartbeats 4000000 in
theorem refMerge_right {w : World} {va vb : Value} {a b m : List Dn} {er : Int} (hva : Tab w va a) (hvb : Tab w vb b) (hra : rightT a = true) (hrb : rightT b = true) (hm : (8 < (unT a b).length ∧ m = [] ∧ er = 6) ∨ ((unT a b).length ≤ 8 ∧ IsMerged a b m ∧ er = 0)) :
    Calls Try.prog 20 #[va, vb] w fun e w' => ∃ v', e = .returned (.tuple #[v', .int .i64 er]) ∧ SoEnd w m v' w' := by
  have HRA : Hid (∀ W, Below w.heap.size w W → Calls Try.prog 10 #[va] W fun e w' => e = .returned (.bool true) ∧ Below W.heap.size W w') := fun W hW => by rw [← hra]; exact refTRight_any (hva.next hW)
  have HRB : Hid (∀ W, Below w.heap.size w W → Calls Try.prog 10 #[vb] W fun e w' => e = .returned (.bool true) ∧ Below W.heap.size W w') := fun W hW => by rw [← hrb]; exact refTRight_any (hvb.next hW)
  have HQA : Hid (∀ W c, Below w.heap.size w W → Calls Try.prog 25 #[va, .int .i64 c] W fun e w' => e = .returned (.int .i64 (reqT a c)) ∧ w' = W) := fun W c hW => refReq_any (hva.next hW) c
  have HQB : Hid (∀ W c, Below w.heap.size w W → Calls Try.prog 25 #[vb, .int .i64 c] W fun e w' => e = .returned (.int .i64 (reqT b c)) ∧ w' = W) := fun W c hW => refReq_any (hvb.next hW) c
  have HSO : Hid (∀ W u, IsMerged a b m → (unT a b).length ≤ 8 → Tab W u (unT a b) → Calls Try.prog 30 #[u] W fun e w' => ∃ v', e = .returned v' ∧ SoEnd W m v' w') := fun W u h1 h2 hu => refSorted_any hu ((merged_iff (right_parts hra).2.2 (right_parts hrb).2.2).1 h1) (by omega)
  obtain ⟨i0, hii, hz0, hz1, hz2⟩ := info_parts info_dn
  obtain ⟨ao, na, cap, es0, rfl, hl, hle, hmx, hn, hrow, hmap⟩ := hva.opened
  obtain ⟨ao', nb, cap', es1, rfl, hl', hle', hmx', hn', hrow', hmap'⟩ := hvb.opened
  have HL := Lib.hid hl
  have HL' := Lib.hid hl'
  have HR := Lib.hid hrow
  have HR' := Lib.hid hrow'
  have HE := Lib.hid hmap
  have HE' := Lib.hid hmap'
  have H8 : Hid (na ≤ 8 ∧ nb ≤ 8) := ⟨by rw [← hl]; exact (rightT_spec hra).1, by rw [← hl']; exact (rightT_spec hrb).1⟩
  clear hl hl' hrow hrow' hmap hmap' hle hle' hmx hmx' hva hvb hra hrb
  go_enter Try.func20, Try.ntmps20
  go_wp2_with fail
  refine (HRA.out _ (Below.refl _ _)).mono ?_
  rintro e w1 ⟨rfl, hb1⟩
  have HB1 := Lib.hid hb1
  clear hb1 HRA
  go_wp2_with fail
  refine (HRB.out _ HB1.out).mono ?_
  rintro e w2 ⟨rfl, hb2⟩
  have HB2 : Hid (Below w.heap.size w w2) := HB1.out.trans (hb2.mono HB1.out.size)
  clear hb2 HB1 HRB
  go_wp2_with fail
  go_loopw [6, 7] (fun lv i wr => ∃ k : Nat, k ≤ na ∧ i = .int .i64 k ∧ Hid (MgOwn w lv ((a.take (k)).filter (fun x => decide (reqT b (dC x) ≤ dR x))) wr)) (fun _ i _ => na - (intOf i).toNat)
  case atStart => exact ⟨0, Nat.zero_le _, rfl, [], OwnsD.nil _ _, rfl, HB2.out⟩
  case round =>
    obtain ⟨k, hk, rfl, hown⟩ := hrel
    rename World => W5
    by_cases hlt : k < na
    · obtain ⟨b1, off1, rfl, hb1, hcl⟩ := HR.out (by omega)
      have hkl : k < a.length := by rw [HL.out]; exact hlt
      obtain ⟨ms, hms⟩ : ∃ ms, ms = ((a.take (k)).filter (fun x => decide (reqT b (dC x) ≤ dR x))) := ⟨_, rfl⟩
      rw [← hms] at hown
      have HMS := Lib.hid hms
      obtain ⟨d, hd⟩ : ∃ d, d = det es0 k := ⟨_, rfl⟩
      have hdk : d.1 = dat a k := by rw [hd]; exact det_map HE.out k
      obtain ⟨lw, hlw⟩ : ∃ lw, lw = u6 := ⟨_, rfl⟩
      have H2 : Hid (MgRel w b1 (off1 + k * 11) d lw ms W5) := by
        have hbel : Below w.heap.size w W5 := by obtain ⟨_, _, _, h⟩ := hown.out; exact h
        exact ⟨hb1, by rw [hd]; exact (hcl k hlt).next hbel hb1, by rw [hlw]; exact hown.out⟩
      obtain ⟨⟨c, r, e, ⟨x, y, z⟩, f, vv, ni, nx, mo⟩, ai, ci⟩ := d
      have HDK : Hid (dat a k = (c, r, e, (x, y, z), f, vv, ni, nx, mo)) := hdk.symm
      have HKL := Lib.hid hkl
      obtain ⟨q, hq⟩ : ∃ q, q = reqT b c := ⟨_, rfl⟩
      have HQ : Hid (∀ W, Below w.heap.size w W → Calls Try.prog 25 #[.slice ao' nb cap', .int .i64 c] W fun e w' => e = .returned (.int .i64 q) ∧ w' = W) := fun W hW => by rw [hq]; exact HQB.out W c hW
      have HP : Hid ((fun x => decide (reqT b (dC x) ≤ dR x)) (c, r, e, (x, y, z), f, vv, ni, nx, mo) = decide (q ≤ r)) := by show _ = _; rw [hq]; rfl
      have HML : Hid (ms.length ≤ 16) := by
        show _ ≤ _
        rw [hms]
        refine Nat.le_trans (List.length_filter_le _ _) ?_
        rw [List.length_take]
        have := H8.out.1
        have := HL.out
        omega
      have q4 : k < na := hlt
      clear hd hdk hcl hkl hms hq hown
      rw [← hlw]
      clear hlw
      go_upto_region 7 with (fail)
      refine wp_region_calm (MgRel w b1 (off1 + k * 11) ((c, r, e, (x, y, z), f, vv, ni, nx, mo), ai, ci) lw ms) (by kernel_rfl) (by kernel_rfl) (H2.out.next ((Below.refl _ _).drew)) ?_
      repeat ((with_reducible refine wpQuiet_step (fun K hK => ?_)); go_simp; first | (refine hK _ ?_; clear hK K) | (apply Exists.intro; refine ⟨fun wc hwc => ?_, hK _ ?_⟩; (focus (first | (first | (go_at_call 25; refine (HQ.out _ hwc.below).mono ?_; rintro e' w3 ⟨rfl, rfl⟩; exact ⟨rfl, hwc⟩)) | (((obtain ⟨_, ⟨x0, x1, x2, x3, x4, x5, x6, x7, x8, x9, x10⟩, _⟩ := hwc; dsimp only at x0 x1 x2 x3 x4 x5 x6 x7 x8 x9 x10)); go_simp; done) | (((obtain ⟨_, ⟨x0, x1, x2, x3, x4, x5, x6, x7, x8, x9, x10⟩, _⟩ := hwc; dsimp only at x0 x1 x2 x3 x4 x5 x6 x7 x8 x9 x10)); go_simp; exact rfl))); clear hK K))
      refine wpQuiet_nil ?_
      intro wc hwc
      have H3 := Lib.hid hwc
      clear hwc H2
      cases hp : decide (q ≤ r)
      · have HM2 : Hid (MgOwn w lw ((a.take (k + 1)).filter (fun x => decide (reqT b (dC x) ≤ dR x))) wc) := by
          show MgOwn _ _ _ _
          rw [filt_no HKL.out (by rw [HDK.out]; exact HP.out.trans hp), ← HMS.out]
          exact H3.out.2.2
        go_wp2_with fail
        go_roundw
        case rel => exact ⟨k + 1, by omega, by go_num, HM2⟩
        case measure => simp [intOf]; omega
      · have HM2 : Hid (((a.take (k + 1)).filter (fun x => decide (reqT b (dC x) ≤ dR x))) = ms ++ [(c, r, e, (x, y, z), f, vv, ni, nx, mo)]) := by
          show _ = _
          rw [filt_yes HKL.out (by rw [HDK.out]; exact HP.out.trans hp), ← HMS.out, HDK.out]
        obtain ⟨x0, x1, x2, x3, x4, x5, x6, x7, x8, x9, x10⟩ := H3.out.2.1
        dsimp only at x0 x1 x2 x3 x4 x5 x6 x7 x8 x9 x10
        obtain ⟨es, hes, hmap, hbel⟩ := H3.out.2.2
        have hel : es.length ≤ 16 := by
          have h9 := congrArg List.length hmap
          rw [List.length_map] at h9
          rw [h9]; exact HML.out
        have hown : wc.ownsRow w.heap.size 33 11 lw es.length (dnsC es) := hes
        have hsz := hbel.size
        go_wp2_with (at_builtin; refine wpList_append_own _ rfl _ _ 22 rfl w.heap.size 33 i0 _ 11 120 Try.underlying22 hii hz0 hz1 hz2 rfl (by decide) _ _ _ rfl (hown.alloc _) ⟨wc.heap.size, 0, none⟩ 1 1 (dnC ((c, r, e, (x, y, z), f, vv, ni, nx, mo), ai, ci)) rfl rfl (dn_new wc ((c, r, e, (x, y, z), f, vv, ni, nx, mo), ai, ci)) (dnC_one _) (by unfold maxLen; omega) (by omega) (by simp; omega) ?_; intro v' w3 hown1 hgrow1 _)
        have hb2 := (hbel.alloc hsz _).grown hgrow1 (by simp; omega) (fun i hi => (hown.lt i hi).1)
        rw [dnsC_snoc] at hown1
        have hown2 : MgOwn w v' ((a.take (k + 1)).filter (fun x => decide (reqT b (dC x) ≤ dR x))) w3 := by
          refine ⟨es ++ [((c, r, e, (x, y, z), f, vv, ni, nx, mo), ai, ci)], ?_, ?_, hb2⟩
          · unfold OwnsD
            rw [List.length_append, List.length_singleton]
            exact hown1
          · rw [List.map_append, hmap, HM2.out]; rfl
        exact ⟨⟨k + 1, by omega, by go_num, hown2⟩, by simp [intOf]; omega⟩
    · obtain rfl : na = k := by omega
      have hown0 : Hid (MgOwn w u6 (a.filter (fun x => decide (reqT b (dC x) ≤ dR x)) ++ ((b.take 0).filter (fun x => decide (reqT a (dC x) < dR x)))) W5) := by
        have := hown.out
        rw [List.take_of_length_le (by rw [HL.out]; exact Nat.le_refl _)] at this
        show MgOwn _ _ _ _
        rw [List.take_zero, List.filter_nil, List.append_nil]
        exact this
      clear hown
      go_wp2_with fail
      go_loopw [6, 8] (fun lv i wr => ∃ k : Nat, k ≤ nb ∧ i = .int .i64 k ∧ Hid (MgOwn w lv (a.filter (fun x => decide (reqT b (dC x) ≤ dR x)) ++ ((b.take (k)).filter (fun x => decide (reqT a (dC x) < dR x)))) wr)) (fun _ i _ => nb - (intOf i).toNat)
      case atStart => exact ⟨0, Nat.zero_le _, rfl, hown0.out⟩
      case round =>
        obtain ⟨k, hk, rfl, hown⟩ := hrel
        rename World => W5
        by_cases hlt : k < nb
        · obtain ⟨b1, off1, rfl, hb1, hcl⟩ := HR'.out (by omega)
          have hkl : k < b.length := by rw [HL'.out]; exact hlt
          obtain ⟨ms, hms⟩ : ∃ ms, ms = (a.filter (fun x => decide (reqT b (dC x) ≤ dR x)) ++ ((b.take (k)).filter (fun x => decide (reqT a (dC x) < dR x)))) := ⟨_, rfl⟩
          rw [← hms] at hown
          have HMS := Lib.hid hms
          obtain ⟨d, hd⟩ : ∃ d, d = det es1 k := ⟨_, rfl⟩
          have hdk : d.1 = dat b k := by rw [hd]; exact det_map HE'.out k
          obtain ⟨lw, hlw⟩ : ∃ lw, lw = u6 := ⟨_, rfl⟩
          have H2 : Hid (MgRel w b1 (off1 + k * 11) d lw ms W5) := by
            have hbel : Below w.heap.size w W5 := by obtain ⟨_, _, _, h⟩ := hown.out; exact h
            exact ⟨hb1, by rw [hd]; exact (hcl k hlt).next hbel hb1, by rw [hlw]; exact hown.out⟩
          obtain ⟨⟨c, r, e, ⟨x, y, z⟩, f, vv, ni, nx, mo⟩, ai, ci⟩ := d
          have HDK : Hid (dat b k = (c, r, e, (x, y, z), f, vv, ni, nx, mo)) := hdk.symm
          have HKL := Lib.hid hkl
          obtain ⟨q, hq⟩ : ∃ q, q = reqT a c := ⟨_, rfl⟩
          have HQ : Hid (∀ W, Below w.heap.size w W → Calls Try.prog 25 #[.slice ao na cap, .int .i64 c] W fun e w' => e = .returned (.int .i64 q) ∧ w' = W) := fun W hW => by rw [hq]; exact HQA.out W c hW
          have HP : Hid ((fun x => decide (reqT a (dC x) < dR x)) (c, r, e, (x, y, z), f, vv, ni, nx, mo) = decide (q < r)) := by show _ = _; rw [hq]; rfl
          have HML : Hid (ms.length ≤ 16) := by
            show _ ≤ _
            rw [hms]
            rw [List.length_append]
            have h5 := List.length_filter_le ((fun x => decide (reqT b (dC x) ≤ dR x))) a
            have h6 := List.length_filter_le (fun x => decide (reqT a (dC x) < dR x)) (b.take k)
            rw [List.length_take] at h6
            have := H8.out
            have := HL.out
            have := HL'.out
            omega
          have q4 : k < nb := hlt
          clear hd hdk hcl hkl hms hq hown
          rw [← hlw]
          clear hlw
          go_upto_region 12 with (fail)
          refine wp_region_calm (MgRel w b1 (off1 + k * 11) ((c, r, e, (x, y, z), f, vv, ni, nx, mo), ai, ci) lw ms) (by kernel_rfl) (by kernel_rfl) (H2.out.next ((Below.refl _ _).drew)) ?_
          repeat ((with_reducible refine wpQuiet_step (fun K hK => ?_)); go_simp; first | (refine hK _ ?_; clear hK K) | (apply Exists.intro; refine ⟨fun wc hwc => ?_, hK _ ?_⟩; (focus (first | (first | (go_at_call 25; refine (HQ.out _ hwc.below).mono ?_; rintro e' w3 ⟨rfl, rfl⟩; exact ⟨rfl, hwc⟩)) | (((obtain ⟨_, ⟨x0, x1, x2, x3, x4, x5, x6, x7, x8, x9, x10⟩, _⟩ := hwc; dsimp only at x0 x1 x2 x3 x4 x5 x6 x7 x8 x9 x10)); go_simp; done) | (((obtain ⟨_, ⟨x0, x1, x2, x3, x4, x5, x6, x7, x8, x9, x10⟩, _⟩ := hwc; dsimp only at x0 x1 x2 x3 x4 x5 x6 x7 x8 x9 x10)); go_simp; exact rfl))); clear hK K))
          refine wpQuiet_nil ?_
          intro wc hwc
          have H3 := Lib.hid hwc
          clear hwc H2
          cases hp : decide (q < r)
          · have HM2 : Hid (MgOwn w lw (a.filter (fun x => decide (reqT b (dC x) ≤ dR x)) ++ ((b.take (k + 1)).filter (fun x => decide (reqT a (dC x) < dR x)))) wc) := by
              show MgOwn _ _ _ _
              rw [filt_no HKL.out (by rw [HDK.out]; exact HP.out.trans hp), ← HMS.out]
              exact H3.out.2.2
            go_wp2_with fail
            go_roundw
            case rel => exact ⟨k + 1, by omega, by go_num, HM2⟩
            case measure => simp [intOf]; omega
          · have HM2 : Hid ((a.filter (fun x => decide (reqT b (dC x) ≤ dR x)) ++ ((b.take (k + 1)).filter (fun x => decide (reqT a (dC x) < dR x)))) = ms ++ [(c, r, e, (x, y, z), f, vv, ni, nx, mo)]) := by
              show _ = _
              rw [filt_yes HKL.out (by rw [HDK.out]; exact HP.out.trans hp), ← List.append_assoc, ← HMS.out, HDK.out]
            obtain ⟨x0, x1, x2, x3, x4, x5, x6, x7, x8, x9, x10⟩ := H3.out.2.1
            dsimp only at x0 x1 x2 x3 x4 x5 x6 x7 x8 x9 x10
            obtain ⟨es, hes, hmap, hbel⟩ := H3.out.2.2
            have hel : es.length ≤ 16 := by
              have h9 := congrArg List.length hmap
              rw [List.length_map] at h9
              rw [h9]; exact HML.out
            have hown : wc.ownsRow w.heap.size 33 11 lw es.length (dnsC es) := hes
            have hsz := hbel.size
            go_wp2_with (at_builtin; refine wpList_append_own _ rfl _ _ 22 rfl w.heap.size 33 i0 _ 11 120 Try.underlying22 hii hz0 hz1 hz2 rfl (by decide) _ _ _ rfl (hown.alloc _) ⟨wc.heap.size, 0, none⟩ 1 1 (dnC ((c, r, e, (x, y, z), f, vv, ni, nx, mo), ai, ci)) rfl rfl (dn_new wc ((c, r, e, (x, y, z), f, vv, ni, nx, mo), ai, ci)) (dnC_one _) (by unfold maxLen; omega) (by omega) (by simp; omega) ?_; intro v' w3 hown1 hgrow1 _)
            have hb2 := (hbel.alloc hsz _).grown hgrow1 (by simp; omega) (fun i hi => (hown.lt i hi).1)
            rw [dnsC_snoc] at hown1
            have hown2 : MgOwn w v' (a.filter (fun x => decide (reqT b (dC x) ≤ dR x)) ++ ((b.take (k + 1)).filter (fun x => decide (reqT a (dC x) < dR x)))) w3 := by
              refine ⟨es ++ [((c, r, e, (x, y, z), f, vv, ni, nx, mo), ai, ci)], ?_, ?_, hb2⟩
              · unfold OwnsD
                rw [List.length_append, List.length_singleton]
                exact hown1
              · rw [List.map_append, hmap, HM2.out]; rfl
            exact ⟨⟨k + 1, by omega, by go_num, hown2⟩, by simp [intOf]; omega⟩
        · obtain rfl : nb = k := by omega
          have HX : Hid (MgOwn w u6 (unT a b) W5) := by
            have := hown.out
            rw [List.take_of_length_le (by rw [HL'.out]; exact Nat.le_refl _)] at this
            exact this
          obtain ⟨a6, c6, hlw⟩ := tab_slice (mg_tab HX.out)
          obtain ⟨k6, hk6⟩ : ∃ k6, k6 = (unT a b).length := ⟨_, rfl⟩
          rw [← hk6] at hlw
          subst hlw
          have HK6 := Lib.hid hk6
          clear hown
          rcases hm with ⟨h8, rfl, rfl⟩ | ⟨h8, hmg, rfl⟩
          · have d1 : decide (8 < (k6 : Int)) = true := decide_eq_true (by omega)
            have HEND : Hid (Below w.heap.size w W5) := by obtain ⟨_, _, _, h⟩ := HX.out; exact h
            clear hk6 h8
            go_wp2_with fail
            go_ret2
            exact ⟨_, rfl, tab_nil _, HEND.out⟩
          · have d1 : decide (8 < (k6 : Int)) = false := decide_eq_false (by omega)
            have HC : Hid (Calls Try.prog 30 #[.slice a6 k6 c6] W5 fun e w' => ∃ v', e = .returned v' ∧ SoEnd w m v' w') := by
              refine (HSO.out W5 _ hmg h8 (mg_tab HX.out)).mono ?_
              rintro e w' ⟨v', rfl, h1, h2⟩
              obtain ⟨_, _, _, h⟩ := HX.out
              exact ⟨v', rfl, h1, h.trans (h2.mono h.size)⟩
            clear hk6 h8 hmg
            go_wp2_with fail
            refine HC.out.mono ?_
            rintro e w6 ⟨v6, rfl, h6⟩
            have H6 := Lib.hid h6
            clear h6
            go_wp2_with fail
            go_ret2
            exact ⟨v6, rfl, H6.out⟩

theorem refTMerge_any {w : World} {va vb : Value} {a b m : List Dn} {er : Int} (hva : Tab w va a) (hvb : Tab w vb b) (hm : IsDMerge a b m er) :
    Calls Try.prog 20 #[va, vb] w fun e w' => ∃ v', e = .returned (.tuple #[v', .int .i64 er]) ∧ SoEnd w m v' w' := by
  rcases hm with ⟨hbad, rfl, rfl⟩ | ⟨h1, h2, h3⟩ | ⟨h1, h2, h3⟩
  · refine (refMerge_bad w va vb (rightT a) (rightT b) hbad (fun W hW => refTRight_any (hva.next hW)) (fun W hW => refTRight_any (hvb.next hW))).mono ?_
    rintro e w' ⟨rfl, hb⟩
    exact ⟨_, rfl, tab_nil _, hb⟩
  · exact refMerge_right hva hvb h1 h2 (.inl h3)
  · exact refMerge_right hva hvb h1 h2 (.inr h3)

end Go.Proofs.Ytdiabcdpnbhibaa
