/-
  The contract of the document's sorted.
-/
import Derived.Test.YtdiabcdpnbhibaaDdRefRow
import Derived.OwnWalk
set_option linter.unusedVariables false
namespace Go.Proofs.Ytdiabcdpnbhibaa
open Go.RowKit

def slen : Value → Nat
  | .slice _ n _ => n
  | _ => 0
/-- What a round of sorted knows: the rows of one's own, in order, and that there is room. -/
def SoRel (w : World) (l : List Dn) (ov : Value) (k : Nat) (W : World) : Prop := ∃ es : List DnV, OwnsD W w.heap.size ov es ∧ es.length = k ∧ SoI l (es.map Prod.fst) ∧ k + (l.filter (cand (es.map Prod.fst))).length ≤ l.length ∧ Below w.heap.size w W
def SoEnd (w : World) (m : List Dn) (v : Value) (W : World) : Prop := Tab W v m ∧ Below w.heap.size w W
theorem owns_slice {w : World} {B : Nat} {v : Value} {es : List DnV} (h : OwnsD w B v es) : ∃ ao cap, v = .slice ao es.length cap := by
  obtain ⟨ao, cap, e, _⟩ := h.tab
  exact ⟨ao, cap, e⟩

set_option maxRecDepth 100000 in
set_option maxHeartbeats 4000000 in
theorem refSorted_any {w : World} {v : Value} {l m : List Dn} (h : Tab w v l) (hs : IsSorted l m) (h90 : l.length ≤ 90) : Calls Try.prog 30 #[v] w fun e w' => ∃ v', e = .returned v' ∧ SoEnd w m v' w' := by
  obtain ⟨ao, n, cap, es0, rfl, hl, hle, hmx, hn, hrow, hmap⟩ := h.opened
  obtain ⟨i0, hii, hz0, hz1, hz2⟩ := info_parts info_dn
  have HL := Lib.hid hl
  have HR := Lib.hid hrow
  have HE := Lib.hid hmap
  have HS := Lib.hid hs
  have H90 : Hid (n ≤ 90) := by rw [← hl]; exact h90
  clear hl hrow hmap hle hmx h hs h90
  go_enter Try.func30, Try.ntmps30
  go_wp2_with fail
  go_loopw [3] (fun ov wr => ∃ (oa : Option Addr) (k c : Nat), ov = .slice oa k c ∧ k ≤ n ∧ Hid (SoRel w l (.slice oa k c) k wr)) (fun ov _ => n - slen ov)
  case atStart =>
    refine ⟨none, 0, 0, rfl, Nat.zero_le _, [], OwnsD.nil _ _, rfl, soI_nil _, ?_, Below.refl _ _⟩
    rw [Nat.zero_add]
    exact List.length_filter_le _ _
  case round =>
    obtain ⟨oa, k, oc, rfl, hk, hrel⟩ := hrel
    obtain ⟨es, hown, hlen, hso, hroom, hbel⟩ := hrel.out
    obtain ⟨out, hout⟩ : ∃ out, out = es.map Prod.fst := ⟨_, rfl⟩
    rw [← hout] at hso hroom
    have HO : Hid (OwnsD wr w.heap.size (.slice oa k oc) es ∧ Below w.heap.size w wr) := ⟨hown, hbel⟩
    have HLEN : Hid (es.length = k ∧ out.length = k) := ⟨hlen, by rw [hout, List.length_map]; exact hlen⟩
    have HSO := Lib.hid hso
    have HROOM := Lib.hid hroom
    have HOUT := Lib.hid hout
    clear hown hlen hso hroom hbel hout hrel
    go_wp2_with fail
    go_loopw [4, 5] (fun bv iv wx => ∃ (b : Int) (j : Nat), bv = .int .i64 b ∧ iv = .int .i64 j ∧ j ≤ n ∧ Hid (BestI l out j b) ∧ Hid (OwnsD wx w.heap.size (.slice oa k oc) es ∧ Below w.heap.size w wx)) (fun _ iv _ => n - (intOf iv).toNat)
    case atStart => exact ⟨-1, 0, rfl, rfl, Nat.zero_le _, best_zero _ _, HO.out⟩
    case round =>
      obtain ⟨b, j, rfl, rfl, hj, hbest, hob⟩ := hrel
      rename World => W5
      by_cases hlt : j < n
      · obtain ⟨b1, off1, rfl, hb1, hcl⟩ := HR.out (by omega)
        have HC : Hid (∀ W i, Below w.heap.size w W → i < n → W.cell? ⟨b1, off1 + i * 11, none⟩ = some (.int .i64 (dC (dat l i)))) := fun W i hW hi => by
          have h1 := ((hcl i hi).next hW hb1).1
          rw [det_c HE.out] at h1
          exact h1
        have HOC : Hid (∀ k1, k = k1 + 1 → ∃ b2 off2, oa = some ⟨b2, off2, none⟩ ∧ W5.cell? ⟨b2, off2 + k1 * 11, none⟩ = some (.int .i64 (dC (dat out k1)))) := fun k1 hk1 => by
          obtain ⟨ao2, cap2, e2, _, _, h5⟩ := hob.out.1.tab
          obtain ⟨b2, off2, e3, _, h6⟩ := h5 (by rw [HLEN.out.1]; omega)
          have h7 := (h6 k1 (by rw [HLEN.out.1]; omega)).1
          rw [det_c HOUT.out.symm] at h7
          injection e2 with e4 _ _
          exact ⟨b2, off2, by rw [e4, e3], h7⟩
        clear hcl
        have x0 : W5.drew.cell? ⟨b1, off1 + j * 11, none⟩ = some (.int .i64 (dC (dat l j))) := HC.out W5 j hob.out.2 hlt
        have HCAND : Hid (cand out (dat l j) = (decide (k = 0) || decide (dC (dat out (k - 1)) < dC (dat l j)))) := by show _ = _; unfold cand; rw [HLEN.out.2]
        have HTK : Hid (takes l out j b = (cand out (dat l j) && (decide (b < 0) || decide (dC (dat l j) < dC (dat l b.toNat))))) := rfl
        obtain ⟨cj, hcj⟩ : ∃ cj, cj = dC (dat l j) := ⟨_, rfl⟩
        rw [← hcj] at x0 HCAND HTK
        have HCJ := Lib.hid hcj
        have q4 : j < n := hlt
        clear hcj
        have hbc : b = -1 ∨ ∃ p : Nat, b = (p : Int) ∧ p < j := by
          rcases hbest.out with ⟨h1, _⟩ | ⟨p, h1, h2, _⟩
          · exact .inl h1
          · exact .inr ⟨p, h1, h2⟩
        go_upto_region 6 with (fail)
        rcases Nat.eq_zero_or_pos k with hk0 | hk0
        · subst hk0
          rw [decide_eq_true rfl, Bool.true_or] at HCAND
          rcases hbc with rfl | ⟨p, rfl, hp⟩
          · have HTT : Hid (takes l out j (-1) = true) := by show _ = _; rw [HTK.out, HCAND.out]; rfl
            have HN : Hid (BestI l out (j + 1) (j : Int)) := best_yes hbest.out HTT.out
            refine wp_region_calm (fun W => W = W5.drew) (by kernel_rfl) (by kernel_rfl) rfl ?_
            repeat ((with_reducible refine wpQuiet_step (fun K hK => ?_)); go_simp; first | (refine hK _ ?_; clear hK K) | (apply Exists.intro; refine ⟨fun wc hwc => ?_, hK _ ?_⟩; (focus (first | (fail) | (((subst hwc)); go_simp; done) | (((subst hwc)); go_simp; exact rfl))); clear hK K))
            refine wpQuiet_nil ?_
            intro wc hwc
            subst hwc
            go_wp2_with fail
            go_roundw
            case rel => exact ⟨(j : Int), j + 1, rfl, by go_num, by omega, HN, hob.out.1.next ((Below.refl _ _).drew), hob.out.2.drew⟩
            case measure => simp [intOf]; omega
          · have z0 : W5.drew.cell? ⟨b1, off1 + p * 11, none⟩ = some (.int .i64 (dC (dat l p))) := HC.out W5 p hob.out.2 (by omega)
            rw [Int.toNat_natCast, decide_eq_false (by omega : ¬ (p : Int) < 0), Bool.false_or] at HTK
            obtain ⟨cp, hcp⟩ : ∃ cp, cp = dC (dat l p) := ⟨_, rfl⟩
            rw [← hcp] at z0 HTK
            clear hcp
            have q1 := IntWalk.i64_in (p : Int) (by have := H90.out; omega)
            have q2 : p < n := by omega
            have q3 : decide ((p : Int) < 0) = false := decide_eq_false (by omega)
            by_cases hcp : cj < cp
            · have d2 : decide (cj < cp) = true := decide_eq_true hcp
              have HTT : Hid (takes l out j (p : Int) = true) := by show _ = _; rw [HTK.out, HCAND.out, d2]; rfl
              clear hcp
              have HN : Hid (BestI l out (j + 1) (j : Int)) := best_yes hbest.out HTT.out
              refine wp_region_calm (fun W => W = W5.drew) (by kernel_rfl) (by kernel_rfl) rfl ?_
              repeat ((with_reducible refine wpQuiet_step (fun K hK => ?_)); go_simp; first | (refine hK _ ?_; clear hK K) | (apply Exists.intro; refine ⟨fun wc hwc => ?_, hK _ ?_⟩; (focus (first | (fail) | (((subst hwc)); go_simp; done) | (((subst hwc)); go_simp; exact rfl))); clear hK K))
              refine wpQuiet_nil ?_
              intro wc hwc
              subst hwc
              go_wp2_with fail
              go_roundw
              case rel => exact ⟨(j : Int), j + 1, rfl, by go_num, by omega, HN, hob.out.1.next ((Below.refl _ _).drew), hob.out.2.drew⟩
              case measure => simp [intOf]; omega
            · have d2 : decide (cj < cp) = false := decide_eq_false hcp
              have HTT : Hid (takes l out j (p : Int) = false) := by show _ = _; rw [HTK.out, HCAND.out, d2]; rfl
              clear hcp
              have HN : Hid (BestI l out (j + 1) (p : Int)) := best_no hbest.out HTT.out
              refine wp_region_calm (fun W => W = W5.drew) (by kernel_rfl) (by kernel_rfl) rfl ?_
              repeat ((with_reducible refine wpQuiet_step (fun K hK => ?_)); go_simp; first | (refine hK _ ?_; clear hK K) | (apply Exists.intro; refine ⟨fun wc hwc => ?_, hK _ ?_⟩; (focus (first | (fail) | (((subst hwc)); go_simp; done) | (((subst hwc)); go_simp; exact rfl))); clear hK K))
              refine wpQuiet_nil ?_
              intro wc hwc
              subst hwc
              go_wp2_with fail
              go_roundw
              case rel => exact ⟨(p : Int), j + 1, rfl, by go_num, by omega, HN, hob.out.1.next ((Below.refl _ _).drew), hob.out.2.drew⟩
              case measure => simp [intOf]; omega
        · obtain ⟨k1, hk1⟩ : ∃ k1, k = k1 + 1 := ⟨k - 1, by omega⟩
          obtain ⟨b2, off2, rfl, y0⟩ := HOC.out k1 hk1
          have y1 : W5.drew.cell? ⟨b2, off2 + k1 * 11, none⟩ = some (.int .i64 (dC (dat out k1))) := y0
          obtain ⟨ck, hck⟩ : ∃ ck, ck = dC (dat out k1) := ⟨_, rfl⟩
          rw [decide_eq_false (by omega : ¬ k = 0), Bool.false_or, show k - 1 = k1 by omega, ← hck] at HCAND
          rw [← hck] at y0 y1
          clear hck y0 HOC
          have q5 := IntWalk.i64_in (k1 : Int) (by have := H90.out; omega)
          have q6 : k1 < k := by omega
          have q7 : ((k : Int) == 0) = false := beq_eq_false_iff_ne.2 (by omega)
          have q8 : (k : Int) - 1 = (k1 : Int) := by omega
          have q9 : ¬ k = 0 := by omega
          clear hk1 hk0
          by_cases hcc : ck < cj
          · have d1 : decide (ck < cj) = true := decide_eq_true hcc
            rw [d1] at HCAND
            clear hcc
            rcases hbc with rfl | ⟨p, rfl, hp⟩
            · have HTT : Hid (takes l out j (-1) = true) := by show _ = _; rw [HTK.out, HCAND.out]; rfl
              have HN : Hid (BestI l out (j + 1) (j : Int)) := best_yes hbest.out HTT.out
              refine wp_region_calm (fun W => W = W5.drew) (by kernel_rfl) (by kernel_rfl) rfl ?_
              repeat ((with_reducible refine wpQuiet_step (fun K hK => ?_)); go_simp; first | (refine hK _ ?_; clear hK K) | (apply Exists.intro; refine ⟨fun wc hwc => ?_, hK _ ?_⟩; (focus (first | (fail) | (((subst hwc)); go_simp; done) | (((subst hwc)); go_simp; exact rfl))); clear hK K))
              refine wpQuiet_nil ?_
              intro wc hwc
              subst hwc
              go_wp2_with fail
              go_roundw
              case rel => exact ⟨(j : Int), j + 1, rfl, by go_num, by omega, HN, hob.out.1.next ((Below.refl _ _).drew), hob.out.2.drew⟩
              case measure => simp [intOf]; omega
            · have z0 : W5.drew.cell? ⟨b1, off1 + p * 11, none⟩ = some (.int .i64 (dC (dat l p))) := HC.out W5 p hob.out.2 (by omega)
              rw [Int.toNat_natCast, decide_eq_false (by omega : ¬ (p : Int) < 0), Bool.false_or] at HTK
              obtain ⟨cp, hcp⟩ : ∃ cp, cp = dC (dat l p) := ⟨_, rfl⟩
              rw [← hcp] at z0 HTK
              clear hcp
              have q1 := IntWalk.i64_in (p : Int) (by have := H90.out; omega)
              have q2 : p < n := by omega
              have q3 : decide ((p : Int) < 0) = false := decide_eq_false (by omega)
              by_cases hcp : cj < cp
              · have d2 : decide (cj < cp) = true := decide_eq_true hcp
                have HTT : Hid (takes l out j (p : Int) = true) := by show _ = _; rw [HTK.out, HCAND.out, d2]; rfl
                clear hcp
                have HN : Hid (BestI l out (j + 1) (j : Int)) := best_yes hbest.out HTT.out
                refine wp_region_calm (fun W => W = W5.drew) (by kernel_rfl) (by kernel_rfl) rfl ?_
                repeat ((with_reducible refine wpQuiet_step (fun K hK => ?_)); go_simp; first | (refine hK _ ?_; clear hK K) | (apply Exists.intro; refine ⟨fun wc hwc => ?_, hK _ ?_⟩; (focus (first | (fail) | (((subst hwc)); go_simp; done) | (((subst hwc)); go_simp; exact rfl))); clear hK K))
                refine wpQuiet_nil ?_
                intro wc hwc
                subst hwc
                go_wp2_with fail
                go_roundw
                case rel => exact ⟨(j : Int), j + 1, rfl, by go_num, by omega, HN, hob.out.1.next ((Below.refl _ _).drew), hob.out.2.drew⟩
                case measure => simp [intOf]; omega
              · have d2 : decide (cj < cp) = false := decide_eq_false hcp
                have HTT : Hid (takes l out j (p : Int) = false) := by show _ = _; rw [HTK.out, HCAND.out, d2]; rfl
                clear hcp
                have HN : Hid (BestI l out (j + 1) (p : Int)) := best_no hbest.out HTT.out
                refine wp_region_calm (fun W => W = W5.drew) (by kernel_rfl) (by kernel_rfl) rfl ?_
                repeat ((with_reducible refine wpQuiet_step (fun K hK => ?_)); go_simp; first | (refine hK _ ?_; clear hK K) | (apply Exists.intro; refine ⟨fun wc hwc => ?_, hK _ ?_⟩; (focus (first | (fail) | (((subst hwc)); go_simp; done) | (((subst hwc)); go_simp; exact rfl))); clear hK K))
                refine wpQuiet_nil ?_
                intro wc hwc
                subst hwc
                go_wp2_with fail
                go_roundw
                case rel => exact ⟨(p : Int), j + 1, rfl, by go_num, by omega, HN, hob.out.1.next ((Below.refl _ _).drew), hob.out.2.drew⟩
                case measure => simp [intOf]; omega
          · have d1 : decide (ck < cj) = false := decide_eq_false hcc
            rw [d1] at HCAND
            have HTT : Hid (takes l out j b = false) := by show _ = _; rw [HTK.out, HCAND.out, Bool.false_and]
            clear hcc
            have HN : Hid (BestI l out (j + 1) b) := best_no hbest.out HTT.out
            refine wp_region_calm (fun W => W = W5.drew) (by kernel_rfl) (by kernel_rfl) rfl ?_
            repeat ((with_reducible refine wpQuiet_step (fun K hK => ?_)); go_simp; first | (refine hK _ ?_; clear hK K) | (apply Exists.intro; refine ⟨fun wc hwc => ?_, hK _ ?_⟩; (focus (first | (fail) | (((subst hwc)); go_simp; done) | (((subst hwc)); go_simp; exact rfl))); clear hK K))
            refine wpQuiet_nil ?_
            intro wc hwc
            subst hwc
            go_wp2_with fail
            go_roundw
            case rel => exact ⟨b, j + 1, rfl, by go_num, by omega, HN, hob.out.1.next ((Below.refl _ _).drew), hob.out.2.drew⟩
            case measure => simp [intOf]; omega
      · obtain rfl : j = n := by omega
        rcases hbest.out with ⟨rfl, hno⟩ | ⟨p, rfl, hp, hrest⟩
        · have HM : Hid (SoEnd w m (.slice oa k oc) W5) := by
            refine ⟨own_tab hob.out.1 ?_, hob.out.2⟩
            rw [← HOUT.out]
            refine sorted_one (soI_done HSO.out fun x hx => ?_) HS.out
            obtain ⟨i, hi, rfl⟩ := dat_mem hx
            exact hno i (by rw [← HL.out]; exact hi)
          go_wp2_with fail
          go_ret
          exact ⟨_, rfl, HM.out⟩
        · obtain ⟨b1, off1, rfl, hb1, hcl⟩ := HR.out (by omega)
          have HK : Hid (DnAt W5 b1 (off1 + p * 11) (det es0 p)) := (hcl p hp).next hob.out.2 hb1
          obtain ⟨d, hd⟩ : ∃ d, d = det es0 p := ⟨_, rfl⟩
          have hdk : d.1 = dat l p := by rw [hd]; exact det_map HE.out p
          rw [← hd] at HK
          have HNX : Hid (SoI l (out ++ [dat l p]) ∧ (l.filter (cand (out ++ [dat l p]))).length < (l.filter (cand out)).length) := (soI_next HSO.out (by rw [HL.out]; exact hbest.out)).2
          obtain ⟨⟨c1, r, e, ⟨x, y, z⟩, f, vv, ni, nx, mo⟩, ai, ci⟩ := d
          have HDK : Hid (dat l p = (c1, r, e, (x, y, z), f, vv, ni, nx, mo)) := hdk.symm
          obtain ⟨x0, x1, x2, x3, x4, x5, x6, x7, x8, x9, x10⟩ := HK.out
          dsimp only at x0 x1 x2 x3 x4 x5 x6 x7 x8 x9 x10
          clear hd hdk hcl hrest
          have q1 := IntWalk.i64_in (p : Int) (by have := H90.out; omega)
          have hown : W5.ownsRow w.heap.size 33 11 (.slice oa k oc) es.length (dnsC es) := hob.out.1
          have hown' : W5.ownsRow w.heap.size 33 11 (.slice oa k oc) k (dnsC es) := by rw [← HLEN.out.1]; rw [← HLEN.out.1] at hown; exact hown
          have hsz := hob.out.2.size
          have hk90 : k ≤ 90 := Nat.le_trans hk H90.out
          go_wp2_with (at_builtin; refine wpList_append_own _ rfl _ _ 22 rfl w.heap.size 33 i0 _ 11 120 Try.underlying22 hii hz0 hz1 hz2 rfl (by decide) _ _ _ rfl (hown'.alloc _) ⟨W5.heap.size, 0, none⟩ 1 1 (dnC ((c1, r, e, (x, y, z), f, vv, ni, nx, mo), ai, ci)) rfl rfl (dn_new W5 ((c1, r, e, (x, y, z), f, vv, ni, nx, mo), ai, ci)) (dnC_one _) (by unfold maxLen; omega) (by omega) (by simp; omega) ?_; intro v' w3 hown1 hgrow1 _)
          have hb2 := (hob.out.2.alloc hsz _).grown hgrow1 (by simp; omega) (fun i hi => (hown'.lt i hi).1)
          rw [dnsC_snoc] at hown1
          have hlen2 : (es ++ [((c1, r, e, (x, y, z), f, vv, ni, nx, mo), ai, ci)]).length = k + 1 := by rw [List.length_append, HLEN.out.1]; rfl
          have hown2 : OwnsD w3 w.heap.size v' (es ++ [((c1, r, e, (x, y, z), f, vv, ni, nx, mo), ai, ci)]) := by
            unfold OwnsD
            rw [hlen2]
            exact hown1
          have hmap2 : (es ++ [((c1, r, e, (x, y, z), f, vv, ni, nx, mo), ai, ci)]).map Prod.fst = out ++ [dat l p] := by rw [List.map_append, ← HOUT.out, HDK.out]; rfl
          obtain ⟨oa2, oc2, e5⟩ := owns_slice hown2
          rw [hlen2] at e5
          subst e5
          have hk1 : k + 1 ≤ j := by
            have h1 := HROOM.out
            have h2 := HNX.out.2
            rw [HL.out] at h1
            omega
          refine ⟨⟨oa2, k + 1, oc2, rfl, hk1, _, hown2, hlen2, by rw [hmap2]; exact HNX.out.1, ?_, hb2⟩, by simp [slen]; omega⟩
          rw [hmap2]
          have h1 := HROOM.out
          have h2 := HNX.out.2
          omega

end Go.Proofs.Ytdiabcdpnbhibaa
