/-
  The contract of chain.Right.
-/
import Derived.Test.YtbboamfjkdcjeaaVrOne
import Derived.Test.YtbboamfjkdcjeaaVrFollows
set_option linter.unusedVariables false
namespace Go.Proofs.Ytbboamfjkdcjeaa
open Go.RowKit

theorem vat_take (l : List Ver) {k i : Nat} (h : i < k) : vat (l.take k) i = vat l i := by
  unfold vat
  simp [List.getD, h]
theorem ok_fol {l : List Ver} {k : Nat} (h : k < l.length) : okAt l k = (oneB (vat l k) && folB (l.take k) (vat l k)) := by
  unfold okAt folB
  rw [List.length_take, Nat.min_eq_left (by omega)]
  cases k with
  | zero => rfl
  | succ k => rw [vat_take l (by omega)]
theorem Vers.front {w : World} {b off n cap k : Nat} {l : List Ver} (hl : l.length = n) (h1 : n ≤ cap) (h2 : cap ≤ maxLen) (hb : b < w.heap.size) (hcl : ∀ i, i < n → VerAt w b (off + i * 5) (vat l i)) (hk : k ≤ n) : Vers w (.slice (some ⟨b, off, none⟩) k cap) (l.take k) :=
  ⟨some ⟨b, off, none⟩, cap, by rw [List.length_take, Nat.min_eq_left (by omega)], by rw [List.length_take]; omega, h2, fun hp => ⟨b, off, rfl, hb, fun i hi => by
    rw [List.length_take] at hi
    rw [vat_take l (by omega)]
    exact hcl i (by omega)⟩⟩
/-- What a round of Right knows. -/
def RtRel (w : World) (h : Nat) (v : Ver) (W : World) : Prop := Below w.heap.size w W ∧ VBox W h v.1 v.2.1 v.2.2.1 v.2.2.2.1 v.2.2.2.2
theorem RtRel.next {w W W' : World} {h : Nat} {v : Ver} (H : RtRel w h v W) (hb : Below W.heap.size W W') : RtRel w h v W' := ⟨H.1.trans (hb.mono H.1.size), H.2.over hb⟩
theorem RtRel.drew {w W : World} {h : Nat} {v : Ver} (H : RtRel w h v W) : RtRel w h v W.drew := H.next ((Below.refl _ _).drew)

set_option maxRecDepth 100000 in
set_option maxHeartbeats 2000000 in
theorem Right_row (w : World) (ao : Option Addr) (n cap : Nat) (l : List Ver) (hl : l.length = n) (hle : n ≤ cap) (hmx : cap ≤ maxLen) (hcell : 0 < n → ∃ b off, ao = some ⟨b, off, none⟩ ∧ b < w.heap.size ∧ ∀ i, i < n → VerAt w b (off + i * 5) (vat l i)) :
    Calls Try.prog 14 #[.slice ao n cap] w fun e w' => e = .returned (.bool (rightC l)) ∧ Below w.heap.size w w' := by
  have HL := Lib.hid hl
  have HC := Lib.hid hcell
  have HLE := Lib.hid hle
  have HMX := Lib.hid hmx
  clear hl hcell hle hmx
  by_cases h64 : 64 < n
  · have HE : Hid (rightC l = false) := rightC_long (by rw [HL.out]; omega)
    go_enter Try.func14, Try.ntmps14
    go_wp2_with fail
    go_ret
    exact ⟨by rw [HE.out]; rfl, Below.refl _ _⟩
  go_enter Try.func14, Try.ntmps14
  go_wp2_with fail
  go_loopw [10] (fun i wr => ∃ k : Nat, k ≤ n ∧ i = .int .i64 k ∧ Hid (∀ j, j < k → okAt l j = true) ∧ Hid (Below w.heap.size w wr)) (fun i _ => n - (intOf i).toNat)
  case atStart => exact ⟨0, Nat.zero_le _, rfl, fun j hj => absurd hj (Nat.not_lt_zero _), Below.refl _ _⟩
  case round =>
    obtain ⟨k, hk, rfl, hok, hbel⟩ := hrel
    by_cases hlt : k < n
    · obtain ⟨b, off, rfl, hb, hcl⟩ := HC.out (by omega)
      obtain ⟨v, hv⟩ : ∃ v, v = vat l k := ⟨_, rfl⟩
      obtain ⟨a, t, c, g, s⟩ := v
      have HV := Lib.hid hv
      have HK : Hid (VerAt wr b (off + k * 5) (a, t, c, g, s)) := by rw [hv]; exact (hcl k hlt).next hbel.out hb
      obtain ⟨o, ho⟩ : ∃ o, o = oneB (a, t, c, g, s) := ⟨_, rfl⟩
      obtain ⟨f, hf⟩ : ∃ f, f = folB (l.take k) (a, t, c, g, s) := ⟨_, rfl⟩
      have HO : Hid (∀ W, Calls Try.prog 24 #[(Go.Value.agg #[Go.Value.int Go.IntKind.i64 a, Go.Value.int Go.IntKind.i64 t, Go.Value.int Go.IntKind.i64 c, Go.Value.bool g, Go.Value.string s])] W fun e w' => e = .returned (.bool o) ∧ Below W.heap.size W w') := fun W => by rw [ho]; exact rightVersion_any a t c g s W
      have HF : Hid (∀ W, Below w.heap.size w W → Calls Try.prog 25 #[(Go.Value.agg #[Go.Value.int Go.IntKind.i64 a, Go.Value.int Go.IntKind.i64 t, Go.Value.int Go.IntKind.i64 c, Go.Value.bool g, Go.Value.string s]), .slice (some ⟨b, off, none⟩) k cap] W fun e w' => e = .returned (.bool f) ∧ Below W.heap.size W w') := fun W hW => by
        rw [hf]
        exact follows_any (Vers.front HL.out HLE.out HMX.out (Nat.lt_of_lt_of_le hb hW.size) (fun i hi => (hcl i hi).next hW hb) (by omega)) a t c g s
      have HOK : Hid (okAt l k = (o && f)) := by show _ = _; rw [ok_fol (by rw [HL.out]; exact hlt), ← hv, ← ho, ← hf]
      clear hv ho hf
      obtain ⟨k0, k1, k2, k3, k4⟩ := HK.out
      dsimp only at k0 k1 k2 k3 k4
      have hkc : k ≤ cap := by have := HLE.out; omega
      have q4 : k < n := hlt
      go_upto_region 6 with (fail)
      have H1 : Hid (RtRel w wr.heap.size (a, t, c, g, s) (wr.alloc (.cells #[.int .i64 a, .int .i64 t, .int .i64 c, .bool g, .string s] 26))) := ⟨hbel.out.alloc hbel.out.size _, VBox.new _ _ _ _ _ _⟩
      clear k0 k1 k2 k3 k4 HK
      cases o
      · have HE : Hid (rightC l = false) := rightC_at (i := k) (by rw [HL.out]; exact hlt) (by rw [HOK.out]; rfl)
        refine wp_region_calm (RtRel w wr.heap.size (a, t, c, g, s)) (by kernel_rfl) (by kernel_rfl) H1.out.drew ?_
        repeat ((with_reducible refine wpQuiet_step (fun K hK => ?_)); go_simp; first | (refine hK _ ?_; clear hK K) | (apply Exists.intro; refine ⟨fun wc hwc => ?_, hK _ ?_⟩; (focus (first | (first | (go_at_call 24; refine (HO.out _).mono ?_; rintro e w1 ⟨rfl, hb1⟩; exact ⟨rfl, hwc.next hb1⟩)) | (((obtain ⟨_, hx⟩ := hwc; obtain ⟨x0, x1, x2, x3, x4⟩ := hx.cell; dsimp only at x0 x1 x2 x3 x4; clear hx)); go_simp; done) | (((obtain ⟨_, hx⟩ := hwc; obtain ⟨x0, x1, x2, x3, x4⟩ := hx.cell; dsimp only at x0 x1 x2 x3 x4; clear hx)); go_simp; exact rfl))); clear hK K))
        refine wpQuiet_nil ?_
        intro wc hwc
        go_wp2_with fail
        go_ret
        exact ⟨by rw [HE.out]; rfl, hwc.1⟩
      cases f
      · have HE : Hid (rightC l = false) := rightC_at (i := k) (by rw [HL.out]; exact hlt) (by rw [HOK.out]; rfl)
        refine wp_region_calm (RtRel w wr.heap.size (a, t, c, g, s)) (by kernel_rfl) (by kernel_rfl) H1.out.drew ?_
        repeat ((with_reducible refine wpQuiet_step (fun K hK => ?_)); go_simp; first | (refine hK _ ?_; clear hK K) | (apply Exists.intro; refine ⟨fun wc hwc => ?_, hK _ ?_⟩; (focus (first | (first | (go_at_call 24; refine (HO.out _).mono ?_; rintro e w1 ⟨rfl, hb1⟩; exact ⟨rfl, hwc.next hb1⟩) | (go_at_call 25; refine (HF.out _ hwc.1).mono ?_; rintro e w1 ⟨rfl, hb1⟩; exact ⟨rfl, hwc.next hb1⟩)) | (((obtain ⟨_, hx⟩ := hwc; obtain ⟨x0, x1, x2, x3, x4⟩ := hx.cell; dsimp only at x0 x1 x2 x3 x4; clear hx)); go_simp; done) | (((obtain ⟨_, hx⟩ := hwc; obtain ⟨x0, x1, x2, x3, x4⟩ := hx.cell; dsimp only at x0 x1 x2 x3 x4; clear hx)); go_simp; exact rfl))); clear hK K))
        refine wpQuiet_nil ?_
        intro wc hwc
        go_wp2_with fail
        go_ret
        exact ⟨by rw [HE.out]; rfl, hwc.1⟩
      · have HN : Hid (∀ j, j < k + 1 → okAt l j = true) := by
          intro j hj
          by_cases hjk : j < k
          · exact hok.out j hjk
          · obtain rfl : j = k := by omega
            rw [HOK.out]; rfl
        refine wp_region_calm (RtRel w wr.heap.size (a, t, c, g, s)) (by kernel_rfl) (by kernel_rfl) H1.out.drew ?_
        repeat ((with_reducible refine wpQuiet_step (fun K hK => ?_)); go_simp; first | (refine hK _ ?_; clear hK K) | (apply Exists.intro; refine ⟨fun wc hwc => ?_, hK _ ?_⟩; (focus (first | (first | (go_at_call 24; refine (HO.out _).mono ?_; rintro e w1 ⟨rfl, hb1⟩; exact ⟨rfl, hwc.next hb1⟩) | (go_at_call 25; refine (HF.out _ hwc.1).mono ?_; rintro e w1 ⟨rfl, hb1⟩; exact ⟨rfl, hwc.next hb1⟩)) | (((obtain ⟨_, hx⟩ := hwc; obtain ⟨x0, x1, x2, x3, x4⟩ := hx.cell; dsimp only at x0 x1 x2 x3 x4; clear hx)); go_simp; done) | (((obtain ⟨_, hx⟩ := hwc; obtain ⟨x0, x1, x2, x3, x4⟩ := hx.cell; dsimp only at x0 x1 x2 x3 x4; clear hx)); go_simp; exact rfl))); clear hK K))
        refine wpQuiet_nil ?_
        intro wc hwc
        go_wp2_with fail
        go_roundw
        case rel => exact ⟨k + 1, by omega, by go_num, HN, hwc.1⟩
        case measure => simp [intOf]; omega
    · have HE : Hid (rightC l = true) := rightC_yes (by rw [HL.out]; omega) (fun i hi => hok.out i (by rw [HL.out] at hi; omega))
      go_wp2_with fail
      go_ret
      exact ⟨by rw [HE.out]; rfl, hbel.out⟩

theorem CRight_any {w : World} {v : Value} {l : List Ver} (h : Vers w v l) : Calls Try.prog 14 #[v] w fun e w' => e = .returned (.bool (rightC l)) ∧ Below w.heap.size w w' := by
  obtain ⟨ao, cap, rfl, h1, h2, h3⟩ := h
  exact Right_row w ao _ cap l rfl h1 h2 h3

end Go.Proofs.Ytbboamfjkdcjeaa
