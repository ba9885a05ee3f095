/-
  The contract of the document's At of a chain.
-/
import Derived.Test.YtbboamfjkdcjeaaVrRefRight
set_option linter.unusedVariables false
namespace Go.Proofs.Ytbboamfjkdcjeaa
open Go.RowKit

/-- What a round of At knows: the stamp's box, the box of the version found, the result's box; the row. -/
def AtRel (w : World) (b o : Nat) (x y z : Int) (u v : Ver) (W : World) : Prop :=
  b < w.heap.size ∧ Below w.heap.size w W ∧ Box W w.heap.size x y z ∧ VBox W (w.heap.size + 1) 0 0 0 false { data := #[] } ∧ VBox W (w.heap.size + 1 + 1) u.1 u.2.1 u.2.2.1 u.2.2.2.1 u.2.2.2.2 ∧ VerAt W b o v
theorem AtRel.next {w W W' : World} {b o : Nat} {x y z : Int} {u v : Ver} (H : AtRel w b o x y z u v W) (hb : Below W.heap.size W W') : AtRel w b o x y z u v W' := by
  obtain ⟨h0, h1, h2, h3, h4, h5⟩ := H
  have := h1.size
  exact ⟨h0, h1.trans (hb.mono h1.size), h2.over hb, h3.over hb, h4.over hb, h5.next hb (by omega)⟩
theorem AtRel.drew {w W : World} {b o : Nat} {x y z : Int} {u v : Ver} (H : AtRel w b o x y z u v W) : AtRel w b o x y z u v W.drew := H.next ((Below.refl _ _).drew)
/-- The three boxes. -/
def AtBox (w : World) (x y z : Int) (u : Ver) (W : World) : Prop :=
  Below w.heap.size w W ∧ Box W w.heap.size x y z ∧ VBox W (w.heap.size + 1) 0 0 0 false { data := #[] } ∧ VBox W (w.heap.size + 1 + 1) u.1 u.2.1 u.2.2.1 u.2.2.2.1 u.2.2.2.2
theorem AtBox.next {w W W' : World} {x y z : Int} {u : Ver} (H : AtBox w x y z u W) (hb : Below W.heap.size W W') : AtBox w x y z u W' :=
  ⟨H.1.trans (hb.mono H.1.size), H.2.1.over hb, H.2.2.1.over hb, H.2.2.2.over hb⟩
theorem AtBox.drew {w W : World} {x y z : Int} {u : Ver} (H : AtBox w x y z u W) : AtBox w x y z u W.drew := H.next ((Below.refl _ _).drew)
theorem AtBox.put {w W : World} {x y z : Int} {u : Ver} (H : AtBox w x y z u W) (v : Ver) : AtBox w x y z v (W.setRow (w.heap.size + 1 + 1) #[.int .i64 (v.1), .int .i64 (v.2.1), .int .i64 (v.2.2.1), .bool (v.2.2.2.1), .string (v.2.2.2.2)]) :=
  ⟨below_setRow H.1 (by omega) _, H.2.1.other _ (by omega), H.2.2.1.other _ (by omega), H.2.2.2.set _ _ _ _ _⟩
theorem AtBox.new (w : World) (x y z : Int) : AtBox w x y z ver0 (((w.alloc (.cells #[.int .i64 x, .int .i64 y, .int .i64 z] 24)).alloc (.cells #[.int .i64 0, .int .i64 0, .int .i64 0, .bool false, .string ({ data := #[] })] 26)).alloc (.cells #[.int .i64 0, .int .i64 0, .int .i64 0, .bool false, .string ({ data := #[] })] 26)) := by
  refine ⟨(((Below.refl w.heap.size w).alloc (Nat.le_refl _) _).alloc (by simp) _).alloc (by simp; omega) _, ((Box.new w x y z).alloc _).alloc _, ?_, ?_⟩
  · have := (VBox.new (w.alloc (.cells #[.int .i64 x, .int .i64 y, .int .i64 z] 24)) 0 0 0 false { data := #[] }).alloc (.cells #[.int .i64 0, .int .i64 0, .int .i64 0, .bool false, .string ({ data := #[] })] 26)
    simpa using this
  · have := VBox.new ((w.alloc (.cells #[.int .i64 x, .int .i64 y, .int .i64 z] 24)).alloc (.cells #[.int .i64 0, .int .i64 0, .int .i64 0, .bool false, .string ({ data := #[] })] 26)) 0 0 0 false { data := #[] }
    simpa [ver0] using this
/-- The version found among the first k. -/
def foundAt (l : List Ver) (n k : Nat) : Ver := if min k n = 0 then ver0 else vat l (min k n - 1)
theorem found_in {l : List Ver} {n k : Nat} (h : k < n) : foundAt l n (k + 1) = vat l k := by
  unfold foundAt
  rw [if_neg (by omega), show min (k + 1) n - 1 = k by omega]
theorem found_out {l : List Ver} {n k : Nat} (h : n ≤ k) : foundAt l n (k + 1) = foundAt l n k := by
  unfold foundAt
  rw [show min (k + 1) n = min k n by omega]

set_option maxRecDepth 100000 in
set_option maxHeartbeats 2000000 in
theorem refAt_row (w : World) (x y z : Int) (ao : Option Addr) (len cap : Nat) (l : List Ver) (n : Nat) (r : Bool) (hl : l.length = len) (hle : len ≤ cap) (hmx : cap ≤ maxLen) (hcell : 0 < len → ∃ b off, ao = some ⟨b, off, none⟩ ∧ b < w.heap.size ∧ ∀ i, i < len → VerAt w b (off + i * 5) (vat l i))
    (hr : rightC l = r) (hn : r = true → IsCnt l x y z n) (hn0 : r = false → n = 0) :
    Calls Try.prog 17 #[.slice ao len cap, (Go.Value.agg #[Go.Value.int Go.IntKind.i64 x, Go.Value.int Go.IntKind.i64 y, Go.Value.int Go.IntKind.i64 z])] w fun e w' => e = .returned (.tuple #[verV (foundAt l n len), .bool (decide (0 < n))]) ∧ Below w.heap.size w w' := by
  have HL := Lib.hid hl
  have HC := Lib.hid hcell
  have HN := Lib.hid hn
  have HN0 := Lib.hid hn0
  have HRR : Hid (∀ W, Below w.heap.size w W → Calls Try.prog 11 #[.slice ao len cap] W fun e w' => e = .returned (.bool r) ∧ Below W.heap.size W w') := by
    intro W hW
    rw [← hr]
    have hv : Vers w (.slice ao len cap) l := ⟨ao, cap, by rw [hl], by omega, hmx, by rw [hl]; exact hcell⟩
    refine refCRight_any ⟨ao, cap, by rw [hl], by omega, hmx, fun hp => ?_⟩
    obtain ⟨b, off, e1, h1, h2⟩ := hcell (by omega)
    exact ⟨b, off, e1, Nat.lt_of_lt_of_le h1 hW.size, fun i hi => (h2 i (by omega)).next hW h1⟩
  clear hl hcell hr hn hn0
  have hmx2 : len ≤ 9223372036854775807 := by have : maxLen ≤ 9223372036854775807 := by decide
                                              omega
  clear hle hmx
  go_enter Try.func17, Try.ntmps17
  go_upto_region 2 with (fail)
  obtain ⟨w2, H2, HW2⟩ : ∃ w2, Hid (AtBox w x y z ver0 w2) ∧ Hid ((((w.alloc (.cells #[.int .i64 x, .int .i64 y, .int .i64 z] 24)).alloc (.cells #[.int .i64 0, .int .i64 0, .int .i64 0, .bool false, .string ({ data := #[] })] 26)).alloc (.cells #[.int .i64 0, .int .i64 0, .int .i64 0, .bool false, .string ({ data := #[] })] 26)) = w2) := ⟨_, AtBox.new w x y z, rfl⟩
  rw [HW2.out]
  clear HW2
  have HF0 : Hid (AtBox w x y z (foundAt l n 0) w2) := by
    have e : foundAt l n 0 = ver0 := by unfold foundAt; rw [if_pos (by omega)]
    show AtBox w x y z (foundAt l n 0) w2
    rw [e]; exact H2.out
  go_wp2_with fail
  go_loopw [7, 8] (fun o i wr => ∃ k : Nat, k ≤ len ∧ i = .int .i64 k ∧ o = .bool (decide (0 < min k n)) ∧ (r = false → k = 0) ∧ Hid (AtBox w x y z (foundAt l n k) wr)) (fun _ i _ => len - (intOf i).toNat)
  case atStart => exact ⟨0, Nat.zero_le _, rfl, by simp, fun _ => rfl, HF0⟩
  case round =>
    obtain ⟨k, hk, rfl, rfl, hk0, hat⟩ := hrel
    have HK0 := Lib.hid hk0
    clear hk0
    obtain ⟨u, hu⟩ : ∃ u, u = foundAt l n k := ⟨_, rfl⟩
    have HU := Lib.hid hu
    rw [← hu] at hat
    clear hu
    obtain ⟨ua, ub, uc, ug, us⟩ := u
    obtain ⟨o, ho⟩ : ∃ o, o = decide (0 < min k n) := ⟨_, rfl⟩
    rw [← ho]
    have HO := Lib.hid ho
    clear ho
    by_cases hlt : k < len
    · obtain ⟨b, off, rfl, hb, hcl⟩ := HC.out (by omega)
      cases r
      · have hk00 : k = 0 := HK0.out (by first | rfl | trivial)
        subst hk00
        have hn00 := HN0.out (by first | rfl | trivial)
        subst hn00
        have hE : (ua, ub, uc, ug, us) = foundAt l 0 len := by rw [HU.out]; unfold foundAt; rw [if_pos (by omega), if_pos (by omega)]
        have HE : Hid (verV (foundAt l 0 len) = (Go.Value.agg #[Go.Value.int Go.IntKind.i64 ua, Go.Value.int Go.IntKind.i64 ub, Go.Value.int Go.IntKind.i64 uc, Go.Value.bool ug, Go.Value.string us])) := by show _ = _; rw [← hE]; rfl
        have HO2 : o = false := by rw [HO.out]; rfl
        subst HO2
        clear hE
        go_wp2_with fail
        refine (HRR.out _ hat.out.1).mono ?_
        rintro e w3 ⟨rfl, hb3⟩
        have H3 : Hid (AtBox w x y z (ua, ub, uc, ug, us) w3) := hat.out.next hb3
        clear hb3 hat
        go_wp2_with (first | (refine vbox_load (w.heap.size + 1 + 1) H3.out.2.2.2 rfl _ rfl rfl ?_) | (refine vbox_store (w.heap.size + 1) H3.out.2.2.1 rfl _ _ rfl rfl rfl ?_))
        exact bodyPost_ret (vbox_result2 rfl _ _ (w.heap.size + 1) rfl (H3.out.2.2.1.set ua ub uc ug us)) rfl ⟨by rw [HE.out]; rfl, below_setRow H3.out.1 (by omega) _⟩
      · go_wp2_with fail
        refine (HRR.out _ hat.out.1).mono ?_
        rintro e w3 ⟨rfl, hb3⟩
        have H3 : Hid (AtBox w x y z (ua, ub, uc, ug, us) w3) := hat.out.next hb3
        clear hb3 hat
        obtain ⟨v, hv⟩ : ∃ v, v = vat l k := ⟨_, rfl⟩
        have HV := Lib.hid hv
        have HVR : Hid (VerAt w b (off + k * 5) v) := by rw [hv]; exact hcl k hlt
        obtain ⟨a, t, c, g, s⟩ := v
        obtain ⟨d, hd⟩ : ∃ d, d = befB x y z a t c := ⟨_, rfl⟩
        have HB : Hid (∀ W, Calls Try.prog 13 #[(Go.Value.agg #[Go.Value.int Go.IntKind.i64 x, Go.Value.int Go.IntKind.i64 y, Go.Value.int Go.IntKind.i64 z]), (Go.Value.agg #[Go.Value.int Go.IntKind.i64 a, Go.Value.int Go.IntKind.i64 t, Go.Value.int Go.IntKind.i64 c])] W fun e w' => e = .returned (.bool d) ∧ Below W.heap.size W w') := fun W => by rw [hd]; exact Before_any _ _ _ _ _ _ W
        have HD : Hid (d = befS x y z (vat l k)) := by show d = _; rw [← HV.out, hd]; rfl
        clear hv hd
        have q2 : k < len := hlt
        have H4 : Hid (AtRel w b (off + k * 5) x y z (ua, ub, uc, ug, us) (a, t, c, g, s) w3) := ⟨hb, H3.out.1, H3.out.2.1, H3.out.2.2.1, H3.out.2.2.2, HVR.out.next H3.out.1 hb⟩
        clear H3 hcl
        go_upto_region 5 with (fail)
        refine wp_region_calm (AtRel w b (off + k * 5) x y z (ua, ub, uc, ug, us) (a, t, c, g, s)) (by kernel_rfl) (by kernel_rfl) H4.out.drew ?_
        repeat ((with_reducible refine wpQuiet_step (fun K hK => ?_)); go_simp; first | (refine hK _ ?_; clear hK K) | (apply Exists.intro; refine ⟨fun wc hwc => ?_, hK _ ?_⟩; (focus (first | (first | (go_at_call 13; refine (HB.out _).mono ?_; rintro e w1 ⟨rfl, hb1⟩; exact ⟨rfl, hwc.next hb1⟩)) | (((obtain ⟨_, _, hx, _, _, ⟨y0, y1, y2, _⟩⟩ := hwc; obtain ⟨x0, x1, x2⟩ := hx.cell; dsimp only at y0 y1 y2; clear hx)); go_simp; done) | (((obtain ⟨_, _, hx, _, _, ⟨y0, y1, y2, _⟩⟩ := hwc; obtain ⟨x0, x1, x2⟩ := hx.cell; dsimp only at y0 y1 y2; clear hx)); go_simp; exact rfl))); clear hK K))
        refine wpQuiet_nil ?_
        intro wc hwc
        have HW := Lib.hid hwc
        clear hwc H4
        cases d
        · have hkn : k < n := by
            rcases Nat.lt_or_ge k n with h | h
            · exact h
            · have := (HN.out (by first | rfl | trivial)).2.2 k h (by rw [HL.out]; exact hlt)
              rw [← HD.out] at this; cases this
          have HP : Hid (AtBox w x y z (foundAt l n (k + 1)) (wc.setRow (w.heap.size + 1 + 1) #[.int .i64 a, .int .i64 t, .int .i64 c, .bool g, .string s])) := by
            show AtBox w x y z (foundAt l n (k + 1)) _
            rw [found_in hkn, ← HV.out]
            exact AtBox.put (u := (ua, ub, uc, ug, us)) ⟨HW.out.2.1, HW.out.2.2.1, HW.out.2.2.2.1, HW.out.2.2.2.2.1⟩ (a, t, c, g, s)
          have HO3 : Hid (decide (0 < min (k + 1) n) = true) := decide_eq_true (by omega)
          obtain ⟨y0, y1, y2, y3, y4⟩ := HW.out.2.2.2.2.2
          dsimp only at y0 y1 y2 y3 y4
          go_wp2_with (first | (refine vbox_store (w.heap.size + 1 + 1) HW.out.2.2.2.2.1 rfl _ _ rfl rfl rfl ?_))
          go_roundw
          case rel => exact ⟨k + 1, by omega, by go_num, by rw [HO3.out], (fun h => by cases h), HP⟩
          case measure => simp [intOf]; omega
        · have hkn : n ≤ k := by
            rcases Nat.lt_or_ge k n with h | h
            · have := (HN.out (by first | rfl | trivial)).2.1 k h
              rw [← HD.out] at this; cases this
            · exact h
          have HP : Hid (AtBox w x y z (foundAt l n (k + 1)) wc) := by
            show AtBox w x y z (foundAt l n (k + 1)) _
            rw [found_out hkn, ← HU.out]
            exact ⟨HW.out.2.1, HW.out.2.2.1, HW.out.2.2.2.1, HW.out.2.2.2.2.1⟩
          have HO3 : Hid (decide (0 < min (k + 1) n) = o) := by
            show _ = o
            rw [HO.out, show min (k + 1) n = min k n by omega]
          go_wp2_with fail
          go_roundw
          case rel => exact ⟨k + 1, by omega, by go_num, by rw [HO3.out], (fun h => by cases h), HP⟩
          case measure => simp [intOf]; omega
    · obtain rfl : k = len := by omega
      have HE : Hid (verV (foundAt l n k) = (Go.Value.agg #[Go.Value.int Go.IntKind.i64 ua, Go.Value.int Go.IntKind.i64 ub, Go.Value.int Go.IntKind.i64 uc, Go.Value.bool ug, Go.Value.string us])) := by show _ = _; rw [← HU.out]; rfl
      have hon : o = decide (0 < n) := by
        rw [HO.out]
        cases r
        · rw [HN0.out (by first | rfl | trivial)]; simp
        · have := (HN.out (by first | rfl | trivial)).1
          rw [HL.out] at this
          rw [Nat.min_eq_right this]
      have HO4 := Lib.hid hon
      clear hon
      go_wp2_with (first | (refine vbox_load (w.heap.size + 1 + 1) hat.out.2.2.2 rfl _ rfl rfl ?_) | (refine vbox_store (w.heap.size + 1) hat.out.2.2.1 rfl _ _ rfl rfl rfl ?_))
      exact bodyPost_ret (vbox_result2 rfl _ _ (w.heap.size + 1) rfl (hat.out.2.2.1.set ua ub uc ug us)) rfl ⟨by rw [HE.out, ← HO4.out]; rfl, below_setRow hat.out.1 (by omega) _⟩

theorem refAt_any {w : World} {v : Value} {l : List Ver} {x y z : Int} {u : Ver} {ok : Bool} (h : Vers w v l) (ha : IsAt l x y z u ok) :
    Calls Try.prog 17 #[v, (Go.Value.agg #[Go.Value.int Go.IntKind.i64 x, Go.Value.int Go.IntKind.i64 y, Go.Value.int Go.IntKind.i64 z])] w fun e w' => e = .returned (.tuple #[verV u, .bool ok]) ∧ Below w.heap.size w w' := by
  obtain ⟨ao, cap, rfl, h1, h2, h3⟩ := h
  rcases ha with ⟨hr, rfl, rfl⟩ | ⟨hr, hc, rfl, rfl⟩ | ⟨hr, rfl, n, hc, rfl⟩
  · have := refAt_row w x y z ao _ cap l 0 false rfl h1 h2 h3 hr (fun e => by cases e) (fun _ => rfl)
    rwa [show foundAt l 0 l.length = ver0 by unfold foundAt; rw [if_pos (by omega)]] at this
  · have := refAt_row w x y z ao _ cap l 0 true rfl h1 h2 h3 hr (fun _ => hc) (fun e => by cases e)
    rwa [show foundAt l 0 l.length = ver0 by unfold foundAt; rw [if_pos (by omega)]] at this
  · have := refAt_row w x y z ao _ cap l (n + 1) true rfl h1 h2 h3 hr (fun _ => hc) (fun e => by cases e)
    have hn := hc.1
    rwa [show foundAt l (n + 1) l.length = vat l n by unfold foundAt; rw [if_neg (by omega), show min l.length (n + 1) - 1 = n by omega], show decide (0 < n + 1) = true by simp] at this

end Go.Proofs.Ytbboamfjkdcjeaa
