/-
  The walk of ChainAdds, over what it asks of package chain.
-/
import Derived.Test.YtbboamfjkdcjeaaChBehind
import Derived.Test.YtbboamfjkdcjeaaVrRefEqual
import Derived.Test.YtbboamfjkdcjeaaVrRefRight
set_option linter.unusedVariables false
namespace Go.Proofs.Ytbboamfjkdcjeaa
open Go.RowKit

/-- The version, the chain and what Add gave, in memory. -/
def KA (w : World) (a b c : Int) (g : Bool) (s : ByteArray) (v : Value) (l : List Ver) (v1 : Value) (m : List Ver) (W : World) : Prop := Below w.heap.size w W ∧ VBox W w.heap.size a b c g s ∧ Vers W v l ∧ Vers W v1 m
theorem KA.next {w W W' : World} {a b c : Int} {g : Bool} {s : ByteArray} {v v1 : Value} {l m : List Ver} (H : KA w a b c g s v l v1 m W) (hb : Below W.heap.size W W') : KA w a b c g s v l v1 m W' := ⟨H.1.trans (hb.mono H.1.size), H.2.1.over hb, H.2.2.1.next hb, H.2.2.2.next hb⟩
/-- And one version in a row. -/
def KL (w : World) (a b c : Int) (g : Bool) (s : ByteArray) (v : Value) (l : List Ver) (v1 : Value) (m : List Ver) (b1 o1 : Nat) (u : Ver) (W : World) : Prop := KA w a b c g s v l v1 m W ∧ b1 < W.heap.size ∧ VerAt W b1 o1 u
theorem KL.next {w W W' : World} {a b c : Int} {g : Bool} {s : ByteArray} {v v1 : Value} {l m : List Ver} {b1 o1 : Nat} {u : Ver} (H : KL w a b c g s v l v1 m b1 o1 u W) (hb : Below W.heap.size W W') : KL w a b c g s v l v1 m b1 o1 u W' := ⟨H.1.next hb, Nat.lt_of_lt_of_le H.2.1 hb.size, H.2.2.next hb H.2.1⟩
theorem KL.drew {w W : World} {a b c : Int} {g : Bool} {s : ByteArray} {v v1 : Value} {l m : List Ver} {b1 o1 : Nat} {u : Ver} (H : KL w a b c g s v l v1 m b1 o1 u W) : KL w a b c g s v l v1 m b1 o1 u W.drew := H.next ((Below.refl _ _).drew)
theorem KA.drew {w W : World} {a b c : Int} {g : Bool} {s : ByteArray} {v v1 : Value} {l m : List Ver} (H : KA w a b c g s v l v1 m W) : KA w a b c g s v l v1 m W.drew := H.next ((Below.refl _ _).drew)
theorem vers_prefix {W : World} {b off n cap : Nat} {l : List Ver} {u : Ver} (hn : l.length = n) (h : Vers W (.slice (some ⟨b, off, none⟩) (n + 1) cap) (l ++ [u])) : Vers W (.slice (some ⟨b, off, none⟩) n cap) l := by
  obtain ⟨ao, cap', e, h1, h2, h3⟩ := h
  injection e with e1 e2 e3
  subst e1; subst e3
  refine ⟨_, cap, by rw [hn], by simp at h1; omega, h2, fun hp => ?_⟩
  obtain ⟨b', off', e4, h4, h5⟩ := h3 (by simp)
  injection e4 with e4
  injection e4 with e5 e6
  subst e5; subst e6
  refine ⟨b, off, rfl, h4, fun i hi => ?_⟩
  have h6 := h5 i (by simp; omega)
  rwa [vat_snoc, if_pos hi] at h6
theorem vers_last {W : World} {v : Value} {n : Nat} {l : List Ver} (hn : l.length = n + 1) (h : Vers W v l) : ∃ b off cap, v = .slice (some ⟨b, off, none⟩) (n + 1) cap ∧ n + 1 ≤ cap ∧ cap ≤ maxLen ∧ b < W.heap.size ∧ VerAt W b (off + n * 5) (vat l n) := by
  obtain ⟨ao, cap, rfl, h1, h2, h3⟩ := h
  obtain ⟨b, off, rfl, h4, h5⟩ := h3 (by omega)
  exact ⟨b, off, cap, by rw [hn], by omega, h2, h4, h5 n (by omega)⟩

set_option maxRecDepth 100000 in
set_option maxHeartbeats 2000000 in
theorem chainAdds_core (HF : FAwake) (HA : FAdd) (HR : FRight) (w : World) (v : Value) (l : List Ver) (a b c : Int) (g : Bool) (s : ByteArray) (hv : Vers w v l) : Calls Try.prog 3 #[v, (Go.Value.agg #[Go.Value.int Go.IntKind.i64 a, Go.Value.int Go.IntKind.i64 b, Go.Value.int Go.IntKind.i64 c, Go.Value.bool g, Go.Value.string s])] w fun e w' => e = .returned (.bool true) ∧ Below w.heap.size w w' := by
  have HAW : Hid (∀ W, Calls Try.prog 9 #[] W fun e w' => e = .returned (.bool true) ∧ Below W.heap.size W w') := fun W => HF W
  obtain ⟨m, e, hm⟩ := add_ex l (a, b, c, g, s)
  obtain ⟨ao, n, cap, rfl, hn⟩ := vers_slice hv
  obtain ⟨r, hr⟩ : ∃ r, r = rightC l := ⟨_, rfl⟩
  obtain ⟨o, ho⟩ : ∃ o, o = oneB (a, b, c, g, s) := ⟨_, rfl⟩
  have A1 : Hid (∀ W, Vers W (.slice ao n cap) l → Calls Try.prog 10 #[.slice ao n cap, (Go.Value.agg #[Go.Value.int Go.IntKind.i64 a, Go.Value.int Go.IntKind.i64 b, Go.Value.int Go.IntKind.i64 c, Go.Value.bool g, Go.Value.string s])] W fun e' w' => ∃ v', e' = .returned (.tuple #[v', .int .i64 e]) ∧ Vers w' v' m ∧ Below W.heap.size W w') := fun W h => HA W _ l a b c g s m e h hm
  have A2 : Hid (∀ W, Vers W (.slice ao n cap) l → Calls Try.prog 11 #[.slice ao n cap] W fun e w' => e = .returned (.bool r) ∧ Below W.heap.size W w') := fun W h => by rw [hr]; exact refCRight_any h
  have A3 : Hid (∀ W, Vers W (.slice ao n cap) l → Calls Try.prog 14 #[.slice ao n cap] W fun e w' => e = .returned (.bool r) ∧ Below W.heap.size W w') := fun W h => by rw [hr]; exact HR W _ l h
  have A4 : Hid (∀ W, Calls Try.prog 12 #[(Go.Value.agg #[Go.Value.int Go.IntKind.i64 a, Go.Value.int Go.IntKind.i64 b, Go.Value.int Go.IntKind.i64 c, Go.Value.bool g, Go.Value.string s])] W fun e w' => e = .returned (.bool o) ∧ Below W.heap.size W w') := fun W => by rw [ho]; exact refOne_any a b c g s W
  have HB0 : Below w.heap.size w (w.alloc (.cells #[.int .i64 a, .int .i64 b, .int .i64 c, .bool g, .string s] 26)) := (Below.refl _ _).alloc (Nat.le_refl _) _
  have H0 : Hid (Below w.heap.size w (w.alloc (.cells #[.int .i64 a, .int .i64 b, .int .i64 c, .bool g, .string s] 26)) ∧ VBox (w.alloc (.cells #[.int .i64 a, .int .i64 b, .int .i64 c, .bool g, .string s] 26)) w.heap.size a b c g s ∧ Vers (w.alloc (.cells #[.int .i64 a, .int .i64 b, .int .i64 c, .bool g, .string s] 26)) (.slice ao n cap) l) := ⟨HB0, VBox.new _ _ _ _ _ _, hv.next HB0⟩
  have HM : Hid (IsAdd l (a, b, c, g, s) m e) := hm
  have HN := Lib.hid hn
  have HRR := Lib.hid hr
  have HO := Lib.hid ho
  clear hv hm hn hr ho HB0 HA HR HF
  by_cases h100 : 100 < n
  · go_enter Try.func3, Try.ntmps3
    go_wp2_with fail
    refine (HAW.out _).mono ?_
    rintro e w9 ⟨rfl, hb9⟩
    go_wp2_with fail
    go_ret
    exact ⟨rfl, H0.out.1.trans (hb9.mono H0.out.1.size)⟩
  have hcase : (r = false ∧ m = [] ∧ e = 1) ∨ (r = true ∧ o = false ∧ m = [] ∧ e = 1) ∨ (r = true ∧ o = true ∧ 0 < n ∧ befV (vat l (l.length - 1)) (a, b, c, g, s) = false ∧ m = [] ∧ e = 9) ∨ (r = true ∧ o = true ∧ n = 64 ∧ befV (vat l (l.length - 1)) (a, b, c, g, s) = true ∧ m = [] ∧ e = 6) ∨ (r = true ∧ o = true ∧ n = 0 ∧ m = l ++ [(a, b, c, g, s)] ∧ e = 0) ∨ (r = true ∧ o = true ∧ 0 < n ∧ n < 64 ∧ befV (vat l (l.length - 1)) (a, b, c, g, s) = true ∧ m = l ++ [(a, b, c, g, s)] ∧ e = 0) := by
    have hn := HN.out
    have hr := HRR.out
    have ho := HO.out
    rcases HM.out with ⟨h1, h2, h3⟩ | ⟨h1, h2, h3, h4, h5, h6⟩ | ⟨h1, h2, h3, h4, h5, h6⟩ | ⟨h1, h2, h3, h4, h5, h6⟩
    · cases r
      · exact .inl ⟨rfl, h2, h3⟩
      · rw [← hr, ← ho] at h1
        rcases h1 with h1 | h1
        · cases h1
        · exact .inr (.inl ⟨rfl, h1, h2, h3⟩)
    · exact .inr (.inr (.inl ⟨by rw [hr, h1], by rw [ho, h2], by omega, h4, h5, h6⟩))
    · have h7 := (rightC_spec h1).1
      rcases h3 with h3 | h3
      · omega
      · exact .inr (.inr (.inr (.inl ⟨by rw [hr, h1], by rw [ho, h2], by omega, h3, h5, h6⟩)))
    · by_cases h0 : n = 0
      · exact .inr (.inr (.inr (.inr (.inl ⟨by rw [hr, h1], by rw [ho, h2], h0, h5, h6⟩))))
      · rcases h3 with h3 | h3
        · omega
        · exact .inr (.inr (.inr (.inr (.inr ⟨by rw [hr, h1], by rw [ho, h2], by omega, by omega, h3, h5, h6⟩))))
  have HRT : Hid (r = true → rightC l = true) := fun h => by rw [← HRR.out, h]
  clear HM HRR HO
  rcases hcase with ⟨rfl, rfl, rfl⟩ | ⟨rfl, rfl, rfl, rfl⟩ | ⟨rfl, rfl, hn0, hbe, rfl, rfl⟩ | ⟨rfl, rfl, hn64e, hbe, rfl, rfl⟩ | ⟨rfl, rfl, hn0e, rfl, rfl⟩ | ⟨rfl, rfl, hn0, hn64, hbe, rfl, rfl⟩
  · go_enter Try.func3, Try.ntmps3
    go_wp2_with fail
    refine (A1.out _ H0.out.2.2).mono ?_
    rintro e' w1 ⟨v1, rfl, hv1, hb1⟩
    have H1' : KA w a b c g s (.slice ao n cap) l v1 [] w1 := ⟨H0.out.1.trans (hb1.mono H0.out.1.size), H0.out.2.1.over hb1, H0.out.2.2.next hb1, hv1⟩
    obtain ⟨ao1, n1, cap1, rfl, hn1⟩ := vers_slice hv1
    have H1 := Lib.hid H1'
    clear hb1 H0 A1 H1' hv1
    obtain rfl : n1 = 0 := by rw [← hn1]; rfl
    clear hn1
    go_wp2_with fail
    refine (A2.out _ H1.out.2.2.1).mono ?_
    rintro e' w2 ⟨rfl, hb2⟩
    have H2 := Lib.hid (H1.out.next hb2)
    clear hb2 H1 A2
    go_wp2_with fail
    refine (A3.out _ H2.out.2.2.1).mono ?_
    rintro e' w5 ⟨rfl, hb5⟩
    have hb := H2.out.1.trans (hb5.mono H2.out.1.size)
    go_wp2_with fail
    refine (HAW.out _).mono ?_
    rintro e' w9 ⟨rfl, hb9⟩
    go_wp2_with fail
    go_ret
    exact ⟨rfl, hb.trans (hb9.mono hb.size)⟩
  · go_enter Try.func3, Try.ntmps3
    go_wp2_with fail
    refine (A1.out _ H0.out.2.2).mono ?_
    rintro e' w1 ⟨v1, rfl, hv1, hb1⟩
    have H1' : KA w a b c g s (.slice ao n cap) l v1 [] w1 := ⟨H0.out.1.trans (hb1.mono H0.out.1.size), H0.out.2.1.over hb1, H0.out.2.2.next hb1, hv1⟩
    obtain ⟨ao1, n1, cap1, rfl, hn1⟩ := vers_slice hv1
    have H1 := Lib.hid H1'
    clear hb1 H0 A1 H1' hv1
    obtain rfl : n1 = 0 := by rw [← hn1]; rfl
    clear hn1
    go_wp2_with fail
    refine (A2.out _ H1.out.2.2.1).mono ?_
    rintro e' w2 ⟨rfl, hb2⟩
    have H2 := Lib.hid (H1.out.next hb2)
    clear hb2 H1 A2
    obtain ⟨x0, x1, x2, x3, x4⟩ := H2.out.2.1.cell
    go_wp2_with fail
    refine (A4.out _).mono ?_
    rintro e' w3 ⟨rfl, hb3⟩
    have H3 := Lib.hid (H2.out.next hb3)
    clear hb3 H2 x0 x1 x2 x3 x4
    go_wp2_with fail
    refine (A3.out _ H3.out.2.2.1).mono ?_
    rintro e' w5 ⟨rfl, hb5⟩
    have hb := H3.out.1.trans (hb5.mono H3.out.1.size)
    go_wp2_with fail
    refine (HAW.out _).mono ?_
    rintro e' w9 ⟨rfl, hb9⟩
    go_wp2_with fail
    go_ret
    exact ⟨rfl, hb.trans (hb9.mono hb.size)⟩
  · obtain ⟨k, rfl⟩ : ∃ k, n = k + 1 := ⟨n - 1, by omega⟩
    have HBE := Lib.hid hbe
    clear hbe hn0
    go_enter Try.func3, Try.ntmps3
    go_wp2_with fail
    refine (A1.out _ H0.out.2.2).mono ?_
    rintro e' w1 ⟨v1, rfl, hv1, hb1⟩
    have H1' : KA w a b c g s (.slice ao (k + 1) cap) l v1 [] w1 := ⟨H0.out.1.trans (hb1.mono H0.out.1.size), H0.out.2.1.over hb1, H0.out.2.2.next hb1, hv1⟩
    obtain ⟨ao1, n1, cap1, rfl, hn1⟩ := vers_slice hv1
    have H1 := Lib.hid H1'
    clear hb1 H0 A1 H1' hv1
    obtain rfl : n1 = 0 := by rw [← hn1]; rfl
    clear hn1
    go_wp2_with fail
    refine (A2.out _ H1.out.2.2.1).mono ?_
    rintro e' w2 ⟨rfl, hb2⟩
    have H2 := Lib.hid (H1.out.next hb2)
    clear hb2 H1 A2
    obtain ⟨x0, x1, x2, x3, x4⟩ := H2.out.2.1.cell
    go_wp2_with fail
    refine (A4.out _).mono ?_
    rintro e' w3 ⟨rfl, hb3⟩
    have H3 := Lib.hid (H2.out.next hb3)
    clear hb3 H2 x0 x1 x2 x3 x4
    obtain ⟨b1, o1, cap', hsl, _, _, hbl, hvl⟩ := vers_last HN.out H3.out.2.2.1
    injection hsl with e1 e2 e3
    subst e1; subst e3
    have HKL : Hid (KL w a b c g s (.slice (some ⟨b1, o1, none⟩) (k + 1) cap) l (.slice ao1 0 cap1) [] b1 (o1 + k * 5) (vat l k) w3) := ⟨H3.out, hbl, hvl⟩
    clear H3 hbl hvl e2
    obtain ⟨u, hu⟩ : ∃ u, u = vat l k := ⟨_, rfl⟩
    rw [← hu] at HKL
    obtain ⟨ua, ub, uc, ug, us⟩ := u
    have HBF : Hid (∀ W, Calls Try.prog 13 #[(Go.Value.agg #[Go.Value.int Go.IntKind.i64 ua, Go.Value.int Go.IntKind.i64 ub, Go.Value.int Go.IntKind.i64 uc]), (Go.Value.agg #[Go.Value.int Go.IntKind.i64 a, Go.Value.int Go.IntKind.i64 b, Go.Value.int Go.IntKind.i64 c])] W fun e w' => e = .returned (.bool false) ∧ Below W.heap.size W w') := by
      intro W
      have h1 := Before_any ua ub uc a b c W
      have h2 : befB ua ub uc a b c = false := by
        have h3 := HBE.out
        rw [HN.out, Nat.add_sub_cancel, ← hu] at h3
        exact h3
      rw [h2] at h1
      exact h1
    clear hu
    have q1 := IntWalk.i64_in (k : Int) (by omega)
    have q2 : k < k + 1 := by omega
    have q5 : (k : Int) < (k : Int) + 1 := by omega
    go_upto_region 8 with (fail)
    refine wp_region_calm (KL w a b c g s (.slice (some ⟨b1, o1, none⟩) (k + 1) cap) l (.slice ao1 0 cap1) [] b1 (o1 + k * 5) (ua, ub, uc, ug, us)) (by kernel_rfl) (by kernel_rfl) HKL.out.drew ?_
    repeat ((with_reducible refine wpQuiet_step (fun K hK => ?_)); go_simp; first | (refine hK _ ?_; clear hK K) | (apply Exists.intro; refine ⟨fun wc hwc => ?_, hK _ ?_⟩; (focus (first | (first | (go_at_call 13; refine (HBF.out _).mono ?_; rintro e w1 ⟨rfl, hb1⟩; exact ⟨rfl, hwc.next hb1⟩)) | (((obtain ⟨hka, _, ⟨y0, y1, y2, _⟩⟩ := hwc; obtain ⟨x0, x1, x2, x3, x4⟩ := hka.2.1.cell; dsimp only at y0 y1 y2)); go_simp; done) | (((obtain ⟨hka, _, ⟨y0, y1, y2, _⟩⟩ := hwc; obtain ⟨x0, x1, x2, x3, x4⟩ := hka.2.1.cell; dsimp only at y0 y1 y2)); go_simp; exact rfl))); clear hK K))
    refine wpQuiet_nil ?_
    intro wc hwc
    have H4 := Lib.hid hwc.1
    clear hwc HKL q1 q2 q5 HBF
    go_wp2_with fail
    refine (A3.out _ H4.out.2.2.1).mono ?_
    rintro e' w5 ⟨rfl, hb5⟩
    have hb := H4.out.1.trans (hb5.mono H4.out.1.size)
    go_wp2_with fail
    refine (HAW.out _).mono ?_
    rintro e' w9 ⟨rfl, hb9⟩
    go_wp2_with fail
    go_ret
    exact ⟨rfl, hb.trans (hb9.mono hb.size)⟩
  · obtain ⟨k, rfl⟩ : ∃ k, n = k + 1 := ⟨n - 1, by omega⟩
    have HBE := Lib.hid hbe
    have q7 : decide ((63 : Int) < (k : Int) + 1) = true := by simp only [decide_eq_true_eq]; omega
    have hk99 : k ≤ 99 := by omega
    clear hbe hn64e
    go_enter Try.func3, Try.ntmps3
    go_wp2_with fail
    refine (A1.out _ H0.out.2.2).mono ?_
    rintro e' w1 ⟨v1, rfl, hv1, hb1⟩
    have H1' : KA w a b c g s (.slice ao (k + 1) cap) l v1 [] w1 := ⟨H0.out.1.trans (hb1.mono H0.out.1.size), H0.out.2.1.over hb1, H0.out.2.2.next hb1, hv1⟩
    obtain ⟨ao1, n1, cap1, rfl, hn1⟩ := vers_slice hv1
    have H1 := Lib.hid H1'
    clear hb1 H0 A1 H1' hv1
    obtain rfl : n1 = 0 := by rw [← hn1]; rfl
    clear hn1
    go_wp2_with fail
    refine (A2.out _ H1.out.2.2.1).mono ?_
    rintro e' w2 ⟨rfl, hb2⟩
    have H2 := Lib.hid (H1.out.next hb2)
    clear hb2 H1 A2
    obtain ⟨x0, x1, x2, x3, x4⟩ := H2.out.2.1.cell
    go_wp2_with fail
    refine (A4.out _).mono ?_
    rintro e' w3 ⟨rfl, hb3⟩
    have H3 := Lib.hid (H2.out.next hb3)
    clear hb3 H2 x0 x1 x2 x3 x4
    obtain ⟨b1, o1, cap', hsl, _, _, hbl, hvl⟩ := vers_last HN.out H3.out.2.2.1
    injection hsl with e1 e2 e3
    subst e1; subst e3
    have HKL : Hid (KL w a b c g s (.slice (some ⟨b1, o1, none⟩) (k + 1) cap) l (.slice ao1 0 cap1) [] b1 (o1 + k * 5) (vat l k) w3) := ⟨H3.out, hbl, hvl⟩
    clear H3 hbl hvl e2
    obtain ⟨u, hu⟩ : ∃ u, u = vat l k := ⟨_, rfl⟩
    rw [← hu] at HKL
    obtain ⟨ua, ub, uc, ug, us⟩ := u
    have HBF : Hid (∀ W, Calls Try.prog 13 #[(Go.Value.agg #[Go.Value.int Go.IntKind.i64 ua, Go.Value.int Go.IntKind.i64 ub, Go.Value.int Go.IntKind.i64 uc]), (Go.Value.agg #[Go.Value.int Go.IntKind.i64 a, Go.Value.int Go.IntKind.i64 b, Go.Value.int Go.IntKind.i64 c])] W fun e w' => e = .returned (.bool true) ∧ Below W.heap.size W w') := by
      intro W
      have h1 := Before_any ua ub uc a b c W
      have h2 : befB ua ub uc a b c = true := by
        have h3 := HBE.out
        rw [HN.out, Nat.add_sub_cancel, ← hu] at h3
        exact h3
      rw [h2] at h1
      exact h1
    clear hu
    have q1 := IntWalk.i64_in (k : Int) (by omega)
    have q2 : k < k + 1 := by omega
    have q5 : (k : Int) < (k : Int) + 1 := by omega
    go_upto_region 8 with (fail)
    refine wp_region_calm (KL w a b c g s (.slice (some ⟨b1, o1, none⟩) (k + 1) cap) l (.slice ao1 0 cap1) [] b1 (o1 + k * 5) (ua, ub, uc, ug, us)) (by kernel_rfl) (by kernel_rfl) HKL.out.drew ?_
    repeat ((with_reducible refine wpQuiet_step (fun K hK => ?_)); go_simp; first | (refine hK _ ?_; clear hK K) | (apply Exists.intro; refine ⟨fun wc hwc => ?_, hK _ ?_⟩; (focus (first | (first | (go_at_call 13; refine (HBF.out _).mono ?_; rintro e w1 ⟨rfl, hb1⟩; exact ⟨rfl, hwc.next hb1⟩)) | (((obtain ⟨hka, _, ⟨y0, y1, y2, _⟩⟩ := hwc; obtain ⟨x0, x1, x2, x3, x4⟩ := hka.2.1.cell; dsimp only at y0 y1 y2)); go_simp; done) | (((obtain ⟨hka, _, ⟨y0, y1, y2, _⟩⟩ := hwc; obtain ⟨x0, x1, x2, x3, x4⟩ := hka.2.1.cell; dsimp only at y0 y1 y2)); go_simp; exact rfl))); clear hK K))
    refine wpQuiet_nil ?_
    intro wc hwc
    have H4 := Lib.hid hwc.1
    clear hwc HKL q1 q2 q5 HBF
    go_wp2_with fail
    refine (A3.out _ H4.out.2.2.1).mono ?_
    rintro e' w5 ⟨rfl, hb5⟩
    have hb := H4.out.1.trans (hb5.mono H4.out.1.size)
    go_wp2_with fail
    refine (HAW.out _).mono ?_
    rintro e' w9 ⟨rfl, hb9⟩
    go_wp2_with fail
    go_ret
    exact ⟨rfl, hb.trans (hb9.mono hb.size)⟩
  · have hn00 : ¬ 0 < n := by omega
    clear hn0e
    go_enter Try.func3, Try.ntmps3
    go_wp2_with fail
    refine (A1.out _ H0.out.2.2).mono ?_
    rintro e' w1 ⟨v1, rfl, hv1, hb1⟩
    have H1' : KA w a b c g s (.slice ao n cap) l v1 (l ++ [(a, b, c, g, s)]) w1 := ⟨H0.out.1.trans (hb1.mono H0.out.1.size), H0.out.2.1.over hb1, H0.out.2.2.next hb1, hv1⟩
    obtain ⟨ao1, n1, cap1, rfl, hn1⟩ := vers_slice hv1
    have H1 := Lib.hid H1'
    clear hb1 H0 A1 H1' hv1
    obtain rfl : n1 = n + 1 := by rw [← hn1, List.length_append, HN.out]; rfl
    clear hn1
    go_wp2_with fail
    refine (A2.out _ H1.out.2.2.1).mono ?_
    rintro e' w2 ⟨rfl, hb2⟩
    have H2 := Lib.hid (H1.out.next hb2)
    clear hb2 H1 A2
    obtain ⟨x0, x1, x2, x3, x4⟩ := H2.out.2.1.cell
    go_wp2_with fail
    refine (A4.out _).mono ?_
    rintro e' w3 ⟨rfl, hb3⟩
    have H3 := Lib.hid (H2.out.next hb3)
    clear hb3 H2 x0 x1 x2 x3 x4
    obtain ⟨b2, o2, cap2, hsl2, hc2, hm2, hbl2, hvl2⟩ := vers_last (by rw [List.length_append, HN.out]; rfl) H3.out.2.2.2
    injection hsl2 with e1 e2 e3
    subst e1; subst e3
    have hv6 : vat (l ++ [(a, b, c, g, s)]) n = (a, b, c, g, s) := by rw [vat_snoc, HN.out, if_neg (Nat.lt_irrefl _), if_pos rfl]
    rw [hv6] at hvl2
    have HKM : Hid (KL w a b c g s (.slice ao n cap) l (.slice (some ⟨b2, o2, none⟩) (n + 1) cap1) (l ++ [(a, b, c, g, s)]) b2 (o2 + n * 5) (a, b, c, g, s) w3) := ⟨H3.out, hbl2, hvl2⟩
    have q3 : n + 1 ≤ cap1 := hc2
    have q4 : cap1 ≤ maxLen := hm2
    clear H3 hbl2 hvl2 hv6 hc2 hm2 e2
    have q6 : n ≤ cap1 := by omega
    have q8 : n < n + 1 := by omega
    have q9 := IntWalk.i64_in ((n : Int) + 1) (by omega)
    have q5 : (n : Int) < (n : Int) + 1 := by omega
    go_upto_region 8 with (fail)
    refine wp_region_calm (KL w a b c g s (.slice ao n cap) l (.slice (some ⟨b2, o2, none⟩) (n + 1) cap1) (l ++ [(a, b, c, g, s)]) b2 (o2 + n * 5) (a, b, c, g, s)) (by kernel_rfl) (by kernel_rfl) HKM.out.drew ?_
    repeat ((with_reducible refine wpQuiet_step (fun K hK => ?_)); go_simp; first | (refine hK _ ?_; clear hK K) | (apply Exists.intro; refine ⟨fun wc hwc => ?_, hK _ ?_⟩; (focus (first | (first | (go_at_call 15; refine (refEqual_any (l := l) (vers_prefix HN.out hwc.1.2.2.2) hwc.1.2.2.1).mono ?_; rintro e w1 ⟨rfl, hb1⟩; exact ⟨rfl, hwc.next hb1⟩) | (go_at_call 14; refine (A3.out _ hwc.1.2.2.1).mono ?_; rintro e w1 ⟨rfl, hb1⟩; exact ⟨rfl, hwc.next hb1⟩) | (go_at_call 9; refine (HAW.out _).mono ?_; rintro e w1 ⟨rfl, hb1⟩; exact ⟨rfl, hwc.next hb1⟩)) | (((obtain ⟨hka, _, ⟨y0, y1, y2, y3, y4⟩⟩ := hwc; obtain ⟨x0, x1, x2, x3, x4⟩ := hka.2.1.cell; dsimp only at y0 y1 y2 y3 y4)); go_simp; done) | (((obtain ⟨hka, _, ⟨y0, y1, y2, y3, y4⟩⟩ := hwc; obtain ⟨x0, x1, x2, x3, x4⟩ := hka.2.1.cell; dsimp only at y0 y1 y2 y3 y4)); go_simp; exact rfl))); clear hK K))
    refine wpQuiet_nil ?_
    intro wc hwc
    have HKW := Lib.hid hwc
    clear hwc HKM
    go_upto_region 14 with (fail)
    refine wp_region_calm (KL w a b c g s (.slice ao n cap) l (.slice (some ⟨b2, o2, none⟩) (n + 1) cap1) (l ++ [(a, b, c, g, s)]) b2 (o2 + n * 5) (a, b, c, g, s)) (by kernel_rfl) (by kernel_rfl) HKW.out.drew ?_
    repeat ((with_reducible refine wpQuiet_step (fun K hK => ?_)); go_simp; first | (refine hK _ ?_; clear hK K) | (apply Exists.intro; refine ⟨fun wc hwc => ?_, hK _ ?_⟩; (focus (first | (first | (go_at_call 15; refine (refEqual_any (l := l) (vers_prefix HN.out hwc.1.2.2.2) hwc.1.2.2.1).mono ?_; rintro e w1 ⟨rfl, hb1⟩; exact ⟨rfl, hwc.next hb1⟩) | (go_at_call 14; refine (A3.out _ hwc.1.2.2.1).mono ?_; rintro e w1 ⟨rfl, hb1⟩; exact ⟨rfl, hwc.next hb1⟩) | (go_at_call 9; refine (HAW.out _).mono ?_; rintro e w1 ⟨rfl, hb1⟩; exact ⟨rfl, hwc.next hb1⟩)) | (((obtain ⟨hka, _, ⟨y0, y1, y2, y3, y4⟩⟩ := hwc; obtain ⟨x0, x1, x2, x3, x4⟩ := hka.2.1.cell; dsimp only at y0 y1 y2 y3 y4)); go_simp; done) | (((obtain ⟨hka, _, ⟨y0, y1, y2, y3, y4⟩⟩ := hwc; obtain ⟨x0, x1, x2, x3, x4⟩ := hka.2.1.cell; dsimp only at y0 y1 y2 y3 y4)); go_simp; exact rfl))); clear hK K))
    refine wpQuiet_nil ?_
    intro wc hwc
    go_wp2_with fail
    go_ret
    exact ⟨rfl, hwc.1.1⟩
  · obtain ⟨k, rfl⟩ : ∃ k, n = k + 1 := ⟨n - 1, by omega⟩
    have HBE := Lib.hid hbe
    have q7 : decide ((63 : Int) < (k : Int) + 1) = false := by simp only [decide_eq_false_iff_not]; omega
    clear hbe hn0
    go_enter Try.func3, Try.ntmps3
    go_wp2_with fail
    refine (A1.out _ H0.out.2.2).mono ?_
    rintro e' w1 ⟨v1, rfl, hv1, hb1⟩
    have H1' : KA w a b c g s (.slice ao (k + 1) cap) l v1 (l ++ [(a, b, c, g, s)]) w1 := ⟨H0.out.1.trans (hb1.mono H0.out.1.size), H0.out.2.1.over hb1, H0.out.2.2.next hb1, hv1⟩
    obtain ⟨ao1, n1, cap1, rfl, hn1⟩ := vers_slice hv1
    have H1 := Lib.hid H1'
    clear hb1 H0 A1 H1' hv1
    obtain rfl : n1 = k + 1 + 1 := by rw [← hn1, List.length_append, HN.out]; rfl
    clear hn1
    go_wp2_with fail
    refine (A2.out _ H1.out.2.2.1).mono ?_
    rintro e' w2 ⟨rfl, hb2⟩
    have H2 := Lib.hid (H1.out.next hb2)
    clear hb2 H1 A2
    obtain ⟨x0, x1, x2, x3, x4⟩ := H2.out.2.1.cell
    go_wp2_with fail
    refine (A4.out _).mono ?_
    rintro e' w3 ⟨rfl, hb3⟩
    have H3 := Lib.hid (H2.out.next hb3)
    clear hb3 H2 x0 x1 x2 x3 x4
    obtain ⟨b1, o1, cap', hsl, _, _, hbl, hvl⟩ := vers_last HN.out H3.out.2.2.1
    injection hsl with e1 e2 e3
    subst e1; subst e3
    have HKL : Hid (KL w a b c g s (.slice (some ⟨b1, o1, none⟩) (k + 1) cap) l (.slice ao1 (k + 1 + 1) cap1) (l ++ [(a, b, c, g, s)]) b1 (o1 + k * 5) (vat l k) w3) := ⟨H3.out, hbl, hvl⟩
    clear H3 hbl hvl e2
    obtain ⟨u, hu⟩ : ∃ u, u = vat l k := ⟨_, rfl⟩
    rw [← hu] at HKL
    obtain ⟨ua, ub, uc, ug, us⟩ := u
    have HBF : Hid (∀ W, Calls Try.prog 13 #[(Go.Value.agg #[Go.Value.int Go.IntKind.i64 ua, Go.Value.int Go.IntKind.i64 ub, Go.Value.int Go.IntKind.i64 uc]), (Go.Value.agg #[Go.Value.int Go.IntKind.i64 a, Go.Value.int Go.IntKind.i64 b, Go.Value.int Go.IntKind.i64 c])] W fun e w' => e = .returned (.bool true) ∧ Below W.heap.size W w') := by
      intro W
      have h1 := Before_any ua ub uc a b c W
      have h2 : befB ua ub uc a b c = true := by
        have h3 := HBE.out
        rw [HN.out, Nat.add_sub_cancel, ← hu] at h3
        exact h3
      rw [h2] at h1
      exact h1
    clear hu
    have q1 := IntWalk.i64_in (k : Int) (by omega)
    have q2 : k < k + 1 := by omega
    have q5 : (k : Int) < (k : Int) + 1 := by omega
    go_upto_region 8 with (fail)
    refine wp_region_calm (KL w a b c g s (.slice (some ⟨b1, o1, none⟩) (k + 1) cap) l (.slice ao1 (k + 1 + 1) cap1) (l ++ [(a, b, c, g, s)]) b1 (o1 + k * 5) (ua, ub, uc, ug, us)) (by kernel_rfl) (by kernel_rfl) HKL.out.drew ?_
    repeat ((with_reducible refine wpQuiet_step (fun K hK => ?_)); go_simp; first | (refine hK _ ?_; clear hK K) | (apply Exists.intro; refine ⟨fun wc hwc => ?_, hK _ ?_⟩; (focus (first | (first | (go_at_call 13; refine (HBF.out _).mono ?_; rintro e w1 ⟨rfl, hb1⟩; exact ⟨rfl, hwc.next hb1⟩)) | (((obtain ⟨hka, _, ⟨y0, y1, y2, _⟩⟩ := hwc; obtain ⟨x0, x1, x2, x3, x4⟩ := hka.2.1.cell; dsimp only at y0 y1 y2)); go_simp; done) | (((obtain ⟨hka, _, ⟨y0, y1, y2, _⟩⟩ := hwc; obtain ⟨x0, x1, x2, x3, x4⟩ := hka.2.1.cell; dsimp only at y0 y1 y2)); go_simp; exact rfl))); clear hK K))
    refine wpQuiet_nil ?_
    intro wc hwc
    have H4 := Lib.hid hwc.1
    clear hwc HKL q1 q2 q5 HBF
    obtain ⟨b2, o2, cap2, hsl2, hc2, hm2, hbl2, hvl2⟩ := vers_last (by rw [List.length_append, HN.out]; rfl) H4.out.2.2.2
    injection hsl2 with e1 e2 e3
    subst e1; subst e3
    have hv6 : vat (l ++ [(a, b, c, g, s)]) (k + 1) = (a, b, c, g, s) := by rw [vat_snoc, HN.out, if_neg (Nat.lt_irrefl _), if_pos rfl]
    rw [hv6] at hvl2
    have HKM : Hid (KL w a b c g s (.slice (some ⟨b1, o1, none⟩) (k + 1) cap) l (.slice (some ⟨b2, o2, none⟩) ((k + 1) + 1) cap1) (l ++ [(a, b, c, g, s)]) b2 (o2 + (k + 1) * 5) (a, b, c, g, s) wc) := ⟨H4.out, hbl2, hvl2⟩
    have q3 : (k + 1) + 1 ≤ cap1 := hc2
    have q4 : cap1 ≤ maxLen := hm2
    clear H4 hbl2 hvl2 hv6 hc2 hm2 e2
    have q6 : (k + 1) ≤ cap1 := by omega
    have q8 : (k + 1) < (k + 1) + 1 := by omega
    have q9 := IntWalk.i64_in ((k : Int) + 1 + 1) (by omega)
    have q11 : ((k : Int) + 1).toNat = k + 1 := by omega
    have q12 : (0 : Int) ≤ (k : Int) + 1 := by omega
    have q13 : (k : Int) + 1 ≤ (cap1 : Int) := by omega
    have q14 : (k : Int) + 1 < (k : Int) + 1 + 1 := by omega
    go_upto_region 14 with (fail)
    refine wp_region_calm (KL w a b c g s (.slice (some ⟨b1, o1, none⟩) (k + 1) cap) l (.slice (some ⟨b2, o2, none⟩) ((k + 1) + 1) cap1) (l ++ [(a, b, c, g, s)]) b2 (o2 + (k + 1) * 5) (a, b, c, g, s)) (by kernel_rfl) (by kernel_rfl) HKM.out.drew ?_
    repeat ((with_reducible refine wpQuiet_step (fun K hK => ?_)); go_simp; first | (refine hK _ ?_; clear hK K) | (apply Exists.intro; refine ⟨fun wc hwc => ?_, hK _ ?_⟩; (focus (first | (first | (go_at_call 15; refine (refEqual_any (l := l) (vers_prefix HN.out hwc.1.2.2.2) hwc.1.2.2.1).mono ?_; rintro e w1 ⟨rfl, hb1⟩; exact ⟨rfl, hwc.next hb1⟩) | (go_at_call 14; refine (A3.out _ hwc.1.2.2.1).mono ?_; rintro e w1 ⟨rfl, hb1⟩; exact ⟨rfl, hwc.next hb1⟩) | (go_at_call 9; refine (HAW.out _).mono ?_; rintro e w1 ⟨rfl, hb1⟩; exact ⟨rfl, hwc.next hb1⟩)) | (((obtain ⟨hka, _, ⟨y0, y1, y2, y3, y4⟩⟩ := hwc; obtain ⟨x0, x1, x2, x3, x4⟩ := hka.2.1.cell; dsimp only at y0 y1 y2 y3 y4)); go_simp; done) | (((obtain ⟨hka, _, ⟨y0, y1, y2, y3, y4⟩⟩ := hwc; obtain ⟨x0, x1, x2, x3, x4⟩ := hka.2.1.cell; dsimp only at y0 y1 y2 y3 y4)); go_simp; exact rfl))); clear hK K))
    refine wpQuiet_nil ?_
    intro wc hwc
    go_wp2_with fail
    go_ret
    exact ⟨rfl, hwc.1.1⟩

end Go.Proofs.Ytbboamfjkdcjeaa
