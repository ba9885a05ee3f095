/-
  Merged texts, in build order: InPutA InPutB InPut IxAwake IxCode IxRefEqual.
-/
import Derived.Test.YtkmmifonandkoaaDoorG06
import Derived.Test.YtkmmifonandkoaaDoorG08
import Derived.Test.YtkmmifonandkoaaDoorG07
import Derived.Test.YtkmmifonandkoaaDoorG03

/-
  The contract of index.Put.
-/
set_option linter.unusedVariables false
namespace Go.Proofs.YtkmmifonandkoaaDoor
open Go.RowKit

/-- The version's box. -/
def PvRel (w : World) (a b c : Int) (g : Bool) (s : ByteArray) (W : World) : Prop := Below w.heap.size w W ∧ VBox W w.heap.size a b c g s
theorem PvRel.next {w W W' : World} {a b c : Int} {g : Bool} {s : ByteArray} (H : PvRel w a b c g s W) (hb : Below W.heap.size W W') : PvRel w a b c g s W' := ⟨H.1.trans (hb.mono H.1.size), H.2.over hb⟩
theorem PvRel.new (w : World) (a b c : Int) (g : Bool) (s : ByteArray) : PvRel w a b c g s (w.alloc (.cells #[.int .i64 a, .int .i64 b, .int .i64 c, .bool g, .string s] 26)) := ⟨(Below.refl _ _).alloc (Nat.le_refl _) _, VBox.new _ _ _ _ _ _⟩
/-- One entry in a block of its own, as a slice. -/
theorem ent_lit {w : World} {k : ByteArray} {p : Option Addr} {n c : Nat} {cl : List Ver} (h : Vers w (.slice p n c) cl) : Ents (w.alloc (.cells #[.string k, .slice p n c] 60)) (.slice (some ⟨w.heap.size, 0, none⟩) 1 1) [(k, cl)] := by
  have hx := EBox.new w k (.slice p n c)
  refine ⟨[(k, .slice p n c)], ⟨_, 1, rfl, Nat.le_refl _, by unfold maxLen; omega, fun _ => ⟨w.heap.size, 0, rfl, hx.lt, fun i hi => ?_⟩⟩, rfl, fun i hi => ?_⟩
  · obtain rfl : i = 0 := by simpa using hi
    exact hx.cell
  · obtain rfl : i = 0 := by simpa using hi
    exact ⟨rfl, h.next ((Below.refl _ _).alloc (Nat.le_refl _) _)⟩

set_option maxRecDepth 100000 in
set_option maxHeartbeats 1000000 in
theorem iPut_bad (w : World) (v : Value) (k : ByteArray) (a b c : Int) (g : Bool) (s : ByteArray) (r1 r2 : Bool) (hbad : r1 = false ∨ r2 = false)
    (HR : Hid (∀ W, Below w.heap.size w W → Calls Tryd.prog 16 #[v] W fun e w' => e = .returned (.bool r1) ∧ Below W.heap.size W w'))
    (HK : Hid (∀ W, Calls Tryd.prog 31 #[.string k] W fun e w' => e = .returned (.bool r2) ∧ Below W.heap.size W w')) :
    Calls Tryd.prog 13 #[v, .string k, (Go.Value.agg #[Go.Value.int Go.IntKind.i64 a, Go.Value.int Go.IntKind.i64 b, Go.Value.int Go.IntKind.i64 c, Go.Value.bool g, Go.Value.string s])] w fun e w' => e = .returned (.tuple #[.slice none 0 0, .int .i64 1]) ∧ Below w.heap.size w w' := by
  have HP0 : Hid (PvRel w a b c g s (w.alloc (.cells #[.int .i64 a, .int .i64 b, .int .i64 c, .bool g, .string s] 26))) := PvRel.new w a b c g s
  cases r1
  · clear hbad
    go_enter Tryd.func13, Tryd.ntmps13
    go_wp2_with fail
    refine (HR.out _ HP0.out.1).mono ?_
    rintro e w1 ⟨rfl, hb1⟩
    go_wp2_with fail
    go_ret2
    exact ⟨rfl, (HP0.out.next hb1).1⟩
  · obtain rfl : r2 = false := by rcases hbad with h | h; cases h; exact h
    clear hbad
    go_enter Tryd.func13, Tryd.ntmps13
    go_wp2_with fail
    refine (HR.out _ HP0.out.1).mono ?_
    rintro e w1 ⟨rfl, hb1⟩
    have H1 := Lib.hid (HP0.out.next hb1)
    clear hb1 HP0
    go_wp2_with fail
    refine (HK.out _).mono ?_
    rintro e w2 ⟨rfl, hb2⟩
    go_wp2_with fail
    go_ret2
    exact ⟨rfl, (H1.out.next hb2).1⟩

set_option maxRecDepth 100000 in
set_option maxHeartbeats 2000000 in
theorem iPut_there_err (w : World) (b0 off m cap n : Nat) (k : ByteArray) (a b c : Int) (g : Bool) (s : ByteArray) (u : Value) (er : Int) (he : er = 1 ∨ er = 6 ∨ er = 9) (hnm : n < m) (hmc : m ≤ cap) (hcm : cap ≤ 9223372036854775807)
    (HR : Hid (∀ W, Below w.heap.size w W → Calls Tryd.prog 16 #[Value.slice (some ⟨b0, off, none⟩) m cap] W fun e w' => e = .returned (.bool true) ∧ Below W.heap.size W w'))
    (HK : Hid (∀ W, Calls Tryd.prog 31 #[.string k] W fun e w' => e = .returned (.bool true) ∧ Below W.heap.size W w'))
    (HF : Hid (∀ W, Below w.heap.size w W → Calls Tryd.prog 32 #[Value.slice (some ⟨b0, off, none⟩) m cap, .string k] W fun e w' => e = .returned (.tuple #[.int .i64 n, .bool true]) ∧ Below W.heap.size W w'))
    (HC : Hid (∀ W, Below w.heap.size w W → W.cell? ⟨b0, off + n * 2 + 1, none⟩ = some u)) (HA : Hid (∀ W, Below w.heap.size w W → Calls Tryd.prog 33 #[u, (Go.Value.agg #[Go.Value.int Go.IntKind.i64 a, Go.Value.int Go.IntKind.i64 b, Go.Value.int Go.IntKind.i64 c, Go.Value.bool g, Go.Value.string s])] W fun e w' => e = .returned (.tuple #[.slice none 0 0, .int .i64 er]) ∧ Below W.heap.size W w')) :
    Calls Tryd.prog 13 #[Value.slice (some ⟨b0, off, none⟩) m cap, .string k, (Go.Value.agg #[Go.Value.int Go.IntKind.i64 a, Go.Value.int Go.IntKind.i64 b, Go.Value.int Go.IntKind.i64 c, Go.Value.bool g, Go.Value.string s])] w fun e' w' => ∃ v', e' = .returned (.tuple #[v', .int .i64 er]) ∧ Ents w' v' [] ∧ Below w.heap.size w w' := by
  have HP0 : Hid (PvRel w a b c g s (w.alloc (.cells #[.int .i64 a, .int .i64 b, .int .i64 c, .bool g, .string s] 26))) := PvRel.new w a b c g s
  obtain ⟨r, hr⟩ : ∃ r, m - n = r := ⟨_, rfl⟩
  obtain ⟨c2, hc2⟩ : ∃ c2, cap - n = c2 := ⟨_, rfl⟩
  obtain ⟨r1, hr1⟩ : ∃ r1, r - 1 = r1 := ⟨_, rfl⟩
  obtain ⟨c3, hc3⟩ : ∃ c3, c2 - 1 = c3 := ⟨_, rfl⟩
  have q1 : n ≤ cap := by omega
  have q2 : ¬ n = cap := by omega
  have q3 : ¬ cap ≤ n := by omega
  have q4 : ¬ c2 = 0 := by omega
  have q5 : n ≤ m := by omega
  have q6 : 1 ≤ r := by omega
  have q7 : 0 < r := by omega
  have q8 : 1 ≤ c2 := by omega
  have q9 : r ≤ c2 := by omega
  have q13 : ¬ r = 0 := by omega
  have q14 : ¬ (r : Int) < 1 := by omega
  have q15 : (1 : Int) ≤ (r : Int) := by omega
  have q16 : ¬ c2 < r := by omega
  have HQ : Hid (c2 = c3 + 1) := by show _ = _; omega
  rcases Nat.eq_zero_or_pos c3 with h0 | h0
  · subst h0
    obtain rfl : c2 = 1 := HQ.out
    clear hc3
    rcases he with rfl | rfl | rfl
    all_goals
      go_enter Tryd.func13, Tryd.ntmps13
      go_wp2_with fail
      refine (HR.out _ HP0.out.1).mono ?_
      rintro e w1 ⟨rfl, hb1⟩
      have HP1 := Lib.hid (HP0.out.next hb1)
      clear hb1 HP0
      go_wp2_with fail
      refine (HK.out _).mono ?_
      rintro e w2 ⟨rfl, hb2⟩
      have HP2 := Lib.hid (HP1.out.next hb2)
      clear hb2 HP1
      go_wp2_with fail
      refine (HF.out _ HP2.out.1).mono ?_
      rintro e w3 ⟨rfl, hb3⟩
      have HP3 := Lib.hid (HP2.out.next hb3)
      clear hb3 HP2 HR HK HF
      go_upto_region 7 with (fail)
      refine wp_region_calm (PvRel w a b c g s) (by kernel_rfl) (by kernel_rfl) (HP3.out.next (Below.refl _ _).drew) ?_
      repeat ((with_reducible refine wpQuiet_step (fun K hK => ?_)); go_simp; first | (refine hK _ ?_; clear hK K) | (apply Exists.intro; refine ⟨fun wc hwc => ?_, hK _ ?_⟩; (focus (first | (fail) | (((have z0 := HC.out _ hwc.1; clear hwc)); go_simp; done) | (((have z0 := HC.out _ hwc.1; clear hwc)); go_simp; exact rfl))); clear hK K))
      refine wpQuiet_nil ?_
      intro wc hwc
      have HP4 := Lib.hid hwc
      clear hwc HP3 HC
      obtain ⟨x0, x1, x2, x3, x4⟩ := HP4.out.2.cell
      go_wp2_with fail
      refine (HA.out _ HP4.out.1).mono ?_
      rintro e w5 ⟨rfl, hb5⟩
      have HB5 : Hid (Below w.heap.size w w5) := (HP4.out.next hb5).1
      clear hb5 HP4 x0 x1 x2 x3 x4
      go_wp2_with fail
      go_ret2
      exact ⟨_, rfl, ents_nil _, HB5.out⟩
  · have q10 : ¬ c3 = 0 := by omega
    have q11 : ¬ c2 ≤ 1 := by omega
    have q12 : ¬ c2 = 1 := by omega
    rcases he with rfl | rfl | rfl
    all_goals
      go_enter Tryd.func13, Tryd.ntmps13
      go_wp2_with fail
      refine (HR.out _ HP0.out.1).mono ?_
      rintro e w1 ⟨rfl, hb1⟩
      have HP1 := Lib.hid (HP0.out.next hb1)
      clear hb1 HP0
      go_wp2_with fail
      refine (HK.out _).mono ?_
      rintro e w2 ⟨rfl, hb2⟩
      have HP2 := Lib.hid (HP1.out.next hb2)
      clear hb2 HP1
      go_wp2_with fail
      refine (HF.out _ HP2.out.1).mono ?_
      rintro e w3 ⟨rfl, hb3⟩
      have HP3 := Lib.hid (HP2.out.next hb3)
      clear hb3 HP2 HR HK HF
      go_upto_region 7 with (fail)
      refine wp_region_calm (PvRel w a b c g s) (by kernel_rfl) (by kernel_rfl) (HP3.out.next (Below.refl _ _).drew) ?_
      repeat ((with_reducible refine wpQuiet_step (fun K hK => ?_)); go_simp; first | (refine hK _ ?_; clear hK K) | (apply Exists.intro; refine ⟨fun wc hwc => ?_, hK _ ?_⟩; (focus (first | (fail) | (((have z0 := HC.out _ hwc.1; clear hwc)); go_simp; done) | (((have z0 := HC.out _ hwc.1; clear hwc)); go_simp; exact rfl))); clear hK K))
      refine wpQuiet_nil ?_
      intro wc hwc
      have HP4 := Lib.hid hwc
      clear hwc HP3 HC
      obtain ⟨x0, x1, x2, x3, x4⟩ := HP4.out.2.cell
      go_wp2_with fail
      refine (HA.out _ HP4.out.1).mono ?_
      rintro e w5 ⟨rfl, hb5⟩
      have HB5 : Hid (Below w.heap.size w w5) := (HP4.out.next hb5).1
      clear hb5 HP4 x0 x1 x2 x3 x4
      go_wp2_with fail
      go_ret2
      exact ⟨_, rfl, ents_nil _, HB5.out⟩

set_option maxRecDepth 100000 in
set_option maxHeartbeats 2000000 in
theorem iPut_there_ok (w : World) (b0 off m cap n : Nat) (k : ByteArray) (a b c : Int) (g : Bool) (s : ByteArray) (u : Value) (l1 l2 : List Ent) (cl : List Ver) (hnm : n < m) (hmc : m ≤ cap) (hcm : cap ≤ 9223372036854775807)
    (HR : Hid (∀ W, Below w.heap.size w W → Calls Tryd.prog 16 #[Value.slice (some ⟨b0, off, none⟩) m cap] W fun e w' => e = .returned (.bool true) ∧ Below W.heap.size W w'))
    (HK : Hid (∀ W, Calls Tryd.prog 31 #[.string k] W fun e w' => e = .returned (.bool true) ∧ Below W.heap.size W w'))
    (HF : Hid (∀ W, Below w.heap.size w W → Calls Tryd.prog 32 #[Value.slice (some ⟨b0, off, none⟩) m cap, .string k] W fun e w' => e = .returned (.tuple #[.int .i64 n, .bool true]) ∧ Below W.heap.size W w'))
    (HC : Hid (∀ W, Below w.heap.size w W → W.cell? ⟨b0, off + n * 2 + 1, none⟩ = some u)) (HA : Hid (∀ W, Below w.heap.size w W → Calls Tryd.prog 33 #[u, (Go.Value.agg #[Go.Value.int Go.IntKind.i64 a, Go.Value.int Go.IntKind.i64 b, Go.Value.int Go.IntKind.i64 c, Go.Value.bool g, Go.Value.string s])] W fun e w' => ∃ v, e = .returned (.tuple #[v, .int .i64 0]) ∧ OwnsV w' W.heap.size v cl ∧ Below W.heap.size W w')) (HLN : Hid (l1.length + 1 + l2.length ≤ 1000))
    (H1 : Hid (∀ W, Below w.heap.size w W → Calls Tryd.prog 35 #[.slice (some ⟨b0, off, none⟩) n cap] W fun e w' => ∃ v', e = .returned v' ∧ Ents w' v' l1 ∧ Below W.heap.size W w'))
    (H2 : Hid (∀ W (p : Option Addr) (r' cc : Nat), Below w.heap.size w W → r' = m - n - 1 → r' ≤ cc → cc ≤ cap → (0 < r' → ∃ o, p = some ⟨b0, o, none⟩ ∧ o = off + (n + 1) * 2) → Calls Tryd.prog 35 #[.slice p r' cc] W fun e w' => ∃ v', e = .returned v' ∧ Ents w' v' l2 ∧ Below W.heap.size W w')) :
    Calls Tryd.prog 13 #[Value.slice (some ⟨b0, off, none⟩) m cap, .string k, (Go.Value.agg #[Go.Value.int Go.IntKind.i64 a, Go.Value.int Go.IntKind.i64 b, Go.Value.int Go.IntKind.i64 c, Go.Value.bool g, Go.Value.string s])] w fun e' w' => ∃ v', e' = .returned (.tuple #[v', .int .i64 0]) ∧ Ents w' v' (l1 ++ [(k, cl)] ++ l2) ∧ Below w.heap.size w w' := by
  have HP0 : Hid (PvRel w a b c g s (w.alloc (.cells #[.int .i64 a, .int .i64 b, .int .i64 c, .bool g, .string s] 26))) := PvRel.new w a b c g s
  obtain ⟨r, hr⟩ : ∃ r, m - n = r := ⟨_, rfl⟩
  obtain ⟨c2, hc2⟩ : ∃ c2, cap - n = c2 := ⟨_, rfl⟩
  obtain ⟨r1, hr1⟩ : ∃ r1, r - 1 = r1 := ⟨_, rfl⟩
  obtain ⟨c3, hc3⟩ : ∃ c3, c2 - 1 = c3 := ⟨_, rfl⟩
  have q1 : n ≤ cap := by omega
  have q2 : ¬ n = cap := by omega
  have q3 : ¬ cap ≤ n := by omega
  have q4 : ¬ c2 = 0 := by omega
  have q5 : n ≤ m := by omega
  have q6 : 1 ≤ r := by omega
  have q7 : 0 < r := by omega
  have q8 : 1 ≤ c2 := by omega
  have q9 : r ≤ c2 := by omega
  have q13 : ¬ r = 0 := by omega
  have q14 : ¬ (r : Int) < 1 := by omega
  have q15 : (1 : Int) ≤ (r : Int) := by omega
  have q16 : ¬ c2 < r := by omega
  have HQ : Hid (c2 = c3 + 1 ∧ r1 = m - n - 1 ∧ r1 ≤ c3 ∧ c3 ≤ cap ∧ (c3 = 0 → r1 = 0)) := ⟨by omega, by omega, by omega, by omega, by omega⟩
  rcases Nat.eq_zero_or_pos c3 with h0 | h0
  · subst h0
    obtain rfl : c2 = 1 := HQ.out.1
    clear hc3
    go_enter Tryd.func13, Tryd.ntmps13
    go_wp2_with fail
    refine (HR.out _ HP0.out.1).mono ?_
    rintro e w1 ⟨rfl, hb1⟩
    have HP1 := Lib.hid (HP0.out.next hb1)
    clear hb1 HP0
    go_wp2_with fail
    refine (HK.out _).mono ?_
    rintro e w2 ⟨rfl, hb2⟩
    have HP2 := Lib.hid (HP1.out.next hb2)
    clear hb2 HP1
    go_wp2_with fail
    refine (HF.out _ HP2.out.1).mono ?_
    rintro e w3 ⟨rfl, hb3⟩
    have HP3 := Lib.hid (HP2.out.next hb3)
    clear hb3 HP2 HR HK HF
    go_upto_region 7 with (fail)
    refine wp_region_calm (PvRel w a b c g s) (by kernel_rfl) (by kernel_rfl) (HP3.out.next (Below.refl _ _).drew) ?_
    repeat ((with_reducible refine wpQuiet_step (fun K hK => ?_)); go_simp; first | (refine hK _ ?_; clear hK K) | (apply Exists.intro; refine ⟨fun wc hwc => ?_, hK _ ?_⟩; (focus (first | (fail) | (((have z0 := HC.out _ hwc.1; clear hwc)); go_simp; done) | (((have z0 := HC.out _ hwc.1; clear hwc)); go_simp; exact rfl))); clear hK K))
    refine wpQuiet_nil ?_
    intro wc hwc
    have HP4 := Lib.hid hwc
    clear hwc HP3 HC
    obtain ⟨x0, x1, x2, x3, x4⟩ := HP4.out.2.cell
    go_wp2_with fail
    refine (HA.out _ HP4.out.1).mono ?_
    rintro e w5 ⟨v5, rfl, ho5, hb5⟩
    have hv5 := ho5.vers
    obtain ⟨p7, k7, rfl⟩ := vers_slice' hv5
    obtain ⟨q7, hq7⟩ : ∃ q7, q7 = cl.length := ⟨_, rfl⟩
    rw [← hq7] at hv5 ⊢
    have H5 : Hid (Vers w5 (.slice p7 q7 k7) cl ∧ Below w.heap.size w w5) := ⟨hv5, (HP4.out.next hb5).1⟩
    clear hb5 HP4 x0 x1 x2 x3 x4 ho5 hv5 hq7 HA
    go_wp2_with fail
    refine (H1.out _ H5.out.2).mono ?_
    rintro e w6 ⟨v6, rfl, he6, hb6⟩
    obtain ⟨p6, k6, rfl⟩ := ents_slice he6
    have hal6 : Below w6.heap.size w6 (w6.alloc (.cells #[.string k, .slice p7 q7 k7] 60)) := (Below.refl _ _).alloc (Nat.le_refl _) _
    have hb6' := H5.out.2.trans (hb6.mono H5.out.2.size)
    have H7 : Hid (Ents (w6.alloc (.cells #[.string k, .slice p7 q7 k7] 60)) (.slice p6 l1.length k6) l1 ∧ Ents (w6.alloc (.cells #[.string k, .slice p7 q7 k7] 60)) (.slice (some ⟨w6.heap.size, 0, none⟩) 1 1) [(k, cl)] ∧ Below w.heap.size w (w6.alloc (.cells #[.string k, .slice p7 q7 k7] 60))) := ⟨he6.next hal6, ent_lit (H5.out.1.next hb6), hb6'.trans (hal6.mono hb6'.size)⟩
    clear he6 hb6 hal6 hb6' H5 H1
    go_wp2_with fail
    refine (H2.out _ _ _ _ H7.out.2.2 HQ.out.2.1 HQ.out.2.2.1 HQ.out.2.2.2.1 (fun h => absurd h (by have := HQ.out.2.2.1; omega))).mono ?_
    rintro e w8 ⟨v8, rfl, he8, hb8⟩
    obtain ⟨p8, k8, rfl⟩ := ents_slice he8
    have HC : Hid (Calls Tryd.prog 34 #[.slice (some ⟨w8.heap.size, 0, none⟩) 3 3] (w8.alloc (.cells #[.slice p6 l1.length k6, .slice (some ⟨w6.heap.size, 0, none⟩) 1 1, .slice p8 l2.length k8] 22)) fun e w' => ∃ v, e = .returned v ∧ Ents w' v (l1 ++ [(k, cl)] ++ l2) ∧ Below w.heap.size w w') := by
      have hal : Below w8.heap.size w8 (w8.alloc (.cells #[.slice p6 l1.length k6, .slice (some ⟨w6.heap.size, 0, none⟩) 1 1, .slice p8 l2.length k8] 22)) := (Below.refl _ _).alloc (Nat.le_refl _) _
      have h8 := H7.out.2.2.trans (hb8.mono H7.out.2.2.size)
      have h9 := h8.trans (hal.mono h8.size)
      refine (Concat3 _ w8.heap.size p6 _ p8 _ 1 _ k6 1 k8 l1 [(k, cl)] l2 ((H7.out.1.next hb8).next hal) ((H7.out.2.1.next hb8).next hal) (he8.next hal) (by have := HLN.out; omega) (by simp) (by simp) (by simp) (by simp)).mono ?_
      rintro e w' ⟨v, rfl, hv, hb⟩
      exact ⟨v, rfl, hv, h9.trans (hb.mono h9.size)⟩
    clear he8 hb8 H7 H2
    go_wp2_with fail
    refine HC.out.mono ?_
    rintro e w9 ⟨v9, rfl, hv9, hb9⟩
    have H9 : Hid (Ents w9 v9 (l1 ++ [(k, cl)] ++ l2) ∧ Below w.heap.size w w9) := ⟨hv9, hb9⟩
    clear hv9 hb9 HC
    go_wp2_with fail
    go_ret2
    exact ⟨v9, rfl, H9.out⟩
  · have q10 : ¬ c3 = 0 := by omega
    have q11 : ¬ c2 ≤ 1 := by omega
    have q12 : ¬ c2 = 1 := by omega
    go_enter Tryd.func13, Tryd.ntmps13
    go_wp2_with fail
    refine (HR.out _ HP0.out.1).mono ?_
    rintro e w1 ⟨rfl, hb1⟩
    have HP1 := Lib.hid (HP0.out.next hb1)
    clear hb1 HP0
    go_wp2_with fail
    refine (HK.out _).mono ?_
    rintro e w2 ⟨rfl, hb2⟩
    have HP2 := Lib.hid (HP1.out.next hb2)
    clear hb2 HP1
    go_wp2_with fail
    refine (HF.out _ HP2.out.1).mono ?_
    rintro e w3 ⟨rfl, hb3⟩
    have HP3 := Lib.hid (HP2.out.next hb3)
    clear hb3 HP2 HR HK HF
    go_upto_region 7 with (fail)
    refine wp_region_calm (PvRel w a b c g s) (by kernel_rfl) (by kernel_rfl) (HP3.out.next (Below.refl _ _).drew) ?_
    repeat ((with_reducible refine wpQuiet_step (fun K hK => ?_)); go_simp; first | (refine hK _ ?_; clear hK K) | (apply Exists.intro; refine ⟨fun wc hwc => ?_, hK _ ?_⟩; (focus (first | (fail) | (((have z0 := HC.out _ hwc.1; clear hwc)); go_simp; done) | (((have z0 := HC.out _ hwc.1; clear hwc)); go_simp; exact rfl))); clear hK K))
    refine wpQuiet_nil ?_
    intro wc hwc
    have HP4 := Lib.hid hwc
    clear hwc HP3 HC
    obtain ⟨x0, x1, x2, x3, x4⟩ := HP4.out.2.cell
    go_wp2_with fail
    refine (HA.out _ HP4.out.1).mono ?_
    rintro e w5 ⟨v5, rfl, ho5, hb5⟩
    have hv5 := ho5.vers
    obtain ⟨p7, k7, rfl⟩ := vers_slice' hv5
    obtain ⟨q7, hq7⟩ : ∃ q7, q7 = cl.length := ⟨_, rfl⟩
    rw [← hq7] at hv5 ⊢
    have H5 : Hid (Vers w5 (.slice p7 q7 k7) cl ∧ Below w.heap.size w w5) := ⟨hv5, (HP4.out.next hb5).1⟩
    clear hb5 HP4 x0 x1 x2 x3 x4 ho5 hv5 hq7 HA
    go_wp2_with fail
    refine (H1.out _ H5.out.2).mono ?_
    rintro e w6 ⟨v6, rfl, he6, hb6⟩
    obtain ⟨p6, k6, rfl⟩ := ents_slice he6
    have hal6 : Below w6.heap.size w6 (w6.alloc (.cells #[.string k, .slice p7 q7 k7] 60)) := (Below.refl _ _).alloc (Nat.le_refl _) _
    have hb6' := H5.out.2.trans (hb6.mono H5.out.2.size)
    have H7 : Hid (Ents (w6.alloc (.cells #[.string k, .slice p7 q7 k7] 60)) (.slice p6 l1.length k6) l1 ∧ Ents (w6.alloc (.cells #[.string k, .slice p7 q7 k7] 60)) (.slice (some ⟨w6.heap.size, 0, none⟩) 1 1) [(k, cl)] ∧ Below w.heap.size w (w6.alloc (.cells #[.string k, .slice p7 q7 k7] 60))) := ⟨he6.next hal6, ent_lit (H5.out.1.next hb6), hb6'.trans (hal6.mono hb6'.size)⟩
    clear he6 hb6 hal6 hb6' H5 H1
    go_wp2_with fail
    refine (H2.out _ _ _ _ H7.out.2.2 HQ.out.2.1 HQ.out.2.2.1 HQ.out.2.2.2.1 (fun _ => ⟨_, rfl, by omega⟩)).mono ?_
    rintro e w8 ⟨v8, rfl, he8, hb8⟩
    obtain ⟨p8, k8, rfl⟩ := ents_slice he8
    have HC : Hid (Calls Tryd.prog 34 #[.slice (some ⟨w8.heap.size, 0, none⟩) 3 3] (w8.alloc (.cells #[.slice p6 l1.length k6, .slice (some ⟨w6.heap.size, 0, none⟩) 1 1, .slice p8 l2.length k8] 22)) fun e w' => ∃ v, e = .returned v ∧ Ents w' v (l1 ++ [(k, cl)] ++ l2) ∧ Below w.heap.size w w') := by
      have hal : Below w8.heap.size w8 (w8.alloc (.cells #[.slice p6 l1.length k6, .slice (some ⟨w6.heap.size, 0, none⟩) 1 1, .slice p8 l2.length k8] 22)) := (Below.refl _ _).alloc (Nat.le_refl _) _
      have h8 := H7.out.2.2.trans (hb8.mono H7.out.2.2.size)
      have h9 := h8.trans (hal.mono h8.size)
      refine (Concat3 _ w8.heap.size p6 _ p8 _ 1 _ k6 1 k8 l1 [(k, cl)] l2 ((H7.out.1.next hb8).next hal) ((H7.out.2.1.next hb8).next hal) (he8.next hal) (by have := HLN.out; omega) (by simp) (by simp) (by simp) (by simp)).mono ?_
      rintro e w' ⟨v, rfl, hv, hb⟩
      exact ⟨v, rfl, hv, h9.trans (hb.mono h9.size)⟩
    clear he8 hb8 H7 H2
    go_wp2_with fail
    refine HC.out.mono ?_
    rintro e w9 ⟨v9, rfl, hv9, hb9⟩
    have H9 : Hid (Ents w9 v9 (l1 ++ [(k, cl)] ++ l2) ∧ Below w.heap.size w w9) := ⟨hv9, hb9⟩
    clear hv9 hb9 HC
    go_wp2_with fail
    go_ret2
    exact ⟨v9, rfl, H9.out⟩

end Go.Proofs.YtkmmifonandkoaaDoor

/-
  The contract of index.Put: keys that are not there.
-/
set_option linter.unusedVariables false
namespace Go.Proofs.YtkmmifonandkoaaDoor
open Go.RowKit

set_option maxRecDepth 100000 in
set_option maxHeartbeats 2000000 in
theorem iPut_new_err (w : World) (ao : Option Addr) (m cap n : Nat) (k : ByteArray) (a b c : Int) (g : Bool) (s : ByteArray) (er : Int) (he : er = 1 ∨ er = 6 ∨ er = 9) (hnm : n ≤ m) (hmc : m ≤ cap) (hcm : cap ≤ 9223372036854775807)
    (hao : (ao = none ∧ m = 0) ∨ (m = 0 ∧ ∃ ad, ao = some ad) ∨ ∃ b0 off, ao = some ⟨b0, off, none⟩)
    (HR : Hid (∀ W, Below w.heap.size w W → Calls Tryd.prog 16 #[Value.slice ao m cap] W fun e w' => e = .returned (.bool true) ∧ Below W.heap.size W w'))
    (HK : Hid (∀ W, Calls Tryd.prog 31 #[.string k] W fun e w' => e = .returned (.bool true) ∧ Below W.heap.size W w'))
    (HF : Hid (∀ W, Below w.heap.size w W → Calls Tryd.prog 32 #[Value.slice ao m cap, .string k] W fun e w' => e = .returned (.tuple #[.int .i64 n, .bool false]) ∧ Below W.heap.size W w'))
    (HA : Hid (∀ W, Below w.heap.size w W → Calls Tryd.prog 33 #[.slice none 0 0, (Go.Value.agg #[Go.Value.int Go.IntKind.i64 a, Go.Value.int Go.IntKind.i64 b, Go.Value.int Go.IntKind.i64 c, Go.Value.bool g, Go.Value.string s])] W fun e w' => e = .returned (.tuple #[.slice none 0 0, .int .i64 er]) ∧ Below W.heap.size W w')) :
    Calls Tryd.prog 13 #[Value.slice ao m cap, .string k, (Go.Value.agg #[Go.Value.int Go.IntKind.i64 a, Go.Value.int Go.IntKind.i64 b, Go.Value.int Go.IntKind.i64 c, Go.Value.bool g, Go.Value.string s])] w fun e' w' => ∃ v', e' = .returned (.tuple #[v', .int .i64 er]) ∧ Ents w' v' [] ∧ Below w.heap.size w w' := by
  have HP0 : Hid (PvRel w a b c g s (w.alloc (.cells #[.int .i64 a, .int .i64 b, .int .i64 c, .bool g, .string s] 26))) := PvRel.new w a b c g s
  rcases hao with ⟨rfl, rfl⟩ | ⟨rfl, ad, rfl⟩ | ⟨b0, off, rfl⟩
  · obtain rfl : n = 0 := by omega
    rcases he with rfl | rfl | rfl
    all_goals
      go_enter Tryd.func13, Tryd.ntmps13
      go_wp2_with fail
      refine (HR.out _ HP0.out.1).mono ?_
      rintro e w1 ⟨rfl, hb1⟩
      have HP1 := Lib.hid (HP0.out.next hb1)
      clear hb1 HP0
      go_wp2_with fail
      refine (HK.out _).mono ?_
      rintro e w2 ⟨rfl, hb2⟩
      have HP2 := Lib.hid (HP1.out.next hb2)
      clear hb2 HP1
      go_wp2_with fail
      refine (HF.out _ HP2.out.1).mono ?_
      rintro e w3 ⟨rfl, hb3⟩
      have HP3 := Lib.hid (HP2.out.next hb3)
      clear hb3 HP2 HR HK HF
      obtain ⟨x0, x1, x2, x3, x4⟩ := HP3.out.2.cell
      go_wp2_with fail
      refine (HA.out _ HP3.out.1).mono ?_
      rintro e w5 ⟨rfl, hb5⟩
      have HB5 : Hid (Below w.heap.size w w5) := (HP3.out.next hb5).1
      clear hb5 HP3 x0 x1 x2 x3 x4
      go_wp2_with fail
      go_ret2
      exact ⟨_, rfl, ents_nil _, HB5.out⟩
  · obtain rfl : n = 0 := by omega
    rcases he with rfl | rfl | rfl
    all_goals
      go_enter Tryd.func13, Tryd.ntmps13
      go_wp2_with fail
      refine (HR.out _ HP0.out.1).mono ?_
      rintro e w1 ⟨rfl, hb1⟩
      have HP1 := Lib.hid (HP0.out.next hb1)
      clear hb1 HP0
      go_wp2_with fail
      refine (HK.out _).mono ?_
      rintro e w2 ⟨rfl, hb2⟩
      have HP2 := Lib.hid (HP1.out.next hb2)
      clear hb2 HP1
      go_wp2_with fail
      refine (HF.out _ HP2.out.1).mono ?_
      rintro e w3 ⟨rfl, hb3⟩
      have HP3 := Lib.hid (HP2.out.next hb3)
      clear hb3 HP2 HR HK HF
      obtain ⟨x0, x1, x2, x3, x4⟩ := HP3.out.2.cell
      go_wp2_with fail
      refine (HA.out _ HP3.out.1).mono ?_
      rintro e w5 ⟨rfl, hb5⟩
      have HB5 : Hid (Below w.heap.size w w5) := (HP3.out.next hb5).1
      clear hb5 HP3 x0 x1 x2 x3 x4
      go_wp2_with fail
      go_ret2
      exact ⟨_, rfl, ents_nil _, HB5.out⟩
  · rcases Nat.lt_or_ge n cap with hc | hc
    · obtain ⟨r, hr⟩ : ∃ r, m - n = r := ⟨_, rfl⟩
      obtain ⟨c2, hc2⟩ : ∃ c2, cap - n = c2 := ⟨_, rfl⟩
      have q1 : n ≤ cap := by omega
      have q2 : ¬ n = cap := by omega
      have q3 : ¬ cap ≤ n := by omega
      have q4 : ¬ c2 = 0 := by omega
      have q5 : n ≤ m := by omega
      rcases he with rfl | rfl | rfl
      all_goals
        go_enter Tryd.func13, Tryd.ntmps13
        go_wp2_with fail
        refine (HR.out _ HP0.out.1).mono ?_
        rintro e w1 ⟨rfl, hb1⟩
        have HP1 := Lib.hid (HP0.out.next hb1)
        clear hb1 HP0
        go_wp2_with fail
        refine (HK.out _).mono ?_
        rintro e w2 ⟨rfl, hb2⟩
        have HP2 := Lib.hid (HP1.out.next hb2)
        clear hb2 HP1
        go_wp2_with fail
        refine (HF.out _ HP2.out.1).mono ?_
        rintro e w3 ⟨rfl, hb3⟩
        have HP3 := Lib.hid (HP2.out.next hb3)
        clear hb3 HP2 HR HK HF
        obtain ⟨x0, x1, x2, x3, x4⟩ := HP3.out.2.cell
        go_wp2_with fail
        refine (HA.out _ HP3.out.1).mono ?_
        rintro e w5 ⟨rfl, hb5⟩
        have HB5 : Hid (Below w.heap.size w w5) := (HP3.out.next hb5).1
        clear hb5 HP3 x0 x1 x2 x3 x4
        go_wp2_with fail
        go_ret2
        exact ⟨_, rfl, ents_nil _, HB5.out⟩
    · obtain rfl : n = cap := by omega
      obtain rfl : n = m := by omega
      rcases he with rfl | rfl | rfl
      all_goals
        go_enter Tryd.func13, Tryd.ntmps13
        go_wp2_with fail
        refine (HR.out _ HP0.out.1).mono ?_
        rintro e w1 ⟨rfl, hb1⟩
        have HP1 := Lib.hid (HP0.out.next hb1)
        clear hb1 HP0
        go_wp2_with fail
        refine (HK.out _).mono ?_
        rintro e w2 ⟨rfl, hb2⟩
        have HP2 := Lib.hid (HP1.out.next hb2)
        clear hb2 HP1
        go_wp2_with fail
        refine (HF.out _ HP2.out.1).mono ?_
        rintro e w3 ⟨rfl, hb3⟩
        have HP3 := Lib.hid (HP2.out.next hb3)
        clear hb3 HP2 HR HK HF
        obtain ⟨x0, x1, x2, x3, x4⟩ := HP3.out.2.cell
        go_wp2_with fail
        refine (HA.out _ HP3.out.1).mono ?_
        rintro e w5 ⟨rfl, hb5⟩
        have HB5 : Hid (Below w.heap.size w w5) := (HP3.out.next hb5).1
        clear hb5 HP3 x0 x1 x2 x3 x4
        go_wp2_with fail
        go_ret2
        exact ⟨_, rfl, ents_nil _, HB5.out⟩

set_option maxRecDepth 100000 in
set_option maxHeartbeats 2000000 in
theorem iPut_new_full (w : World) (b0 off m cap n : Nat) (k : ByteArray) (a b c : Int) (g : Bool) (s : ByteArray) (cl : List Ver) (hm : m = 64) (hnm : n ≤ m) (hmc : m ≤ cap) (hcm : cap ≤ 9223372036854775807)
    (HR : Hid (∀ W, Below w.heap.size w W → Calls Tryd.prog 16 #[Value.slice (some ⟨b0, off, none⟩) m cap] W fun e w' => e = .returned (.bool true) ∧ Below W.heap.size W w'))
    (HK : Hid (∀ W, Calls Tryd.prog 31 #[.string k] W fun e w' => e = .returned (.bool true) ∧ Below W.heap.size W w'))
    (HF : Hid (∀ W, Below w.heap.size w W → Calls Tryd.prog 32 #[Value.slice (some ⟨b0, off, none⟩) m cap, .string k] W fun e w' => e = .returned (.tuple #[.int .i64 n, .bool false]) ∧ Below W.heap.size W w'))
    (HA : Hid (∀ W, Below w.heap.size w W → Calls Tryd.prog 33 #[.slice none 0 0, (Go.Value.agg #[Go.Value.int Go.IntKind.i64 a, Go.Value.int Go.IntKind.i64 b, Go.Value.int Go.IntKind.i64 c, Go.Value.bool g, Go.Value.string s])] W fun e w' => ∃ v, e = .returned (.tuple #[v, .int .i64 0]) ∧ OwnsV w' W.heap.size v cl ∧ Below W.heap.size W w')) :
    Calls Tryd.prog 13 #[Value.slice (some ⟨b0, off, none⟩) m cap, .string k, (Go.Value.agg #[Go.Value.int Go.IntKind.i64 a, Go.Value.int Go.IntKind.i64 b, Go.Value.int Go.IntKind.i64 c, Go.Value.bool g, Go.Value.string s])] w fun e' w' => ∃ v', e' = .returned (.tuple #[v', .int .i64 6]) ∧ Ents w' v' [] ∧ Below w.heap.size w w' := by
  have HP0 : Hid (PvRel w a b c g s (w.alloc (.cells #[.int .i64 a, .int .i64 b, .int .i64 c, .bool g, .string s] 26))) := PvRel.new w a b c g s
  subst hm
  rcases Nat.lt_or_ge n cap with hc | hc
  · obtain ⟨r, hr⟩ : ∃ r, 64 - n = r := ⟨_, rfl⟩
    obtain ⟨c2, hc2⟩ : ∃ c2, cap - n = c2 := ⟨_, rfl⟩
    have q1 : n ≤ cap := by omega
    have q2 : ¬ n = cap := by omega
    have q3 : ¬ cap ≤ n := by omega
    have q4 : ¬ c2 = 0 := by omega
    have q5 : n ≤ 64 := by omega
    go_enter Tryd.func13, Tryd.ntmps13
    go_wp2_with fail
    refine (HR.out _ HP0.out.1).mono ?_
    rintro e w1 ⟨rfl, hb1⟩
    have HP1 := Lib.hid (HP0.out.next hb1)
    clear hb1 HP0
    go_wp2_with fail
    refine (HK.out _).mono ?_
    rintro e w2 ⟨rfl, hb2⟩
    have HP2 := Lib.hid (HP1.out.next hb2)
    clear hb2 HP1
    go_wp2_with fail
    refine (HF.out _ HP2.out.1).mono ?_
    rintro e w3 ⟨rfl, hb3⟩
    have HP3 := Lib.hid (HP2.out.next hb3)
    clear hb3 HP2 HR HK HF
    obtain ⟨x0, x1, x2, x3, x4⟩ := HP3.out.2.cell
    go_wp2_with fail
    refine (HA.out _ HP3.out.1).mono ?_
    rintro e w5 ⟨v5, rfl, ho5, hb5⟩
    have hv5 := ho5.vers
    obtain ⟨p7, k7, rfl⟩ := vers_slice' hv5
    obtain ⟨q7, hq7⟩ : ∃ q7, q7 = cl.length := ⟨_, rfl⟩
    rw [← hq7] at hv5 ⊢
    have H5 : Hid (Vers w5 (.slice p7 q7 k7) cl ∧ Below w.heap.size w w5) := ⟨hv5, (HP3.out.next hb5).1⟩
    clear hb5 HP3 x0 x1 x2 x3 x4 ho5 hv5 hq7 HA
    go_wp2_with fail
    go_ret2
    exact ⟨_, rfl, ents_nil _, H5.out.2⟩
  · obtain rfl : cap = 64 := by omega
    obtain rfl : n = 64 := by omega
    go_enter Tryd.func13, Tryd.ntmps13
    go_wp2_with fail
    refine (HR.out _ HP0.out.1).mono ?_
    rintro e w1 ⟨rfl, hb1⟩
    have HP1 := Lib.hid (HP0.out.next hb1)
    clear hb1 HP0
    go_wp2_with fail
    refine (HK.out _).mono ?_
    rintro e w2 ⟨rfl, hb2⟩
    have HP2 := Lib.hid (HP1.out.next hb2)
    clear hb2 HP1
    go_wp2_with fail
    refine (HF.out _ HP2.out.1).mono ?_
    rintro e w3 ⟨rfl, hb3⟩
    have HP3 := Lib.hid (HP2.out.next hb3)
    clear hb3 HP2 HR HK HF
    obtain ⟨x0, x1, x2, x3, x4⟩ := HP3.out.2.cell
    go_wp2_with fail
    refine (HA.out _ HP3.out.1).mono ?_
    rintro e w5 ⟨v5, rfl, ho5, hb5⟩
    have hv5 := ho5.vers
    obtain ⟨p7, k7, rfl⟩ := vers_slice' hv5
    obtain ⟨q7, hq7⟩ : ∃ q7, q7 = cl.length := ⟨_, rfl⟩
    rw [← hq7] at hv5 ⊢
    have H5 : Hid (Vers w5 (.slice p7 q7 k7) cl ∧ Below w.heap.size w w5) := ⟨hv5, (HP3.out.next hb5).1⟩
    clear hb5 HP3 x0 x1 x2 x3 x4 ho5 hv5 hq7 HA
    go_wp2_with fail
    go_ret2
    exact ⟨_, rfl, ents_nil _, H5.out.2⟩

set_option maxRecDepth 100000 in
set_option maxHeartbeats 2000000 in
theorem iPut_new_ok (w : World) (ao : Option Addr) (m cap n : Nat) (k : ByteArray) (a b c : Int) (g : Bool) (s : ByteArray) (l1 l2 : List Ent) (cl : List Ver) (hm : m < 64) (hnm : n ≤ m) (hmc : m ≤ cap) (hcm : cap ≤ 9223372036854775807)
    (hao : (ao = none ∧ m = 0) ∨ (m = 0 ∧ ∃ ad, ao = some ad) ∨ ∃ b0 off, ao = some ⟨b0, off, none⟩)
    (HR : Hid (∀ W, Below w.heap.size w W → Calls Tryd.prog 16 #[Value.slice ao m cap] W fun e w' => e = .returned (.bool true) ∧ Below W.heap.size W w'))
    (HK : Hid (∀ W, Calls Tryd.prog 31 #[.string k] W fun e w' => e = .returned (.bool true) ∧ Below W.heap.size W w'))
    (HF : Hid (∀ W, Below w.heap.size w W → Calls Tryd.prog 32 #[Value.slice ao m cap, .string k] W fun e w' => e = .returned (.tuple #[.int .i64 n, .bool false]) ∧ Below W.heap.size W w'))
    (HA : Hid (∀ W, Below w.heap.size w W → Calls Tryd.prog 33 #[.slice none 0 0, (Go.Value.agg #[Go.Value.int Go.IntKind.i64 a, Go.Value.int Go.IntKind.i64 b, Go.Value.int Go.IntKind.i64 c, Go.Value.bool g, Go.Value.string s])] W fun e w' => ∃ v, e = .returned (.tuple #[v, .int .i64 0]) ∧ OwnsV w' W.heap.size v cl ∧ Below W.heap.size W w')) (HLN : Hid (l1.length + 1 + l2.length ≤ 1000))
    (H1 : Hid (∀ W (p : Option Addr) (cc : Nat), Below w.heap.size w W → n ≤ cc → cc ≤ cap → (0 < n → p = ao) → Calls Tryd.prog 35 #[.slice p n cc] W fun e w' => ∃ v', e = .returned v' ∧ Ents w' v' l1 ∧ Below W.heap.size W w'))
    (H2 : Hid (∀ W (p : Option Addr) (r' cc : Nat), Below w.heap.size w W → r' = m - n → r' ≤ cc → cc ≤ cap → (0 < r' → ∀ b0 off, ao = some ⟨b0, off, none⟩ → p = some ⟨b0, off + n * 2, none⟩) → Calls Tryd.prog 35 #[.slice p r' cc] W fun e w' => ∃ v', e = .returned v' ∧ Ents w' v' l2 ∧ Below W.heap.size W w')) :
    Calls Tryd.prog 13 #[Value.slice ao m cap, .string k, (Go.Value.agg #[Go.Value.int Go.IntKind.i64 a, Go.Value.int Go.IntKind.i64 b, Go.Value.int Go.IntKind.i64 c, Go.Value.bool g, Go.Value.string s])] w fun e' w' => ∃ v', e' = .returned (.tuple #[v', .int .i64 0]) ∧ Ents w' v' (l1 ++ [(k, cl)] ++ l2) ∧ Below w.heap.size w w' := by
  have HP0 : Hid (PvRel w a b c g s (w.alloc (.cells #[.int .i64 a, .int .i64 b, .int .i64 c, .bool g, .string s] 26))) := PvRel.new w a b c g s
  rcases hao with ⟨rfl, rfl⟩ | ⟨rfl, ad, rfl⟩ | ⟨b0, off, rfl⟩
  · obtain rfl : n = 0 := by omega
    have HQ : Hid (0 = 0 - 0 ∧ 0 ≤ cap ∧ cap ≤ cap ∧ 0 ≤ cap ∧ cap ≤ cap) := ⟨by omega, by omega, by omega, by omega, by omega⟩
    go_enter Tryd.func13, Tryd.ntmps13
    go_wp2_with fail
    refine (HR.out _ HP0.out.1).mono ?_
    rintro e w1 ⟨rfl, hb1⟩
    have HP1 := Lib.hid (HP0.out.next hb1)
    clear hb1 HP0
    go_wp2_with fail
    refine (HK.out _).mono ?_
    rintro e w2 ⟨rfl, hb2⟩
    have HP2 := Lib.hid (HP1.out.next hb2)
    clear hb2 HP1
    go_wp2_with fail
    refine (HF.out _ HP2.out.1).mono ?_
    rintro e w3 ⟨rfl, hb3⟩
    have HP3 := Lib.hid (HP2.out.next hb3)
    clear hb3 HP2 HR HK HF
    obtain ⟨x0, x1, x2, x3, x4⟩ := HP3.out.2.cell
    go_wp2_with fail
    refine (HA.out _ HP3.out.1).mono ?_
    rintro e w5 ⟨v5, rfl, ho5, hb5⟩
    have hv5 := ho5.vers
    obtain ⟨p7, k7, rfl⟩ := vers_slice' hv5
    obtain ⟨q7, hq7⟩ : ∃ q7, q7 = cl.length := ⟨_, rfl⟩
    rw [← hq7] at hv5 ⊢
    have H5 : Hid (Vers w5 (.slice p7 q7 k7) cl ∧ Below w.heap.size w w5) := ⟨hv5, (HP3.out.next hb5).1⟩
    clear hb5 HP3 x0 x1 x2 x3 x4 ho5 hv5 hq7 HA
    go_wp2_with fail
    refine (H1.out _ _ _ H5.out.2 (Nat.zero_le _) (Nat.le_refl _) (by intro h; omega)).mono ?_
    rintro e w6 ⟨v6, rfl, he6, hb6⟩
    obtain ⟨p6, k6, rfl⟩ := ents_slice he6
    have hal6 : Below w6.heap.size w6 (w6.alloc (.cells #[.string k, .slice p7 q7 k7] 60)) := (Below.refl _ _).alloc (Nat.le_refl _) _
    have hb6' := H5.out.2.trans (hb6.mono H5.out.2.size)
    have H7 : Hid (Ents (w6.alloc (.cells #[.string k, .slice p7 q7 k7] 60)) (.slice p6 l1.length k6) l1 ∧ Ents (w6.alloc (.cells #[.string k, .slice p7 q7 k7] 60)) (.slice (some ⟨w6.heap.size, 0, none⟩) 1 1) [(k, cl)] ∧ Below w.heap.size w (w6.alloc (.cells #[.string k, .slice p7 q7 k7] 60))) := ⟨he6.next hal6, ent_lit (H5.out.1.next hb6), hb6'.trans (hal6.mono hb6'.size)⟩
    clear he6 hb6 hal6 hb6' H5 H1
    go_wp2_with fail
    refine (H2.out _ _ 0 _ H7.out.2.2 rfl (Nat.zero_le _) (Nat.le_refl _) (by intro h; omega)).mono ?_
    rintro e w8 ⟨v8, rfl, he8, hb8⟩
    obtain ⟨p8, k8, rfl⟩ := ents_slice he8
    have HC : Hid (Calls Tryd.prog 34 #[.slice (some ⟨w8.heap.size, 0, none⟩) 3 3] (w8.alloc (.cells #[.slice p6 l1.length k6, .slice (some ⟨w6.heap.size, 0, none⟩) 1 1, .slice p8 l2.length k8] 22)) fun e w' => ∃ v, e = .returned v ∧ Ents w' v (l1 ++ [(k, cl)] ++ l2) ∧ Below w.heap.size w w') := by
      have hal : Below w8.heap.size w8 (w8.alloc (.cells #[.slice p6 l1.length k6, .slice (some ⟨w6.heap.size, 0, none⟩) 1 1, .slice p8 l2.length k8] 22)) := (Below.refl _ _).alloc (Nat.le_refl _) _
      have h8 := H7.out.2.2.trans (hb8.mono H7.out.2.2.size)
      have h9 := h8.trans (hal.mono h8.size)
      refine (Concat3 _ w8.heap.size p6 _ p8 _ 1 _ k6 1 k8 l1 [(k, cl)] l2 ((H7.out.1.next hb8).next hal) ((H7.out.2.1.next hb8).next hal) (he8.next hal) (by have := HLN.out; omega) (by simp) (by simp) (by simp) (by simp)).mono ?_
      rintro e w' ⟨v, rfl, hv, hb⟩
      exact ⟨v, rfl, hv, h9.trans (hb.mono h9.size)⟩
    clear he8 hb8 H7 H2
    go_wp2_with fail
    refine HC.out.mono ?_
    rintro e w9 ⟨v9, rfl, hv9, hb9⟩
    have H9 : Hid (Ents w9 v9 (l1 ++ [(k, cl)] ++ l2) ∧ Below w.heap.size w w9) := ⟨hv9, hb9⟩
    clear hv9 hb9 HC
    go_wp2_with fail
    go_ret2
    exact ⟨v9, rfl, H9.out⟩
  · obtain rfl : n = 0 := by omega
    have HQ : Hid (0 = 0 - 0 ∧ 0 ≤ cap ∧ cap ≤ cap ∧ 0 ≤ cap ∧ cap ≤ cap) := ⟨by omega, by omega, by omega, by omega, by omega⟩
    go_enter Tryd.func13, Tryd.ntmps13
    go_wp2_with fail
    refine (HR.out _ HP0.out.1).mono ?_
    rintro e w1 ⟨rfl, hb1⟩
    have HP1 := Lib.hid (HP0.out.next hb1)
    clear hb1 HP0
    go_wp2_with fail
    refine (HK.out _).mono ?_
    rintro e w2 ⟨rfl, hb2⟩
    have HP2 := Lib.hid (HP1.out.next hb2)
    clear hb2 HP1
    go_wp2_with fail
    refine (HF.out _ HP2.out.1).mono ?_
    rintro e w3 ⟨rfl, hb3⟩
    have HP3 := Lib.hid (HP2.out.next hb3)
    clear hb3 HP2 HR HK HF
    obtain ⟨x0, x1, x2, x3, x4⟩ := HP3.out.2.cell
    go_wp2_with fail
    refine (HA.out _ HP3.out.1).mono ?_
    rintro e w5 ⟨v5, rfl, ho5, hb5⟩
    have hv5 := ho5.vers
    obtain ⟨p7, k7, rfl⟩ := vers_slice' hv5
    obtain ⟨q7, hq7⟩ : ∃ q7, q7 = cl.length := ⟨_, rfl⟩
    rw [← hq7] at hv5 ⊢
    have H5 : Hid (Vers w5 (.slice p7 q7 k7) cl ∧ Below w.heap.size w w5) := ⟨hv5, (HP3.out.next hb5).1⟩
    clear hb5 HP3 x0 x1 x2 x3 x4 ho5 hv5 hq7 HA
    go_wp2_with fail
    refine (H1.out _ _ _ H5.out.2 (Nat.zero_le _) (Nat.le_refl _) (by intro h; omega)).mono ?_
    rintro e w6 ⟨v6, rfl, he6, hb6⟩
    obtain ⟨p6, k6, rfl⟩ := ents_slice he6
    have hal6 : Below w6.heap.size w6 (w6.alloc (.cells #[.string k, .slice p7 q7 k7] 60)) := (Below.refl _ _).alloc (Nat.le_refl _) _
    have hb6' := H5.out.2.trans (hb6.mono H5.out.2.size)
    have H7 : Hid (Ents (w6.alloc (.cells #[.string k, .slice p7 q7 k7] 60)) (.slice p6 l1.length k6) l1 ∧ Ents (w6.alloc (.cells #[.string k, .slice p7 q7 k7] 60)) (.slice (some ⟨w6.heap.size, 0, none⟩) 1 1) [(k, cl)] ∧ Below w.heap.size w (w6.alloc (.cells #[.string k, .slice p7 q7 k7] 60))) := ⟨he6.next hal6, ent_lit (H5.out.1.next hb6), hb6'.trans (hal6.mono hb6'.size)⟩
    clear he6 hb6 hal6 hb6' H5 H1
    go_wp2_with fail
    refine (H2.out _ _ 0 _ H7.out.2.2 rfl (Nat.zero_le _) (Nat.le_refl _) (by intro h; omega)).mono ?_
    rintro e w8 ⟨v8, rfl, he8, hb8⟩
    obtain ⟨p8, k8, rfl⟩ := ents_slice he8
    have HC : Hid (Calls Tryd.prog 34 #[.slice (some ⟨w8.heap.size, 0, none⟩) 3 3] (w8.alloc (.cells #[.slice p6 l1.length k6, .slice (some ⟨w6.heap.size, 0, none⟩) 1 1, .slice p8 l2.length k8] 22)) fun e w' => ∃ v, e = .returned v ∧ Ents w' v (l1 ++ [(k, cl)] ++ l2) ∧ Below w.heap.size w w') := by
      have hal : Below w8.heap.size w8 (w8.alloc (.cells #[.slice p6 l1.length k6, .slice (some ⟨w6.heap.size, 0, none⟩) 1 1, .slice p8 l2.length k8] 22)) := (Below.refl _ _).alloc (Nat.le_refl _) _
      have h8 := H7.out.2.2.trans (hb8.mono H7.out.2.2.size)
      have h9 := h8.trans (hal.mono h8.size)
      refine (Concat3 _ w8.heap.size p6 _ p8 _ 1 _ k6 1 k8 l1 [(k, cl)] l2 ((H7.out.1.next hb8).next hal) ((H7.out.2.1.next hb8).next hal) (he8.next hal) (by have := HLN.out; omega) (by simp) (by simp) (by simp) (by simp)).mono ?_
      rintro e w' ⟨v, rfl, hv, hb⟩
      exact ⟨v, rfl, hv, h9.trans (hb.mono h9.size)⟩
    clear he8 hb8 H7 H2
    go_wp2_with fail
    refine HC.out.mono ?_
    rintro e w9 ⟨v9, rfl, hv9, hb9⟩
    have H9 : Hid (Ents w9 v9 (l1 ++ [(k, cl)] ++ l2) ∧ Below w.heap.size w w9) := ⟨hv9, hb9⟩
    clear hv9 hb9 HC
    go_wp2_with fail
    go_ret2
    exact ⟨v9, rfl, H9.out⟩
  · rcases Nat.lt_or_ge n cap with hc | hc
    · obtain ⟨r, hr⟩ : ∃ r, m - n = r := ⟨_, rfl⟩
      obtain ⟨c2, hc2⟩ : ∃ c2, cap - n = c2 := ⟨_, rfl⟩
      have q1 : n ≤ cap := by omega
      have q2 : ¬ n = cap := by omega
      have q3 : ¬ cap ≤ n := by omega
      have q4 : ¬ c2 = 0 := by omega
      have q5 : n ≤ m := by omega
      have HQ : Hid (r = m - n ∧ r ≤ c2 ∧ c2 ≤ cap ∧ n ≤ cap ∧ cap ≤ cap) := ⟨by omega, by omega, by omega, by omega, by omega⟩
      have d3 : ((m : Int) == 64) = false := beq_eq_false_iff_ne.2 (by omega)
      go_enter Tryd.func13, Tryd.ntmps13
      go_wp2_with fail
      refine (HR.out _ HP0.out.1).mono ?_
      rintro e w1 ⟨rfl, hb1⟩
      have HP1 := Lib.hid (HP0.out.next hb1)
      clear hb1 HP0
      go_wp2_with fail
      refine (HK.out _).mono ?_
      rintro e w2 ⟨rfl, hb2⟩
      have HP2 := Lib.hid (HP1.out.next hb2)
      clear hb2 HP1
      go_wp2_with fail
      refine (HF.out _ HP2.out.1).mono ?_
      rintro e w3 ⟨rfl, hb3⟩
      have HP3 := Lib.hid (HP2.out.next hb3)
      clear hb3 HP2 HR HK HF
      obtain ⟨x0, x1, x2, x3, x4⟩ := HP3.out.2.cell
      go_wp2_with fail
      refine (HA.out _ HP3.out.1).mono ?_
      rintro e w5 ⟨v5, rfl, ho5, hb5⟩
      have hv5 := ho5.vers
      obtain ⟨p7, k7, rfl⟩ := vers_slice' hv5
      obtain ⟨q7, hq7⟩ : ∃ q7, q7 = cl.length := ⟨_, rfl⟩
      rw [← hq7] at hv5 ⊢
      have H5 : Hid (Vers w5 (.slice p7 q7 k7) cl ∧ Below w.heap.size w w5) := ⟨hv5, (HP3.out.next hb5).1⟩
      clear hb5 HP3 x0 x1 x2 x3 x4 ho5 hv5 hq7 HA
      go_wp2_with fail
      refine (H1.out _ _ _ H5.out.2 HQ.out.2.2.2.1 HQ.out.2.2.2.2 (fun _ => rfl)).mono ?_
      rintro e w6 ⟨v6, rfl, he6, hb6⟩
      obtain ⟨p6, k6, rfl⟩ := ents_slice he6
      have hal6 : Below w6.heap.size w6 (w6.alloc (.cells #[.string k, .slice p7 q7 k7] 60)) := (Below.refl _ _).alloc (Nat.le_refl _) _
      have hb6' := H5.out.2.trans (hb6.mono H5.out.2.size)
      have H7 : Hid (Ents (w6.alloc (.cells #[.string k, .slice p7 q7 k7] 60)) (.slice p6 l1.length k6) l1 ∧ Ents (w6.alloc (.cells #[.string k, .slice p7 q7 k7] 60)) (.slice (some ⟨w6.heap.size, 0, none⟩) 1 1) [(k, cl)] ∧ Below w.heap.size w (w6.alloc (.cells #[.string k, .slice p7 q7 k7] 60))) := ⟨he6.next hal6, ent_lit (H5.out.1.next hb6), hb6'.trans (hal6.mono hb6'.size)⟩
      clear he6 hb6 hal6 hb6' H5 H1
      go_wp2_with fail
      refine (H2.out _ _ _ _ H7.out.2.2 HQ.out.1 HQ.out.2.1 HQ.out.2.2.1 (fun _ b1 off1 e1 => by cases e1; rfl)).mono ?_
      rintro e w8 ⟨v8, rfl, he8, hb8⟩
      obtain ⟨p8, k8, rfl⟩ := ents_slice he8
      have HC : Hid (Calls Tryd.prog 34 #[.slice (some ⟨w8.heap.size, 0, none⟩) 3 3] (w8.alloc (.cells #[.slice p6 l1.length k6, .slice (some ⟨w6.heap.size, 0, none⟩) 1 1, .slice p8 l2.length k8] 22)) fun e w' => ∃ v, e = .returned v ∧ Ents w' v (l1 ++ [(k, cl)] ++ l2) ∧ Below w.heap.size w w') := by
        have hal : Below w8.heap.size w8 (w8.alloc (.cells #[.slice p6 l1.length k6, .slice (some ⟨w6.heap.size, 0, none⟩) 1 1, .slice p8 l2.length k8] 22)) := (Below.refl _ _).alloc (Nat.le_refl _) _
        have h8 := H7.out.2.2.trans (hb8.mono H7.out.2.2.size)
        have h9 := h8.trans (hal.mono h8.size)
        refine (Concat3 _ w8.heap.size p6 _ p8 _ 1 _ k6 1 k8 l1 [(k, cl)] l2 ((H7.out.1.next hb8).next hal) ((H7.out.2.1.next hb8).next hal) (he8.next hal) (by have := HLN.out; omega) (by simp) (by simp) (by simp) (by simp)).mono ?_
        rintro e w' ⟨v, rfl, hv, hb⟩
        exact ⟨v, rfl, hv, h9.trans (hb.mono h9.size)⟩
      clear he8 hb8 H7 H2
      go_wp2_with fail
      refine HC.out.mono ?_
      rintro e w9 ⟨v9, rfl, hv9, hb9⟩
      have H9 : Hid (Ents w9 v9 (l1 ++ [(k, cl)] ++ l2) ∧ Below w.heap.size w w9) := ⟨hv9, hb9⟩
      clear hv9 hb9 HC
      go_wp2_with fail
      go_ret2
      exact ⟨v9, rfl, H9.out⟩
    · obtain rfl : n = cap := by omega
      obtain rfl : n = m := by omega
      have HQ : Hid (0 = n - n ∧ 0 ≤ 0 ∧ 0 ≤ n ∧ n ≤ n ∧ n ≤ n) := ⟨by omega, by omega, by omega, by omega, by omega⟩
      have d3 : ((n : Int) == 64) = false := beq_eq_false_iff_ne.2 (by omega)
      go_enter Tryd.func13, Tryd.ntmps13
      go_wp2_with fail
      refine (HR.out _ HP0.out.1).mono ?_
      rintro e w1 ⟨rfl, hb1⟩
      have HP1 := Lib.hid (HP0.out.next hb1)
      clear hb1 HP0
      go_wp2_with fail
      refine (HK.out _).mono ?_
      rintro e w2 ⟨rfl, hb2⟩
      have HP2 := Lib.hid (HP1.out.next hb2)
      clear hb2 HP1
      go_wp2_with fail
      refine (HF.out _ HP2.out.1).mono ?_
      rintro e w3 ⟨rfl, hb3⟩
      have HP3 := Lib.hid (HP2.out.next hb3)
      clear hb3 HP2 HR HK HF
      obtain ⟨x0, x1, x2, x3, x4⟩ := HP3.out.2.cell
      go_wp2_with fail
      refine (HA.out _ HP3.out.1).mono ?_
      rintro e w5 ⟨v5, rfl, ho5, hb5⟩
      have hv5 := ho5.vers
      obtain ⟨p7, k7, rfl⟩ := vers_slice' hv5
      obtain ⟨q7, hq7⟩ : ∃ q7, q7 = cl.length := ⟨_, rfl⟩
      rw [← hq7] at hv5 ⊢
      have H5 : Hid (Vers w5 (.slice p7 q7 k7) cl ∧ Below w.heap.size w w5) := ⟨hv5, (HP3.out.next hb5).1⟩
      clear hb5 HP3 x0 x1 x2 x3 x4 ho5 hv5 hq7 HA
      go_wp2_with fail
      refine (H1.out _ _ _ H5.out.2 (Nat.le_refl _) (Nat.le_refl _) (fun _ => rfl)).mono ?_
      rintro e w6 ⟨v6, rfl, he6, hb6⟩
      obtain ⟨p6, k6, rfl⟩ := ents_slice he6
      have hal6 : Below w6.heap.size w6 (w6.alloc (.cells #[.string k, .slice p7 q7 k7] 60)) := (Below.refl _ _).alloc (Nat.le_refl _) _
      have hb6' := H5.out.2.trans (hb6.mono H5.out.2.size)
      have H7 : Hid (Ents (w6.alloc (.cells #[.string k, .slice p7 q7 k7] 60)) (.slice p6 l1.length k6) l1 ∧ Ents (w6.alloc (.cells #[.string k, .slice p7 q7 k7] 60)) (.slice (some ⟨w6.heap.size, 0, none⟩) 1 1) [(k, cl)] ∧ Below w.heap.size w (w6.alloc (.cells #[.string k, .slice p7 q7 k7] 60))) := ⟨he6.next hal6, ent_lit (H5.out.1.next hb6), hb6'.trans (hal6.mono hb6'.size)⟩
      clear he6 hb6 hal6 hb6' H5 H1
      go_wp2_with fail
      refine (H2.out _ _ 0 _ H7.out.2.2 (Nat.sub_self _).symm (Nat.zero_le _) (Nat.zero_le _) (by intro h; omega)).mono ?_
      rintro e w8 ⟨v8, rfl, he8, hb8⟩
      obtain ⟨p8, k8, rfl⟩ := ents_slice he8
      have HC : Hid (Calls Tryd.prog 34 #[.slice (some ⟨w8.heap.size, 0, none⟩) 3 3] (w8.alloc (.cells #[.slice p6 l1.length k6, .slice (some ⟨w6.heap.size, 0, none⟩) 1 1, .slice p8 l2.length k8] 22)) fun e w' => ∃ v, e = .returned v ∧ Ents w' v (l1 ++ [(k, cl)] ++ l2) ∧ Below w.heap.size w w') := by
        have hal : Below w8.heap.size w8 (w8.alloc (.cells #[.slice p6 l1.length k6, .slice (some ⟨w6.heap.size, 0, none⟩) 1 1, .slice p8 l2.length k8] 22)) := (Below.refl _ _).alloc (Nat.le_refl _) _
        have h8 := H7.out.2.2.trans (hb8.mono H7.out.2.2.size)
        have h9 := h8.trans (hal.mono h8.size)
        refine (Concat3 _ w8.heap.size p6 _ p8 _ 1 _ k6 1 k8 l1 [(k, cl)] l2 ((H7.out.1.next hb8).next hal) ((H7.out.2.1.next hb8).next hal) (he8.next hal) (by have := HLN.out; omega) (by simp) (by simp) (by simp) (by simp)).mono ?_
        rintro e w' ⟨v, rfl, hv, hb⟩
        exact ⟨v, rfl, hv, h9.trans (hb.mono h9.size)⟩
      clear he8 hb8 H7 H2
      go_wp2_with fail
      refine HC.out.mono ?_
      rintro e w9 ⟨v9, rfl, hv9, hb9⟩
      have H9 : Hid (Ents w9 v9 (l1 ++ [(k, cl)] ++ l2) ∧ Below w.heap.size w w9) := ⟨hv9, hb9⟩
      clear hv9 hb9 HC
      go_wp2_with fail
      go_ret2
      exact ⟨v9, rfl, H9.out⟩

end Go.Proofs.YtkmmifonandkoaaDoor

/-
  The contract of index.Put.
-/
set_option linter.unusedVariables false
namespace Go.Proofs.YtkmmifonandkoaaDoor
open Go.RowKit

theorem CAdd_err {w : World} {v : Value} {l : List Ver} (h : Vers w v l) (hr : rightC l = true) (a b c : Int) (g : Bool) (s : ByteArray) (er : Int)
    (hc : (oneB (a, b, c, g, s) = false ∧ er = 1) ∨ (oneB (a, b, c, g, s) = true ∧ folB l (a, b, c, g, s) = false ∧ er = 9) ∨ (oneB (a, b, c, g, s) = true ∧ folB l (a, b, c, g, s) = true ∧ 64 ≤ l.length ∧ er = 6)) :
    Calls Tryd.prog 33 #[v, (Go.Value.agg #[Go.Value.int Go.IntKind.i64 a, Go.Value.int Go.IntKind.i64 b, Go.Value.int Go.IntKind.i64 c, Go.Value.bool g, Go.Value.string s])] w fun e w' => e = .returned (.tuple #[.slice none 0 0, .int .i64 er]) ∧ Below w.heap.size w w' := by
  obtain ⟨ao, cap, rfl⟩ := vers_slice' h
  obtain ⟨h1, h2, h3, _⟩ := Add_row w ao l.length cap l a b c g s (rightC l) (oneB (a, b, c, g, s)) (folB l (a, b, c, g, s)) rfl rfl rfl rfl h
  rcases hc with ⟨q, rfl⟩ | ⟨q, q2, rfl⟩ | ⟨q, q2, q3, rfl⟩
  · exact h1 (.inr q)
  · exact h2 hr q q2
  · exact h3 hr q q2 q3
theorem CAdd_ok {w : World} {v : Value} {l : List Ver} (h : Vers w v l) (hr : rightC l = true) (a b c : Int) (g : Bool) (s : ByteArray) (ho : oneB (a, b, c, g, s) = true) (hf : folB l (a, b, c, g, s) = true) (h64 : l.length < 64) :
    Calls Tryd.prog 33 #[v, (Go.Value.agg #[Go.Value.int Go.IntKind.i64 a, Go.Value.int Go.IntKind.i64 b, Go.Value.int Go.IntKind.i64 c, Go.Value.bool g, Go.Value.string s])] w fun e w' => ∃ v, e = .returned (.tuple #[v, .int .i64 0]) ∧ OwnsV w' w.heap.size v (l ++ [(a, b, c, g, s)]) ∧ Below w.heap.size w w' := by
  obtain ⟨ao, cap, rfl⟩ := vers_slice' h
  exact (Add_row w ao l.length cap l a b c g s (rightC l) (oneB (a, b, c, g, s)) (folB l (a, b, c, g, s)) rfl rfl rfl rfl h).2.2.2 hr ho hf h64
theorem vers_nil (w : World) : Vers w (.slice none 0 0) [] := ⟨none, 0, rfl, Nat.le_refl _, by unfold maxLen; omega, fun hp => absurd hp (Nat.lt_irrefl _)⟩
theorem rightC_nil : rightC [] = true := rightC_yes (by simp) (fun i hi => absurd hi (Nat.not_lt_zero _))

theorem fIPut : FIPut := by
  intro w v l k a b c g s m e hT h hp
  have HR : ∀ r, rightI l = r → Hid (∀ W, Below w.heap.size w W → Calls Tryd.prog 16 #[v] W fun e w' => e = .returned (.bool r) ∧ Below W.heap.size W w') := fun r hr => by
    show ∀ W, _ → _
    intro W hW
    rw [← hr]
    exact iRight_any (hT.next hW) (h.next hW)
  have HK : ∀ r, Ky.right k = r → Hid (∀ W, Calls Tryd.prog 31 #[.string k] W fun e w' => e = .returned (.bool r) ∧ Below W.heap.size W w') := fun r hr => by
    show ∀ W, _
    intro W
    rw [← hr]
    exact right_any k W
  have hbad : (rightI l = false ∨ Ky.right k = false) → m = [] ∧ e = 1 := fun hb => by
    rcases hp with ⟨_, h1, h2⟩ | ⟨h1, h2, _⟩
    · exact ⟨h1, h2⟩
    · rw [h1, h2] at hb; rcases hb with hb | hb <;> cases hb
  cases hr1 : rightI l
  · obtain ⟨rfl, rfl⟩ := hbad (.inl hr1)
    refine (iPut_bad w v k a b c g s false (Ky.right k) (.inl rfl) (HR false hr1) (HK _ rfl)).mono ?_
    rintro e w' ⟨rfl, hb⟩
    exact ⟨_, rfl, ents_nil _, hb⟩
  cases hr2 : Ky.right k
  · obtain ⟨rfl, rfl⟩ := hbad (.inr hr2)
    refine (iPut_bad w v k a b c g s true false (.inr rfl) (HR true hr1) (HK false hr2)).mono ?_
    rintro e w' ⟨rfl, hb⟩
    exact ⟨_, rfl, ents_nil _, hb⟩
  have HR' := HR true hr1
  have HK' := HK true hr2
  clear HR HK hbad
  obtain ⟨n, hn, hc⟩ : ∃ n, IsPos l k n ∧ ((oneB (a, b, c, g, s) = false ∧ m = [] ∧ e = 1) ∨ (oneB (a, b, c, g, s) = true ∧
      ((laterB (chainOf l k n) (a, b, c, g, s) = false ∧ m = [] ∧ e = 9) ∨
       (laterB (chainOf l k n) (a, b, c, g, s) = true ∧ (64 ≤ (chainOf l k n).length ∨ ((chainOf l k n).length = 0 ∧ 64 ≤ l.length)) ∧ m = [] ∧ e = 6) ∨
       (laterB (chainOf l k n) (a, b, c, g, s) = true ∧ (chainOf l k n).length < 64 ∧ ((chainOf l k n).length = 0 → l.length < 64) ∧ m = putI l k n (a, b, c, g, s) ∧ e = 0)))) := by
    rcases hp with ⟨h1 | h1 | h1, h2, h3⟩ | ⟨_, _, h3, n, hn, h4⟩
    · rw [hr1] at h1; cases h1
    · rw [hr2] at h1; cases h1
    · obtain ⟨n, hn⟩ := pos_ex hr1 k
      exact ⟨n, hn, .inl ⟨h1, h2, h3⟩⟩
    · exact ⟨n, hn, .inr ⟨h3, h4⟩⟩
  have h64 := (rightI_spec hr1).1
  have hcs : ∀ i, i < l.length → (lat l i).2.length ≤ 64 := fun i hi => (rightC_spec (ent_spec hr1 hi).2.2.1).1
  have HF : ∀ t, thereB l k n = t → Hid (∀ W, Below w.heap.size w W → Calls Tryd.prog 32 #[v, .string k] W fun e w' => e = .returned (.tuple #[.int .i64 n, .bool t]) ∧ Below W.heap.size W w') := fun t ht => by
    show ∀ W, _ → _
    intro W hW
    rw [← ht]
    exact find_any (hT.next hW) (h.next hW) h64 hn
  clear hp hT
  obtain ⟨ao, q, cap, es, rfl, hl, hle, hmx, hq, hrow, hlead⟩ := h.opened
  have hnq : n ≤ q := by rw [← hl]; exact hn.1
  have hmx2 : cap ≤ 9223372036854775807 := Nat.le_trans hmx (by decide)
  cases ht : thereB l k n
  · have HF' := HF false ht
    have ec : chainOf l k n = [] := by unfold chainOf; rw [ht]; rfl
    have ed : putI l k n (a, b, c, g, s) = l.take n ++ [(k, [(a, b, c, g, s)])] ++ l.drop n := by
      unfold putI
      rw [ec, ht]
      simp
    rw [ec, ed] at hc
    have hao : (ao = none ∧ q = 0) ∨ (q = 0 ∧ ∃ ad, ao = some ad) ∨ ∃ b0 off, ao = some ⟨b0, off, none⟩ := by
      rcases Nat.eq_zero_or_pos q with rfl | hp
      · cases ao with
        | none => exact .inl ⟨rfl, rfl⟩
        | some ad => exact .inr (.inl ⟨rfl, ad, rfl⟩)
      · obtain ⟨b0, off, rfl, _⟩ := hrow hp
        exact .inr (.inr ⟨b0, off, rfl⟩)
    rcases hc with ⟨ho, rfl, rfl⟩ | ⟨ho, ⟨hlt, rfl, rfl⟩ | ⟨hlt, hfull, rfl, rfl⟩ | ⟨hlt, _, hroom, rfl, rfl⟩⟩
    · exact iPut_new_err w ao q cap n k a b c g s 1 (.inl rfl) hnq hle hmx2 hao HR' HK' HF' (fun W _ => CAdd_err (vers_nil W) rightC_nil a b c g s 1 (.inl ⟨ho, rfl⟩))
    · cases hlt
    · have hq64 : q = 64 := by
        rcases hfull with h1 | ⟨_, h1⟩
        · simp at h1
        · omega
      obtain ⟨b0, off, rfl, _⟩ := hrow (by omega)
      exact iPut_new_full w b0 off q cap n k a b c g s _ hq64 hnq hle hmx2 HR' HK' HF' (fun W _ => CAdd_ok (vers_nil W) rightC_nil a b c g s ho rfl (by simp))
    · have hq64 : q < 64 := by have := hroom rfl; omega
      refine iPut_new_ok w ao q cap n k a b c g s (l.take n) (l.drop n) _ hq64 hnq hle hmx2 hao HR' HK' HF' (fun W _ => CAdd_ok (vers_nil W) rightC_nil a b c g s ho rfl (by simp)) ?_ ?_ ?_
      · show _ ≤ _
        rw [List.length_take, List.length_drop]
        omega
      · show ∀ W, _
        intro W p cc hW h1 h2 h3
        have hE : Ents W (.slice p n cc) (l.take n) := by
          rcases Nat.eq_zero_or_pos q with rfl | hp
          · obtain rfl : n = 0 := by omega
            rw [List.take_zero]
            exact ents_none W p (by omega)
          · obtain ⟨b0, off, rfl, hb, hcl⟩ := hrow hp
            exact Ents.front hl (fun _ => Nat.lt_of_lt_of_le hb hW.size) (fun i hi => (hcl i hi).next hW hb) (hlead.next hW) hnq h1 (Nat.le_trans h2 hmx) p h3
        refine copied_any hE (by rw [List.length_take]; omega) fun i hi => ?_
        rw [List.length_take] at hi
        rw [lat_take' l (by omega)]
        exact hcs i (by omega)
      · show ∀ W, _
        intro W p r' cc hW hr' h1 h2 h3
        subst hr'
        have hE : Ents W (.slice p (q - n) cc) (l.drop n) := by
          rcases Nat.eq_zero_or_pos q with rfl | hp
          · have e : l.drop n = [] := List.drop_eq_nil_of_le (by omega)
            rw [e, Nat.zero_sub]
            exact ents_none W p (by omega)
          · obtain ⟨b0, off, rfl, hb, hcl⟩ := hrow hp
            exact Ents.rest hl (fun _ => Nat.lt_of_lt_of_le hb hW.size) (fun i hi => (hcl i hi).next hW hb) (hlead.next hW) hnq h1 (Nat.le_trans h2 hmx) p (fun h => h3 (Nat.sub_pos_of_lt h) b0 off rfl)
        refine copied_any hE (by rw [List.length_drop]; omega) fun i hi => ?_
        rw [List.length_drop] at hi
        rw [lat_drop']
        exact hcs (n + i) (by omega)
  · have HF' := HF true ht
    have hnl := (there_yes ht).1
    have ec : chainOf l k n = (lat l n).2 := by unfold chainOf; rw [ht]; rfl
    have ed : putI l k n (a, b, c, g, s) = l.take n ++ [(k, (lat l n).2 ++ [(a, b, c, g, s)])] ++ l.drop (n + 1) := by
      unfold putI
      rw [ec, ht]
      simp
    rw [ec, ed] at hc
    obtain ⟨b0, off, rfl, hb, hcl⟩ := hrow (by omega)
    have hpos := (ent_spec hr1 hnl).2.1
    have hrc := (ent_spec hr1 hnl).2.2.1
    have HC : Hid (∀ W, Below w.heap.size w W → W.cell? ⟨b0, off + n * 2 + 1, none⟩ = some (eat es n).2) := fun W hW => ((hcl n (by omega)).next hW hb).2
    have hvv : ∀ W, Below w.heap.size w W → Vers W (eat es n).2 (lat l n).2 := fun W hW => (hlead.2 n hnl).2.next hW
    rcases hc with ⟨ho, rfl, rfl⟩ | ⟨ho, ⟨hlt, rfl, rfl⟩ | ⟨hlt, hfull, rfl, rfl⟩ | ⟨hlt, hroom, _, rfl, rfl⟩⟩
    · exact iPut_there_err w b0 off q cap n k a b c g s _ 1 (.inl rfl) (by omega) hle hmx2 HR' HK' HF' HC (fun W hW => CAdd_err (hvv W hW) hrc a b c g s 1 (.inl ⟨ho, rfl⟩))
    · exact iPut_there_err w b0 off q cap n k a b c g s _ 9 (.inr (.inr rfl)) (by omega) hle hmx2 HR' HK' HF' HC (fun W hW => CAdd_err (hvv W hW) hrc a b c g s 9 (.inr (.inl ⟨ho, hlt, rfl⟩)))
    · have h6 : 64 ≤ (lat l n).2.length := by
        rcases hfull with h1 | ⟨h1, _⟩
        · exact h1
        · omega
      exact iPut_there_err w b0 off q cap n k a b c g s _ 6 (.inr (.inl rfl)) (by omega) hle hmx2 HR' HK' HF' HC (fun W hW => CAdd_err (hvv W hW) hrc a b c g s 6 (.inr (.inr ⟨ho, hlt, h6, rfl⟩)))
    · refine iPut_there_ok w b0 off q cap n k a b c g s _ (l.take n) (l.drop (n + 1)) _ (by omega) hle hmx2 HR' HK' HF' HC (fun W hW => CAdd_ok (hvv W hW) hrc a b c g s ho hlt hroom) ?_ ?_ ?_
      · show _ ≤ _
        rw [List.length_take, List.length_drop]
        omega
      · show ∀ W, _
        intro W hW
        refine copied_any (Ents.front hl (fun _ => Nat.lt_of_lt_of_le hb hW.size) (fun i hi => (hcl i hi).next hW hb) (hlead.next hW) hnq (by omega) hmx _ (fun _ => rfl)) (by rw [List.length_take]; omega) fun i hi => ?_
        rw [List.length_take] at hi
        rw [lat_take' l (by omega)]
        exact hcs i (by omega)
      · show ∀ W, _
        intro W p r' cc hW hr' h1 h2 h3
        have hr2 : r' = q - (n + 1) := by omega
        subst hr2
        refine copied_any (Ents.rest hl (fun _ => Nat.lt_of_lt_of_le hb hW.size) (fun i hi => (hcl i hi).next hW hb) (hlead.next hW) (by omega) h1 (Nat.le_trans h2 hmx) p (fun h => ?_)) (by rw [List.length_drop]; omega) fun i hi => ?_
        · obtain ⟨o, rfl, ho⟩ := h3 (by omega)
          rw [ho]
        · rw [List.length_drop] at hi
          rw [lat_drop']
          exact hcs (n + 1 + i) (by omega)

end Go.Proofs.YtkmmifonandkoaaDoor

/-
  The contract of the statements' awake.
-/
set_option linter.unusedVariables false
namespace Go.Proofs.YtkmmifonandkoaaDoor
open Go.RowKit

def FIAwake : Prop := ∀ W : World, UtfAt W → Calls Tryd.prog 12 #[] W fun e w' => e = .returned (.bool true) ∧ Below W.heap.size W w'
def kA : ByteArray := { data := #[97] }
def vX : Ver := (1, 0, 0, false, { data := #[120] })
theorem kA_right : Ky.right kA = true := by kernel_rfl
theorem put_one : IsPut [] kA vX [(kA, [vX])] 0 :=
  .inr ⟨by decide, kA_right, by decide, 0, ⟨Nat.le_refl _, fun i hi => absurd hi (Nat.not_lt_zero _), fun i _ hi => absurd hi (Nat.not_lt_zero _)⟩, .inr (.inr ⟨rfl, by decide, fun _ => by decide, rfl, rfl⟩)⟩
theorem vX_right : rightC [vX] = true := by decide
theorem iX_right : rightI [(kA, [vX])] = true := by
  refine rightI_yes (by decide) fun i hi => ?_
  obtain rfl : i = 0 := by simpa using hi
  exact ent_ok kA_right (by decide) vX_right (fun h => absurd h (Nat.lt_irrefl _))
theorem at_uniq {l : List Ver} {x y z : Int} {u v : Ver} {ok ok' : Bool} (h : IsAt l x y z u ok) (h2 : IsAt l x y z v ok') : u = v ∧ ok = ok' := by
  rcases h with ⟨e, rfl, rfl⟩ | ⟨e, c1, rfl, rfl⟩ | ⟨e, rfl, n, c1, rfl⟩
  · rcases h2 with ⟨e', rfl, rfl⟩ | ⟨e', c2, rfl, rfl⟩ | ⟨e', rfl, n', c2, rfl⟩
    · exact ⟨rfl, rfl⟩
    all_goals (rw [e] at e'; cases e')
  · rcases h2 with ⟨e', rfl, rfl⟩ | ⟨e', c2, rfl, rfl⟩ | ⟨e', rfl, n', c2, rfl⟩
    · rw [e] at e'; cases e'
    · exact ⟨rfl, rfl⟩
    · have := cnt_one c1 c2; omega
  · rcases h2 with ⟨e', rfl, rfl⟩ | ⟨e', c2, rfl, rfl⟩ | ⟨e', rfl, n', c2, rfl⟩
    · rw [e] at e'; cases e'
    · have := cnt_one c1 c2; omega
    · have := cnt_one c1 c2
      obtain rfl : n = n' := by omega
      exact ⟨rfl, rfl⟩
theorem atX : IsAt [vX] 2 0 0 vX true :=
  .inr (.inr ⟨vX_right, rfl, 0, ⟨by decide, fun i hi => by obtain rfl : i = 0 := by omega
                                                           decide, fun i h1 h2 => by simp at h2; omega⟩, rfl⟩)
theorem al_one : alI [(kA, [vX])] { data := #[] } { data := #[] } 2 0 0 = [(kA, { data := #[120] })] := by
  obtain ⟨e1, e2⟩ := at_uniq (at_is [vX] 2 0 0) atX
  have h1 : aliveB { data := #[] } { data := #[] } 2 0 0 (kA, [vX]) = true := by
    have h2 : inR kA { data := #[] } { data := #[] } = true := by kernel_rfl
    simp only [aliveB, hasE, e1, e2, h2]
    rfl
  unfold alI
  rw [if_pos iX_right]
  simp only [aliveL, List.filter_cons, h1, if_true, List.filter_nil, List.map_cons, List.map_nil, valE, e1, e2]
  rfl

set_option maxRecDepth 100000 in
set_option maxHeartbeats 400000 in
theorem iawake_any (HP : FIPut) (HG : FIPage) : FIAwake := by
  intro w hT
  have HT := Lib.hid hT
  have HP1 := Lib.hid (HP w _ [] kA 1 0 0 false { data := #[120] } _ _ hT (ents_nil w) put_one)
  have HGH : Hid (∀ W v, UtfAt W → Ents W v [(kA, [vX])] → Calls Tryd.prog 21 #[v, .string { data := #[] }, .string { data := #[] }, (Go.Value.agg #[Go.Value.int Go.IntKind.i64 2, Go.Value.int Go.IntKind.i64 0, Go.Value.int Go.IntKind.i64 0]), .int .i64 5] W fun e w' => ∃ v', e = .returned (.tuple #[v', .string { data := #[] }, .bool false]) ∧ Itms w' v' [(kA, { data := #[120] })] ∧ Below W.heap.size W w') := fun W v ht h => by
    have h2 := HG W v _ { data := #[] } { data := #[] } 2 0 0 5 ht h (by omega)
    rw [al_one] at h2
    exact h2
  clear HP HG hT
  have hk : kA = { data := #[97] } := rfl
  rw [hk] at HP1 HGH
  go_enter Tryd.func12, Tryd.ntmps12
  go_wp2_with fail
  refine HP1.out.mono ?_
  rintro e w1 ⟨v, rfl, hv, hb1⟩
  have HV1 := Lib.hid hv
  obtain ⟨ao, cap, rfl⟩ := ents_slice hv
  clear hv
  go_wp2_with fail
  refine (HGH.out w1 _ (HT.out.next hb1) HV1.out).mono ?_
  rintro e w2 ⟨v2, rfl, hi2, hb2⟩
  have HB : Hid (Below w.heap.size w w2) := hb1.trans (hb2.mono hb1.size)
  obtain ⟨ao2, cap2, rfl, hz1, hz2, hz3⟩ := hi2
  obtain ⟨b0, off, rfl, hb0, hcl⟩ := hz3 (by decide)
  have hc0 := hcl 0 (by decide)
  simp only [Nat.zero_mul, Nat.add_zero] at hc0
  obtain ⟨x0, x1⟩ := hc0
  simp only [mat, List.getD_cons_zero] at x0 x1
  clear hb1 hb2 hz1 hz2 hz3 hcl hb0
  go_wp2_with fail
  go_ret
  exact ⟨rfl, HB.out⟩

end Go.Proofs.YtkmmifonandkoaaDoor

/-
  The contracts of package index, gathered.
-/
set_option linter.unusedVariables false
namespace Go.Proofs.YtkmmifonandkoaaDoor
open Go.RowKit

theorem fIRight : FIRight := fun _ _ _ hT h => iRight_any hT h

end Go.Proofs.YtkmmifonandkoaaDoor

/-
  The contracts of the document's Equal of two indexes that are the same, and of Of.
-/
set_option linter.unusedVariables false
namespace Go.Proofs.YtkmmifonandkoaaDoor
open Go.RowKit

/-- Two entries of two rows. -/
def E2 (w : World) (b1 o1 : Nat) (s : ByteArray) (u : Value) (b2 o2 : Nat) (u2 : Value) (W : World) : Prop := b1 < w.heap.size ∧ b2 < w.heap.size ∧ Below w.heap.size w W ∧ EntAt W b1 o1 (s, u) ∧ EntAt W b2 o2 (s, u2)
theorem E2.next {w W W' : World} {b1 o1 b2 o2 : Nat} {s : ByteArray} {u u2 : Value} (H : E2 w b1 o1 s u b2 o2 u2 W) (hb : Below W.heap.size W W') : E2 w b1 o1 s u b2 o2 u2 W' := by
  obtain ⟨h0, h1, h2, h3, h4⟩ := H
  have := h2.size
  exact ⟨h0, h1, h2.trans (hb.mono h2.size), h3.next hb (by omega), h4.next hb (by omega)⟩
theorem E2.drew {w W : World} {b1 o1 b2 o2 : Nat} {s : ByteArray} {u u2 : Value} (H : E2 w b1 o1 s u b2 o2 u2 W) : E2 w b1 o1 s u b2 o2 u2 W.drew := H.next ((Below.refl _ _).drew)

set_option maxRecDepth 100000 in
set_option maxHeartbeats 1000000 in
theorem refIEqual_any {w : World} {v v' : Value} {l : List Ent} (h : Ents w v l) (h' : Ents w v' l) : Calls Tryd.prog 15 #[v, v'] w fun e w' => e = .returned (.bool true) ∧ Below w.heap.size w w' := by
  obtain ⟨ao, n, cap, es, rfl, hl, hle, hmx, hn, hrow, hlead⟩ := h.opened
  obtain ⟨ao', n', cap', es', rfl, hl', hle', hmx', hn', hrow', hlead'⟩ := h'.opened
  obtain rfl : n' = n := by omega
  have HL := Lib.hid hl
  have HR := Lib.hid hrow
  have HE := Lib.hid hlead
  have HR' := Lib.hid hrow'
  have HE' := Lib.hid hlead'
  clear hl hrow hlead hle hmx h hl' hrow' hlead' hle' hmx' h' hn'
  go_enter Tryd.func15, Tryd.ntmps15
  go_wp2_with fail
  go_loopw [5] (fun i wr => ∃ k : Nat, k ≤ n' ∧ i = .int .i64 k ∧ Hid (Below w.heap.size w wr)) (fun i _ => n' - (intOf i).toNat)
  case atStart => exact ⟨0, Nat.zero_le _, rfl, Below.refl _ _⟩
  case round =>
    obtain ⟨k, hk, rfl, hbel⟩ := hrel
    by_cases hlt : k < n'
    · obtain ⟨b, off, rfl, hb, hcl⟩ := HR.out (by omega)
      obtain ⟨b', off', rfl, hb', hcl'⟩ := HR'.out (by omega)
      obtain ⟨hkey, hvers⟩ := HE.out.2 k (by rw [HL.out]; exact hlt)
      obtain ⟨hkey', hvers'⟩ := HE'.out.2 k (by rw [HL.out]; exact hlt)
      obtain ⟨s, hs⟩ : ∃ s, s = (lat l k).1 := ⟨_, rfl⟩
      obtain ⟨u, hu⟩ : ∃ u, u = (eat es k).2 := ⟨_, rfl⟩
      obtain ⟨u', hu'⟩ : ∃ u, u = (eat es' k).2 := ⟨_, rfl⟩
      rw [← hu] at hvers
      rw [← hu'] at hvers'
      have HQ : Hid (∀ W, Below w.heap.size w W → Calls Tryd.prog 40 #[u, u'] W fun e w' => e = .returned (.bool true) ∧ Below W.heap.size W w') := fun W hW => refEqual_any (hvers.next hW) (hvers'.next hW)
      have H : Hid (E2 w b (off + k * 2) s u b' (off' + k * 2) u' wr) := by
        refine ⟨hb, hb', hbel.out, ?_, ?_⟩
        · have := (hcl k hlt).next hbel.out hb
          unfold EntAt at this ⊢
          rw [hs, hu, ← hkey]; exact this
        · have := (hcl' k hlt).next hbel.out hb'
          unfold EntAt at this ⊢
          rw [hs, hu', ← hkey']; exact this
      clear hcl hcl' hkey hkey' hvers hvers' hs hu hu' hbel
      have q0 : k < n' := hlt
      go_upto_region 6 with (fail)
      refine wp_region_calm (E2 w b (off + k * 2) s u b' (off' + k * 2) u') (by kernel_rfl) (by kernel_rfl) H.out.drew ?_
      repeat ((with_reducible refine wpQuiet_step (fun K hK => ?_)); go_simp; first | (refine hK _ ?_; clear hK K) | (apply Exists.intro; refine ⟨fun wc hwc => ?_, hK _ ?_⟩; (focus (first | (first | (go_at_call 40; refine (HQ.out _ hwc.2.2.1).mono ?_; rintro e w1 ⟨rfl, hb1⟩; exact ⟨rfl, hwc.next hb1⟩)) | (((obtain ⟨_, _, _, ⟨x0, x1⟩, ⟨y0, y1⟩⟩ := hwc; dsimp only at x0 x1 y0 y1)); go_simp; done) | (((obtain ⟨_, _, _, ⟨x0, x1⟩, ⟨y0, y1⟩⟩ := hwc; dsimp only at x0 x1 y0 y1)); go_simp; exact rfl))); clear hK K))
      refine wpQuiet_nil ?_
      intro wc hwc
      go_wp2_with fail
      go_roundw
      case rel => exact ⟨k + 1, by omega, by go_num, hwc.2.2.1⟩
      case measure => simp [intOf]; omega
    · go_wp2_with fail
      go_ret
      exact ⟨rfl, hbel.out⟩

theorem vers_nil0 (W : World) : Vers W (.slice none 0 0) [] := ⟨none, 0, rfl, Nat.le_refl _, by unfold maxLen; omega, fun h => absurd h (Nat.not_lt_zero _)⟩

set_option maxRecDepth 100000 in
set_option maxHeartbeats 1000000 in
theorem refOf_any {w : World} {v : Value} {l : List Ent} {p : Nat} (h : Ents w v l) (hr : rightI l = true) (k : ByteArray) (hp : IsPos l k p) : Calls Tryd.prog 20 #[v, .string k] w fun e w' => ∃ u, e = .returned u ∧ Vers w' u (chainOf l k p) ∧ w' = w := by
  obtain ⟨ao, n, cap, es, rfl, hl, hle, hmx, hn, hrow, hlead⟩ := h.opened
  have HL := Lib.hid hl
  have HR := Lib.hid hrow
  have HE := Lib.hid hlead
  have HRI := Lib.hid hr
  have HP := Lib.hid hp
  clear hl hrow hlead hle hmx h hr hp
  go_enter Tryd.func20, Tryd.ntmps20
  go_wp2_with fail
  go_loop [5] (fun i => ∃ j : Nat, j ≤ n ∧ i = .int .i64 j ∧ Hid (∀ m, m < j → ¬ (lat l m).1 = k)) (fun i => n - (intOf i).toNat)
  case atStart => exact ⟨0, Nat.zero_le _, rfl, fun m hm => absurd hm (Nat.not_lt_zero _)⟩
  case round =>
    obtain ⟨j, hj, rfl, hno⟩ := hrel
    by_cases hlt : j < n
    · obtain ⟨b, off, rfl, hb, hcl⟩ := HR.out (by omega)
      obtain ⟨x0, x1⟩ := hcl j hlt
      obtain ⟨hkey, hvers⟩ := HE.out.2 j (by rw [HL.out]; exact hlt)
      obtain ⟨s, hs⟩ : ∃ s, s = (lat l j).1 := ⟨_, rfl⟩
      obtain ⟨u, hu⟩ : ∃ u, u = (eat es j).2 := ⟨_, rfl⟩
      rw [hkey, ← hs] at x0
      rw [← hu] at x1 hvers
      have HS := Lib.hid hs
      have HV := Lib.hid hvers
      have q0 : j < n := hlt
      clear hcl hkey hs hu hvers
      by_cases he : s = k
      · subst he
        have HX : Hid (chainOf l s p = (lat l j).2) := by
          have h2 := only_there HRI.out HP.out (i := j) (by rw [HL.out]; exact hlt) HS.out.symm
          show _ = _
          unfold chainOf
          rw [h2.2, ← h2.1]; rfl
        go_wp2_with fail
        go_ret
        exact ⟨_, rfl, by rw [HX.out]; exact HV.out, rfl⟩
      · have e1 : (s.toList == k.toList) = false := beq_eq_false_iff_ne.2 (fun e => he (list_inj e))
        have e2 : ¬ s.toList = k.toList := fun e => he (list_inj e)
        have HN : Hid (∀ m, m < j + 1 → ¬ (lat l m).1 = k) := by
          intro m hm
          by_cases hmj : m < j
          · exact hno.out m hmj
          · obtain rfl : m = j := by omega
            rw [← HS.out]; exact he
        clear he
        go_wp2_with fail
        go_round
        case rel => exact ⟨j + 1, by omega, by go_num, HN⟩
        case measure => simp [intOf]; omega
    · have HX : Hid (chainOf l k p = []) := by
        show _ = _
        unfold chainOf thereB
        rw [decide_eq_false (fun h => hno.out p (by have := HL.out; omega) h.2)]; rfl
      go_wp2_with fail
      go_ret
      exact ⟨_, rfl, by rw [HX.out]; exact vers_nil0 _, rfl⟩

end Go.Proofs.YtkmmifonandkoaaDoor
