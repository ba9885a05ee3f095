/-
  Letters, keys and their order are told as the document says; a key's letters make it. Up to 1048576 bytes each.
-/
import Derived.Test.YtiofjapakaoklaaDoorKyRefCompare
import Derived.Test.YtiofjapakaoklaaDoorKyLawsA
namespace Go.Proofs.YtiofjapakaoklaaDoor
open Go.RowKit
set_option linter.unusedVariables false

theorem codes_le (s : ByteArray) : ∀ f p, s.size - p ≤ f → ∀ c ∈ Ky.codes s p, c ≤ 1114111
  | 0, p, h => by rw [Ky.codes_end s p (by omega)]; intro c hc; cases hc
  | f + 1, p, h => by
    by_cases hp : p < s.size
    · have hw := Ky.width s p hp
      rw [Ky.codes_step s p hp]
      intro c hc
      rcases List.mem_cons.1 hc with rfl | hc
      · exact hw.2.2.2
      · exact codes_le s f _ (by omega) c hc
    · rw [Ky.codes_end s p hp]; intro c hc; cases hc
theorem code_wrap {x : Nat} (h : x ≤ 1114111) : wrap64 (x : Int) = (x : Int) := by
  unfold wrap64
  omega

set_option maxRecDepth 100000 in
set_option maxHeartbeats 1000000 in
theorem keyRights_walk (w : World) (hT : TabAt w) (s : ByteArray) (hs : s.size ≤ 1048576) :
    Calls Tryd.prog 3 #[.string s] w fun e w' => e = .returned (.bool true) ∧ Below w.heap.size w w' := by
  have HT := Lib.hid hT
  clear hT
  have hl1 := Ky.codes_len s 0
  have H1 := Lib.hid (fun W => letters_any s W (by omega))
  have H2 := Lib.hid (fun W => refLetters_any s W hs)
  obtain ⟨A, hA⟩ : ∃ A, Ky.right s = A := ⟨_, rfl⟩
  have H3 := Lib.hid (right_any s)
  have H4 := Lib.hid (refRight_any s)
  rw [hA] at H3 H4
  clear hA
  have hcl := Lib.hid (codes_le s s.size 0 (by omega))
  generalize Ky.codes s 0 = l1 at *
  go_enter Tryd.func3, Tryd.ntmps3
  go_wp2_with (fail)
  refine (H1.out _).mono ?_
  rintro e w1 ⟨v1, rfl, n1, hb1⟩
  go_wp2_with (fail)
  refine (H2.out _).mono ?_
  rintro e w2 ⟨v2, rfl, n2, hb2⟩
  have n1' := n1.next hb2
  have hbb := hb1.trans (hb2.mono hb1.size)
  clear n1 hb1 hb2
  obtain ⟨ao1, cap1, rfl, hc1⟩ := n1'
  obtain ⟨ao2, cap2, rfl, hc2⟩ := n2
  have HC1 := Lib.hid hc1
  have HC2 := Lib.hid hc2
  clear hc1 hc2
  go_wp2_with (fail)
  refine (H3.out _).mono ?_
  rintro e w3 ⟨rfl, hb3⟩
  go_wp2_with (fail)
  refine (H4.out _).mono ?_
  rintro e w4 ⟨rfl, rfl⟩
  go_wp2_with (fail)
  go_loopw [5, 24] (fun _ i wr => ∃ k : Nat, k ≤ l1.length ∧ i = .int .i64 k ∧ Below w2.heap.size w2 wr) (fun _ i _ => l1.length - (intOf i).toNat)
  case atStart => exact ⟨0, Nat.zero_le _, rfl, hb3⟩
  case round =>
    obtain ⟨k, hk1, rfl, hbel⟩ := hrel
    by_cases h1 : k < l1.length
    · obtain ⟨b1, rfl, g1, q1⟩ := HC1.out (by omega)
      obtain ⟨b2, rfl, g2, q2⟩ := HC2.out (by omega)
      have c1 := (hbel.cell (p := ⟨b1, k, none⟩) g1).trans (q1 k h1)
      have c2 := (hbel.cell (p := ⟨b2, k, none⟩) g2).trans (q2 k h1)
      have hx : l1.getD k 0 ≤ 1114111 := hcl.out _ (by simp [List.getD, h1])
      clear q1 q2
      generalize l1.getD k 0 = x at *
      have HW := Lib.hid (code_wrap hx)
      go_wp2_with fail
      go_quiet (fail)
      go_wp2_with fail
      exact ⟨⟨k + 1, by omega, by go_num, hbel.trans (Joins.below_draws _ _ _)⟩, by simp [intOf]; omega⟩
    · have hbc := hbb.trans (hbel.mono hbb.size)
      have HT3 := Lib.hid (HT.out.next hbc)
      clear HC1 HC2 hbb hbel hb3
      go_wp2_with fail
      refine (awake_any _ HT3.out).mono ?_
      rintro e w5 ⟨rfl, hb5⟩
      go_wp2_with (fail)
      go_ret
      exact ⟨rfl, hbc.trans (hb5.mono hbc.size)⟩

set_option maxRecDepth 100000 in
set_option maxHeartbeats 1000000 in
theorem keyCompares_walk (w : World) (hT : TabAt w) (a : ByteArray) (ha : a.size ≤ 1048576) (b : ByteArray) (hb : b.size ≤ 1048576) :
    Calls Tryd.prog 4 #[.string a, .string b] w fun e w' => e = .returned (.bool true) ∧ Below w.heap.size w w' := by
  obtain ⟨R1, e1, r1, H1⟩ := cmp_call a b
  obtain ⟨R2, e2, r2, H2⟩ := cmp_call b a
  have H3 := Lib.hid (fun W => refCompare_any a b W ha hb)
  rw [e1] at H3
  have hn : R2 = -R1 := by
    rw [← e1, ← e2]
    exact Ky.cmpL_neg _ _
  have HT := Lib.hid hT
  clear hT e1 e2 r2
  subst hn
  rcases r1 with rfl | rfl | rfl
  all_goals
    go_enter Tryd.func4, Tryd.ntmps4
    go_wp2_with (fail)
    refine (H1.out _ HT.out).mono ?_
    rintro e w1 ⟨rfl, hb1⟩
    have HT1 := Lib.hid (HT.out.next hb1)
    go_wp2_with (fail)
    refine (H3.out _).mono ?_
    rintro e w2 ⟨rfl, hb2⟩
    have HT2 := Lib.hid (HT1.out.next hb2)
    have hbb := hb1.trans (hb2.mono hb1.size)
    clear hb1 hb2
    go_wp2_with (fail)
    refine (H2.out _ HT2.out).mono ?_
    rintro e w3 ⟨rfl, hb3⟩
    have HT3 := Lib.hid (HT2.out.next hb3)
    have hbc := hbb.trans (hb3.mono hbb.size)
    clear hbb hb3
    go_wp2_with (fail)
    refine (H1.out _ HT3.out).mono ?_
    rintro e w4 ⟨rfl, hb4⟩
    have HT4 := Lib.hid (HT3.out.next hb4)
    have hbd := hbc.trans (hb4.mono hbc.size)
    clear hbc hb4
    go_wp2_with (fail)
    refine (awake_any _ HT4.out).mono ?_
    rintro e w5 ⟨rfl, hb5⟩
    go_wp2_with (fail)
    go_ret
    exact ⟨rfl, hbd.trans (hb5.mono hbd.size)⟩

/-! ### A key's letters make it -/
theorem encode_is (c : Nat) (h : Ky.vc c) : Utf8.encode (c : Int) = S (Ky.encB c) := by
  have hv : Utf8.valid (c : Int) = true := by
    unfold Ky.vc at h
    unfold Utf8.valid
    simp only [Bool.or_eq_true, Bool.and_eq_true, decide_eq_true_eq]
    omega
  unfold Utf8.encode Ky.encB
  simp only [hv, if_true, Int.toNat_natCast]
  repeat' split
  all_goals first | rfl | (exfalso; omega)
theorem runes_flat : ∀ (l : List Nat) (acc : ByteArray), (∀ c ∈ l, Ky.vc c) → ((l.map fun (c : Nat) => (c : Int)).foldl (fun r n => r ++ Utf8.encode n) acc) = acc ++ S (l.flatMap Ky.encB)
  | [], acc, _ => by
    show acc = acc ++ S []
    apply bytes_inj
    rw [app_list, S_list, List.append_nil]
  | c :: l, acc, h => by
    rw [List.map_cons, List.foldl_cons, runes_flat l _ (fun c hc => h c (List.mem_cons_of_mem _ hc)), encode_is c (h c (List.mem_cons_self ..)), List.flatMap_cons]
    apply bytes_inj
    rw [app_list, app_list, app_list, S_list, S_list, S_list, List.append_assoc]
theorem runes_key (s : ByteArray) (h : Ky.allPl s 0 = true) : runesBytes ((Ky.codes s 0).map fun (c : Nat) => (c : Int)) = s := by
  obtain ⟨e, hv⟩ := Ky.flat_eq s h
  unfold runesBytes
  rw [runes_flat _ _ hv, ← e]
  apply bytes_inj
  rw [app_list]
  rfl
theorem conv_runes (w : World) (v : Value) (l : List Nat) (h : NumsAt .i32 w v l) : (convert 22 9 v).run Tryd.prog w = .ok (.string (runesBytes (l.map fun (c : Nat) => (c : Int)))) w := by
  obtain ⟨ao, cap, rfl, hc⟩ := h
  by_cases h0 : 0 < l.length
  · obtain ⟨b, rfl, _, hcell⟩ := hc h0
    have := run_convert_runes (P := Tryd.prog) w 22 9 21 ⟨b, 0, none⟩ l.length cap (l.map fun (c : Nat) => (c : Int)) (by simp) Tryd.underlying22 Tryd.underlying21 Tryd.underlying9 (fun j hj => by
      have hj' : j < l.length := by simpa using hj
      rw [Addr.add_lit, Nat.zero_add, hcell j hj']
      simp [List.getD, hj'])
    rw [this, List.take_of_length_le (by simp)]
  · obtain rfl : l = [] := List.eq_nil_of_length_eq_zero (by omega)
    cases ao with
    | none => exact run_convert_runes_nil (P := Tryd.prog) w 22 9 21 _ cap Tryd.underlying22 Tryd.underlying21 Tryd.underlying9
    | some a => exact run_convert_runes (P := Tryd.prog) w 22 9 21 a 0 cap [] (by simp) Tryd.underlying22 Tryd.underlying21 Tryd.underlying9 (fun j hj => by simp at hj)

set_option maxRecDepth 100000 in
set_option maxHeartbeats 1000000 in
theorem keyLetters_walk (w : World) (hT : TabAt w) (s : ByteArray) (hs : s.size ≤ 1048576) :
    Calls Tryd.prog 10 #[.string s] w fun e w' => e = .returned (.bool true) ∧ Below w.heap.size w w' := by
  have HT := Lib.hid hT
  clear hT
  have hl1 := Ky.codes_len s 0
  have H1 := Lib.hid (fun W => letters_any s W (by omega))
  obtain ⟨A, hA⟩ : ∃ A, Ky.right s = A := ⟨_, rfl⟩
  have H3 := Lib.hid (right_any s)
  rw [hA] at H3
  have hkey : A = true → runesBytes ((Ky.codes s 0).map fun (c : Nat) => (c : Int)) = s ∧ 0 < (Ky.codes s 0).length := by
    intro h
    rw [h] at hA
    obtain ⟨h1, h2, _⟩ := Ky.right_pl s hA
    refine ⟨runes_key s h1, ?_⟩
    rw [Ky.codes_step s 0 (by omega)]
    simp
  have HK := Lib.hid hkey
  clear hA hkey
  generalize Ky.codes s 0 = l1 at *
  have hle : ¬ (s.size : Int) < (l1.length : Int) := by omega
  have hconv : ∀ W v, NumsAt .i32 W v l1 → (convert 22 9 v).run Tryd.prog W = .ok (.string (runesBytes (l1.map fun (c : Nat) => (c : Int)))) W := fun W v h => conv_runes W v l1 h
  have HCV := Lib.hid hconv
  clear hconv
  go_enter Tryd.func10, Tryd.ntmps10
  go_wp2_with (fail)
  refine (H1.out _).mono ?_
  rintro e w1 ⟨v1, rfl, n1, hb1⟩
  have n1c := n1
  obtain ⟨ao1, cap1, rfl, hc1⟩ := n1c
  clear hc1
  go_wp2_with (fail)
  refine (H3.out _).mono ?_
  rintro e w2 ⟨rfl, hb2⟩
  have hcv := HCV.out w2 _ (n1.next hb2)
  have hbb := hb1.trans (hb2.mono hb1.size)
  have HT2 := Lib.hid (HT.out.next hbb)
  clear n1 hb1 hb2
  cases A
  · generalize runesBytes (l1.map fun (c : Nat) => (c : Int)) = x at *
    go_wp2_with (fail)
    refine (awake_any _ HT2.out).mono ?_
    rintro e w3 ⟨rfl, hb3⟩
    go_wp2_with (fail)
    go_ret
    exact ⟨rfl, hbb.trans (hb3.mono hbb.size)⟩
  · obtain ⟨hk1, hk2⟩ := HK.out rfl
    rw [hk1] at hcv
    have hk3 : (0 : Int) < (l1.length : Int) := by omega
    clear hk1 HK HCV
    go_wp2_with (fail)
    refine (awake_any _ HT2.out).mono ?_
    rintro e w3 ⟨rfl, hb3⟩
    go_wp2_with (fail)
    go_ret
    exact ⟨rfl, hbb.trans (hb3.mono hbb.size)⟩

end Go.Proofs.YtiofjapakaoklaaDoor
