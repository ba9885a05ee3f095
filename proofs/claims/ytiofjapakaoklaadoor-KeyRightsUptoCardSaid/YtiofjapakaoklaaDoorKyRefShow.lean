/-
  The document's escaped form of a text.
-/
import Derived.Test.YtiofjapakaoklaaDoorKyRef
namespace Go.Proofs.YtiofjapakaoklaaDoor
open Go.RowKit
set_option linter.unusedVariables false

/-- The document's letter at a place: what the call answers, its code point, its width. -/
theorem ref_facts (s t : ByteArray) (p : Nat) (hp : p < s.size) (hlim : s.size ≤ 9223372036854775807) (ht : t = s.extract p s.size) :
    ∃ (C : Int) (c m : Nat), Utf8.decode s p = (c, m) ∧ -1 ≤ C ∧ C ≤ 1114111 ∧ (C = if c = 65533 ∧ m = 1 then -1 else (c : Int)) ∧ Ky.plainI C = Ky.plainB c m ∧ 1 ≤ m ∧ m ≤ 4 ∧ p + m ≤ s.size ∧ c ≤ 1114111 ∧ t.size = s.size - p ∧ t.extract m t.size = s.extract (p + m) s.size ∧
      Hid (∀ W, Calls Tryd.prog 22 #[.string t] W fun e w' => e = .returned (.tuple #[.int .i64 C, .int .i64 m]) ∧ W = w') := by
  obtain ⟨c, m, d1, d2, m1, m4, hpm, hc, hts, hte⟩ := rest_facts s t p hp ht
  have e : Ky.refL (Utf8.decode t 0) = (if c = 65533 ∧ m = 1 then (-1 : Int) else (c : Int), m) := by
    rw [d2]
    unfold Ky.refL
    by_cases h : c = 65533 ∧ m = 1
    · simp only [if_pos h]
      rw [h.2]
    · simp only [if_neg h]
  have hpl := Ky.plain_ref c m
  rw [← d2, e] at hpl
  dsimp only at hpl
  refine ⟨if c = 65533 ∧ m = 1 then (-1 : Int) else (c : Int), c, m, d1, ?_, ?_, rfl, hpl, m1, m4, hpm, hc, hts, hte, fun W => letter_any t W (by omega) (by omega) _ m e⟩
  · split <;> omega
  · split <;> omega

theorem front_list (t : ByteArray) (s : ByteArray) (p m : Nat) (ht : t = s.extract p s.size) (h : p + m ≤ s.size) : (t.extract 0 m).data.toList = (s.data.toList.drop p).take m := by
  rw [extract_list, ht, extract_list, List.drop_zero, Nat.sub_zero, List.take_take]
  congr 1
  omega

set_option maxRecDepth 100000 in
set_option maxHeartbeats 1000000 in
theorem refShow_any (s : ByteArray) (w : World) (hs : s.size ≤ 100000) :
    Calls Tryd.prog 19 #[.string s] w fun e w' => e = .returned (.string (showS s)) ∧ Below w.heap.size w w' := by
  by_cases h0 : s.size = 0
  · have h0' : ((s.size : Int) == 0) = true := by rw [h0]; rfl
    have hR : showS s = { data := #[37] } := by
      unfold showS Ky.showL
      rw [if_pos h0]; rfl
    rw [hR]
    have h0i : (s.size : Int) = 0 := by omega
    clear hR h0
    go_enter Tryd.func19, Tryd.ntmps19
    go_wp2
    go_ret
    exact ⟨rfl, Below.refl _ _⟩
  have h0' : ((s.size : Int) == 0) = false := beq_eq_false_iff_ne.2 (by omega)
  obtain ⟨T, hT⟩ : ∃ T, Ky.sh s 0 = T := ⟨_, rfl⟩
  have hR : showS s = S T := by
    unfold showS Ky.showL
    rw [if_neg h0, hT]
  rw [hR]
  have hTl : T.length ≤ 300000 := by
    have := Ky.sh_len s 0
    rw [hT] at this; omega
  have HT : Hid ([] ++ Ky.sh s 0 = T) := hT
  have HZ := Lib.hid (Ky.rest_zero s)
  clear hR hT
  obtain ⟨E, hE⟩ : ∃ E : ByteArray, E = S [] := ⟨_, rfl⟩
  go_enter Tryd.func19, Tryd.ntmps19
  go_wp2
  go_loopw [0, 3, 4, 5, 6] (fun v b _ _ _ wr => ∃ (p : Nat) (t x : ByteArray) (l : List UInt8), p ≤ s.size ∧ v = .string t ∧ Hid (t = s.extract p s.size) ∧ b = .string x ∧ Hid (x = S l) ∧ Hid (l ++ Ky.sh s p = T) ∧ Below w.heap.size w wr) (fun v _ _ _ _ _ => match v with | .string t => t.size | _ => 0)
  case atStart => exact ⟨0, s, { data := #[] }, [], Nat.zero_le _, rfl, HZ.out.symm, rfl, rfl, HT, Below.refl _ _⟩
  case round =>
    obtain ⟨p, t, x, l, hp, rfl, ht, rfl, hx, hl, hb⟩ := hrel
    have hts0 : Hid (t.size = s.size - p) := by show _ = _; rw [ht.out, Ky.rest_size]
    have hll : l.length ≤ 300000 := by
      have := congrArg List.length hl.out
      rw [List.length_append] at this; omega
    have hxs : x.size ≤ 300000 := by rw [hx.out, S_size]; exact hll
    by_cases hlt : p < s.size
    · obtain ⟨C, c, m, d1, c1, c2, hC, hpl, m1, m4, hpm, hc, hts, hte, HL⟩ := ref_facts s t p hlt (by omega) ht.out
      have htp : (0 : Int) < t.size := by omega
      have hmt : (m : Int) ≤ t.size := by omega
      have htz : t.size ≤ 100000 := by omega
      obtain ⟨y, hy⟩ : ∃ y, t.extract 0 m = y := ⟨_, rfl⟩
      have hyl : y.data.toList = (s.data.toList.drop p).take m := by rw [← hy]; exact front_list t s p m ht.out hpm
      have hys : y.size = m := by rw [← hy]; simp; omega
      have hst := hl.out
      rw [Ky.sh_step s p hlt, d1] at hst
      have hpc : Ky.piece s p (c, m) = if Ky.plainI C = true ∧ c ≠ 37 then y.data.toList else y.data.toList.flatMap Ky.hexB := by
        unfold Ky.piece
        rw [hyl, hpl]
      rw [hpc] at hst
      have h37 : C = 37 ↔ c = 37 := by
        rw [hC]
        split <;> omega
      obtain ⟨B, hB⟩ : ∃ B, Ky.plainI C = B := ⟨_, rfl⟩
      have HP : Hid (∀ W, Calls Tryd.prog 25 #[.int .i64 C] W fun e w' => e = .returned (.bool B) ∧ W = w') := fun W => by
        rw [← hB]; exact refPlain_any C W c1 c2
      rw [hB] at hst
      dsimp only at hst
      have HTE := Lib.hid hte
      have HYL := Lib.hid hyl
      have HTI : Hid (∀ k (h : k < t.size), k < m → y.data.toList[k]? = some (t[k]'h)) := by
        intro k h hk
        rw [← hy, extract_list, List.drop_zero, List.getElem?_take, if_pos (by omega), List.getElem?_eq_getElem (by simp; exact h)]
        rfl
      clear hte hyl hpc d1 hpl hB hC hts hl
      by_cases hbr : B = true ∧ ¬ C = 37
      · obtain ⟨rfl, hC37⟩ := hbr
        have hc37 : (C == 37) = false := beq_eq_false_iff_ne.2 hC37
        rw [if_pos ⟨rfl, fun h => hC37 (h37.2 h)⟩] at hst
        have HST : Hid ((l ++ y.data.toList) ++ Ky.sh s (p + m) = T) := by
          show _ = _
          rw [← hst, List.append_assoc]
        have HX2 : Hid (x ++ y = S (l ++ y.data.toList)) := by
          show _ = _
          rw [hx.out]
          exact S_append l y.data.toList
        have hsum : (x.size : Int) + (y.size : Int) ≤ 9223372036854775807 := by omega
        clear hst h37 hys
        go_wp2_with (first | (go_at_call 22; refine (HL.out _).mono ?_; rintro e W2 ⟨rfl, rfl⟩) | (go_at_call 25; refine (HP.out _).mono ?_; rintro e W2 ⟨rfl, rfl⟩))
        go_roundw
        case rel => exact ⟨p + m, t.extract m t.size, _, _, hpm, rfl, HTE, rfl, HX2, HST, hb⟩
        case measure =>
          have e2 : (t.extract m t.size).size = s.size - (p + m) := by rw [HTE.out, Ky.rest_size]
          show (t.extract m t.size).size < t.size
          rw [e2, hts0.out]; omega
      · have hst2 : (l ++ y.data.toList.flatMap Ky.hexB) ++ Ky.sh s (p + m) = T := by
          rw [← hst, if_neg (fun h => hbr ⟨h.1, fun h2 => h.2 (h37.1 h2)⟩), List.append_assoc]
        have HST := Lib.hid hst2
        have hyl2 : y.data.toList.length = m := by rw [bytes_len]; exact hys
        have HYM := Lib.hid hyl2
        have hbc : (B = false) ∨ (B = true ∧ C = 37) := by
          cases B
          · exact .inl rfl
          · right
            refine ⟨rfl, ?_⟩
            by_cases h : C = 37
            · exact h
            · exact absurd ⟨rfl, h⟩ hbr
        clear hst hst2 h37 hys hyl2 hbr c1 c2
        rcases hbc with rfl | ⟨rfl, rfl⟩
        all_goals
          go_wp2_with (first | (go_at_call 22; refine (HL.out _).mono ?_; rintro e W2 ⟨rfl, rfl⟩) | (go_at_call 25; refine (HP.out _).mono ?_; rintro e W2 ⟨rfl, rfl⟩))
          go_loopw [3, 6] (fun b i wr2 => ∃ (k : Nat) (x2 : ByteArray), k ≤ m ∧ i = .int .i64 k ∧ b = .string x2 ∧ x2.size ≤ 300000 + 3 * k ∧ Hid (x2 = S (l ++ (y.data.toList.take k).flatMap Ky.hexB)) ∧ Below w.heap.size w wr2) (fun _ i _ => m - (intOf i).toNat)
          case atStart => exact ⟨0, x, Nat.zero_le _, rfl, rfl, by omega, (by show _ = _; rw [hx.out, List.take_zero, List.flatMap_nil, List.append_nil]), hb⟩
          case round =>
            obtain ⟨k, x2, hk, rfl, rfl, hx2s, hx2, hb2⟩ := hrel
            by_cases hkm : k < m
            · have hkt : k < t.size := by omega
              obtain ⟨z, hz⟩ : ∃ z, t[k]'hkt = z := ⟨_, rfl⟩
              have HZ2 : Hid (y.data.toList.take (k + 1) = y.data.toList.take k ++ [z]) := by
                show _ = _
                have h := HTI.out k hkt hkm
                rw [hz] at h
                rw [List.take_add_one, h]
                rfl
              obtain ⟨g, hg⟩ : ∃ g, hexS z = g := ⟨_, rfl⟩
              have HX : Hid (∀ W, Calls Tryd.prog 30 #[.int .u8 (z.toNat : Int)] W fun e w' => e = .returned (.string g) ∧ Below W.heap.size W w') := fun W => by
                rw [← hg]; exact hex_any z W
              have hgs : g.size ≤ 3 := by rw [← hg, hexS_size]; exact Nat.le_refl _
              have HG : Hid (x2 ++ g = S (l ++ (y.data.toList.take (k + 1)).flatMap Ky.hexB)) := by
                show _ = _
                rw [hx2.out, ← hg, HZ2.out]
                unfold hexS
                rw [S_append, List.flatMap_append, List.append_assoc]
                simp
              have hsum : (x2.size : Int) + (g.size : Int) ≤ 9223372036854775807 := by omega
              have hxg : (x2 ++ g).size ≤ 300000 + 3 * (k + 1) := by rw [ByteArray.size_append]; omega
              have HXG := Lib.hid hxg
              clear hg hxg
              go_wp2_with (go_at_call 30; refine (HX.out _).mono ?_; rintro e W3 ⟨rfl, hb3⟩)
              go_roundw
              case rel => exact ⟨k + 1, x2 ++ g, by omega, by go_num, rfl, HXG.out, HG, hb2.trans (hb3.mono hb2.size)⟩
              case measure => simp [intOf]; omega
            · obtain rfl : k = m := by omega
              have htk : y.data.toList.take k = y.data.toList := List.take_of_length_le (by rw [HYM.out]; exact Nat.le_refl _)
              have hx3 := hx2.out
              rw [htk] at hx3
              have HX3 := Lib.hid hx3
              clear htk hx3 hx2 hb
              go_wp2
              refine ⟨⟨p + k, t.extract k t.size, x2, l ++ y.data.toList.flatMap Ky.hexB, hpm, rfl, HTE, rfl, HX3, HST, hb2⟩, ?_⟩
              have e2 : (t.extract k t.size).size = s.size - (p + k) := by rw [HTE.out, Ky.rest_size]
              show (t.extract k t.size).size < t.size
              rw [e2, hts0.out]; omega
    · have htz : ¬ (0 : Int) < t.size := by have := hts0.out; omega
      have h := hl.out
      rw [Ky.sh_end s p hlt, List.append_nil] at h
      subst h
      clear hl
      go_wp2
      go_ret
      refine ⟨?_, hb⟩
      rw [hx.out]
      rfl

end Go.Proofs.YtiofjapakaoklaaDoor
