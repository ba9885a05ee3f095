/-
  The document's text of a word.
-/
import Derived.Test.YtiofjapakaoklaaDoorKyRefShow
import Derived.Deep.RegionWith
namespace Go.Proofs.YtiofjapakaoklaaDoor
open Go.RowKit
set_option linter.unusedVariables false

def readB (s : ByteArray) : Bool := (Ky.readO s).isSome

theorem conv_one (w : World) (z : UInt8) : (convert 46 9 (.slice (some ⟨w.heap.size, 0, none⟩) 1 1)).run Tryd.prog ((w.alloc (.cells #[.int .u8 (z.toNat : Int)] 5)).drew) = .ok (.string (S [z])) ((w.alloc (.cells #[.int .u8 (z.toNat : Int)] 5)).drew) := by
  refine run_convert_bytes_back (P := Tryd.prog) _ 46 9 5 ⟨w.heap.size, 0, none⟩ 1 [z] Tryd.underlying46 Tryd.underlying5 Tryd.underlying9 (fun j hj => ?_)
  obtain rfl : j = 0 := by simp at hj; exact hj
  rw [Addr.add_lit, Nat.zero_add]
  simp

theorem one_slice (s : ByteArray) (k : Nat) (h : k < s.size) : s.extract k (k + 1) = S [s[k]] := by
  apply bytes_inj
  rw [extract_list, S_list, Nat.add_sub_cancel_left, List.drop_eq_getElem_cons (i := k) (by rw [bytes_len]; exact h), List.take_succ_cons, List.take_zero]
  rfl

set_option maxRecDepth 100000 in
set_option maxHeartbeats 1000000 in
theorem refRead_any (s : ByteArray) (w : World) (hs : s.size ≤ 100000) :
    Calls Tryd.prog 21 #[.string s] w fun e w' => e = .returned (.tuple #[.string (readS s), .bool (readB s)]) ∧ Below w.heap.size w w' := by
  obtain ⟨O, hO⟩ : ∃ O, Ky.readO s = O := ⟨_, rfl⟩
  have eS : readS s = S (O.getD []) := by unfold readS; rw [hO]
  have eE : readB s = O.isSome := by unfold readB; rw [hO]
  rw [eS, eE]
  have HO := Lib.hid hO
  clear hO eS eE
  by_cases h37 : s.data.toList = [37]
  · have hs2 : s = { data := #[37] } := bytes_inj h37
    have hO := HO.out
    unfold Ky.readO at hO
    rw [if_pos h37] at hO
    subst hO
    clear HO h37
    subst hs2
    go_enter Tryd.func21, Tryd.ntmps21
    go_wp2
    go_ret2
    exact ⟨rfl, Below.refl _ _⟩
  have hn2 : ¬ s.toList = [37] := by rw [ByteArray.toList_eq]; exact h37
  have hn1 : (s.toList == [37]) = false := beq_eq_false_iff_ne.2 hn2
  have hO := HO.out
  unfold Ky.readO at hO
  rw [if_neg h37] at hO
  obtain ⟨R, hR⟩ : ∃ R, Ky.un s.data.toList = R := ⟨_, rfl⟩
  rw [hR] at hO
  have HO2 := Lib.hid hO
  have HR : Hid ((Ky.un (s.data.toList.drop 0)).map ([] ++ ·) = R) := by
    show _ = _
    rw [List.drop_zero, ← hR]
    show (Ky.un s.data.toList).map (fun x => x) = Ky.un s.data.toList
    cases Ky.un s.data.toList <;> rfl
  have H37 := Lib.hid h37
  clear HO hO h37 hR
  go_enter Tryd.func21, Tryd.ntmps21
  go_wp2
  go_loopw [4, 5] (fun b i wr => ∃ (k : Nat) (x : ByteArray) (l : List UInt8), k ≤ s.size ∧ i = .int .i64 k ∧ b = .string x ∧ Hid (x = S l) ∧ l.length ≤ k ∧ Hid ((Ky.un (s.data.toList.drop k)).map (l ++ ·) = R) ∧ Below w.heap.size w wr) (fun _ i _ => s.size - (intOf i).toNat)
  case atStart => exact ⟨0, { data := #[] }, [], Nat.zero_le _, rfl, rfl, rfl, Nat.le_refl _, HR, Below.refl _ _⟩
  case round =>
    obtain ⟨k, x, l, hk, rfl, rfl, hx, hll, hl, hb⟩ := hrel
    have hxs : x.size ≤ 100000 := by rw [hx.out, S_size]; omega
    have hsz := hb.size
    by_cases hlt : k < s.size
    · obtain ⟨c, hc⟩ : ∃ c, s[k]'hlt = c := ⟨_, rfl⟩
      have hdr : s.data.toList.drop k = c :: s.data.toList.drop (k + 1) := by
        rw [List.drop_eq_getElem_cons (i := k) (by rw [bytes_len]; exact hlt), ← hc]
        rfl
      by_cases hc37 : c = 37
      · have hx37 : (c.toNat : Int) = 37 := by rw [hc37]; rfl
        rw [hc37] at hdr
        by_cases h3 : s.size - k < 3
        · have h3' : (s.size : Int) - (k : Int) < 3 := by omega
          have hRn : R = none := by
            rw [← hl.out, hdr, Ky.un_short _ (by rw [List.length_drop, bytes_len]; omega)]
            rfl
          subst hRn
          have hO := HO2.out
          dsimp only at hO
          subst hO
          clear hl hdr HO2 HR
          go_wp2
          go_ret2
          exact ⟨rfl, hb⟩
        have h3' : ¬ (s.size : Int) - (k : Int) < 3 := by omega
        have hk1 : k + 1 < s.size := by omega
        have hk2 : k + 2 < s.size := by omega
        obtain ⟨y1, hy1⟩ : ∃ y, s[k + 1]'hk1 = y := ⟨_, rfl⟩
        obtain ⟨y2, hy2⟩ : ∃ y, s[k + 2]'hk2 = y := ⟨_, rfl⟩
        have hi1 : (k : Int) + 1 < s.size := by omega
        have hi2 : (k : Int) + 2 < s.size := by omega
        have hdr2 : s.data.toList.drop (k + 1) = y1 :: y2 :: s.data.toList.drop (k + 3) := by
          rw [List.drop_eq_getElem_cons (i := k + 1) (by rw [bytes_len]; omega), List.drop_eq_getElem_cons (i := k + 1 + 1) (by rw [bytes_len]; omega), ← hy1, ← hy2]
          rfl
        have hun := hl.out
        rw [hdr, hdr2, Ky.un_esc] at hun
        have HU := Lib.hid hun
        clear hdr hdr2 hl hun HR
        obtain ⟨a, ha⟩ : ∃ a, Ky.hv y1 = a := ⟨_, rfl⟩
        obtain ⟨b, hb'⟩ : ∃ b, Ky.hv y2 = b := ⟨_, rfl⟩
        have hu := HU.out
        have hr1 := hv_range y1
        have hr2 := hv_range y2
        rw [ha] at hu hr1
        rw [hb'] at hu hr2
        have HU2 := Lib.hid hu
        clear HU hu
        by_cases hv1 : a < 16
        · have hA : ((a : Int) == 99) = false := beq_eq_false_iff_ne.2 (by omega)
          by_cases hv2 : b < 16
          · have hBn : ((b : Int) == 99) = false := beq_eq_false_iff_ne.2 (by omega)
            have hst := HU2.out
            rw [if_pos ⟨hv1, hv2⟩, Ky.map_comp] at hst
            obtain ⟨z, hz⟩ : ∃ z, UInt8.ofNat (16 * a + b) = z := ⟨_, rfl⟩
            rw [hz] at hst
            have hzn : z.toNat = 16 * a + b := by rw [← hz]; exact ofNat_nat (by omega)
            have hst2 : Hid ((Ky.un (s.data.toList.drop (k + 3))).map ((l ++ [z]) ++ ·) = R) := by
              show _ = _
              rw [← hst]
              congr 1
              funext z
              simp
            have q1 : (16 : Int) * (a : Int) + (b : Int) = (z.toNat : Int) := by omega
            have hzl := z.toNat_lt
            have q2 := wrap_byte hzl
            clear HU2 hst hz hzn
            go_wp2_with (go_at_call 32; refine (value_any _ _).mono ?_; rintro e W2 ⟨rfl, rfl⟩)
            have hcv := conv_one W2 z
            obtain ⟨y, hy⟩ : ∃ y, S [z] = y := ⟨_, rfl⟩
            rw [hy] at hcv
            have hys : y.size = 1 := by rw [← hy]; rfl
            have HX2 : Hid (x ++ y = S (l ++ [z])) := by
              show _ = _
              rw [hx.out, ← hy, S_append]
            have hsum : (x.size : Int) + (y.size : Int) ≤ 9223372036854775807 := by omega
            have qa : IntKind.i64.wrap ((16 : Int) * (a : Int)) = (16 : Int) * (a : Int) := by rw [Int.mul_comm]; exact wrap_high hv1
            have qb : IntKind.i64.wrap ((z.toNat : Int)) = (z.toNat : Int) := wrap_small _ (by omega) (by omega)
            have r1 : (0 : Int) ≤ (k : Int) + 1 := by omega
            have r2 : (0 : Int) ≤ (k : Int) + 2 := by omega
            have r3 : IntKind.i64.wrap ((k : Int) + 1) = (k : Int) + 1 := wrap_small _ (by omega) (by omega)
            have r4 : IntKind.i64.wrap ((k : Int) + 2) = (k : Int) + 2 := wrap_small _ (by omega) (by omega)
            have r5 : ((k : Int) + 1).toNat = k + 1 := by omega
            have r6 : ((k : Int) + 2).toNat = k + 2 := by omega
            clear hy
            go_region_with (go_at_call 32; refine (value_any _ _).mono ?_; rintro e W3 ⟨rfl, rfl⟩)
            all_goals
              go_wp2
              exact ⟨⟨k + 3, x ++ y, l ++ [z], by omega, by go_num, rfl, HX2, by simp; omega, hst2, (hb.alloc hsz _).drew⟩, by simp [intOf]; omega⟩
          · have hb99 : b = 99 := by omega
            rw [hb99] at hb'
            have hRn : R = none := by rw [← HU2.out, if_neg (fun h => hv2 h.2)]; rfl
            subst hRn
            have hO := HO2.out
            dsimp only at hO
            subst hO
            clear HU2 HO2
            go_wp2_with (go_at_call 32; refine (value_any _ _).mono ?_; rintro e W2 ⟨rfl, rfl⟩)
            go_ret2
            exact ⟨rfl, hb⟩
        · obtain rfl : a = 99 := by omega
          have hRn : R = none := by rw [← HU2.out, if_neg (fun h => hv1 h.1)]; rfl
          subst hRn
          have hO := HO2.out
          dsimp only at hO
          subst hO
          clear HU2 HO2
          go_wp2_with (go_at_call 32; refine (value_any _ _).mono ?_; rintro e W2 ⟨rfl, rfl⟩)
          go_ret2
          exact ⟨rfl, hb⟩
      · have hx37 : ((c.toNat : Int) == 37) = false := beq_eq_false_iff_ne.2 (fun h => hc37 (UInt8.toNat_inj.1 (by show c.toNat = 37; omega)))
        have hst : Hid ((Ky.un (s.data.toList.drop (k + 1))).map ((l ++ [c]) ++ ·) = R) := by
          show _ = _
          rw [← hl.out, hdr, Ky.un_cons c hc37, Ky.map_comp]
          congr 1
          funext z
          simp
        have hsl := one_slice s k hlt
        obtain ⟨y, hy⟩ : ∃ y, S [c] = y := ⟨_, rfl⟩
        rw [hc, hy] at hsl
        have hys : y.size = 1 := by rw [← hy]; rfl
        have HX2 : Hid (x ++ y = S (l ++ [c])) := by
          show _ = _
          rw [hx.out, ← hy, S_append]
        have hk1 : (k : Int) + 1 ≤ s.size := by omega
        clear hdr hl HR hy
        go_wp2
        go_roundw
        case rel => exact ⟨k + 1, x ++ y, l ++ [c], by omega, by go_num, rfl, HX2, by simp; omega, hst, hb⟩
        case measure => simp [intOf]; omega
    · have hR2 := hl.out
      rw [List.drop_of_length_le (by rw [bytes_len]; omega)] at hR2
      have hRl : R = some l := by rw [← hR2]; simp [Ky.un]
      subst hRl
      have hO := HO2.out
      dsimp only at hO
      rw [← hx.out] at hO
      clear hl hR2 HR HO2
      by_cases hz : x.size = 0
      · have hzi : (x.size : Int) = 0 := by omega
        have hOn : O = none := by
          rw [← hO, if_neg]
          intro h
          have e : Ky.showL x = [37] := by unfold Ky.showL; rw [if_pos hz]
          rw [e] at h
          exact H37.out h.symm
        subst hOn
        clear hO hz
        go_wp2
        go_ret2
        exact ⟨rfl, hb⟩
      · have hzi : ((x.size : Int) == 0) = false := beq_eq_false_iff_ne.2 (by omega)
        obtain ⟨y, hy⟩ : ∃ y, showS x = y := ⟨_, rfl⟩
        have HS : Hid (∀ W, Calls Tryd.prog 19 #[.string x] W fun e w' => e = .returned (.string y) ∧ Below W.heap.size W w') := fun W => by
          rw [← hy]; exact refShow_any x W hxs
        have hyl : Ky.showL x = y.data.toList := by rw [← hy]; rfl
        rw [hyl] at hO
        clear hy hyl hz
        by_cases he : y = s
        · subst he
          rw [if_pos rfl] at hO
          subst hO
          go_wp2_with (go_at_call 19; refine (HS.out _).mono ?_; rintro e W3 ⟨rfl, hb3⟩)
          go_ret2
          refine ⟨?_, hb.trans (hb3.mono hb.size)⟩
          rw [hx.out]; rfl
        · have hy2 : ¬ y.toList = s.toList := fun h => he (list_inj h)
          have hy1 : (y.toList == s.toList) = false := beq_eq_false_iff_ne.2 hy2
          rw [if_neg (fun h => he (bytes_inj h))] at hO
          subst hO
          clear he
          go_wp2_with (go_at_call 19; refine (HS.out _).mono ?_; rintro e W3 ⟨rfl, hb3⟩)
          go_ret2
          exact ⟨rfl, hb.trans (hb3.mono hb.size)⟩

end Go.Proofs.YtiofjapakaoklaaDoor
