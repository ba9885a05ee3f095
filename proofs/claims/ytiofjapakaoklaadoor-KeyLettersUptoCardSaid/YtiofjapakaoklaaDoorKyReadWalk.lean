/-
  The text of an escaped form: package key's function.
-/
import Derived.Test.YtiofjapakaoklaaDoorKyShowWalk
namespace Go.Proofs.YtiofjapakaoklaaDoor
open Go.RowKit

/-- The place of a hexadecimal digit. -/
def digI (y : UInt8) : Int := if Ky.hv y < 16 then (Ky.hv y : Int) else -1
theorem digI_eq (y : UInt8) : Lib.indexByte [48, 49, 50, 51, 52, 53, 54, 55, 56, 57, 65, 66, 67, 68, 69, 70] y = digI y := by
  have h : ∀ x : Fin 256, Lib.indexByte [48, 49, 50, 51, 52, 53, 54, 55, 56, 57, 65, 66, 67, 68, 69, 70] (UInt8.ofNat x.val) = digI (UInt8.ofNat x.val) := by decide +kernel
  have h2 := h ⟨y.toNat, y.toNat_lt⟩
  simpa using h2
theorem digit_any (y : UInt8) (W : World) :
    Calls Tryd.prog 38 #[.string { data := #[48, 49, 50, 51, 52, 53, 54, 55, 56, 57, 65, 66, 67, 68, 69, 70] }, .int .u8 (y.toNat : Int)] W fun e w' => e = .returned (.int .i64 (digI y)) ∧ w' = W := by
  have h := Tryd.strings_IndexByte { data := #[48, 49, 50, 51, 52, 53, 54, 55, 56, 57, 65, 66, 67, 68, 69, 70] } (y.toNat : Int) W
  have e1 : ((y.toNat : Int).toNat.toUInt8) = y := by simp
  rw [e1] at h
  refine h.mono ?_
  rintro e w' ⟨rfl, rfl⟩
  refine ⟨?_, rfl⟩
  rw [← digI_eq]
theorem or_digits {a b : Nat} (ha : a < 16) (hb : b < 16) : bits BinOp.or IntKind.i64 ((a : Int) * 16) (b : Int) = ((16 * a + b : Nat) : Int) := by
  have : ∀ (x y : Fin 16), bits BinOp.or IntKind.i64 ((x.val : Int) * 16) (y.val : Int) = ((16 * x.val + y.val : Nat) : Int) := by decide +kernel
  exact this ⟨a, ha⟩ ⟨b, hb⟩

theorem wrap_byte {z : Nat} (h : z < 256) : IntKind.u8.wrap (z : Int) = (z : Int) := by
  have : ∀ x : Fin 256, IntKind.u8.wrap (x.val : Int) = (x.val : Int) := by decide +kernel
  exact this ⟨z, h⟩
theorem wrap_high {a : Nat} (h : a < 16) : IntKind.i64.wrap ((a : Int) * 16) = (a : Int) * 16 := by
  have : ∀ x : Fin 16, IntKind.i64.wrap ((x.val : Int) * 16) = (x.val : Int) * 16 := by decide +kernel
  exact this ⟨a, h⟩

def unO (s : ByteArray) : Option (List UInt8) := Ky.un s.data.toList
def unS (s : ByteArray) : ByteArray := S ((unO s).getD [])
def unB (s : ByteArray) : Bool := (unO s).isSome

theorem below_drewN {B : Nat} {w w' : World} (h : Below B w w') (n : Nat) : Below B w (w'.drewN n) := h.trans ⟨rfl, rfl, rfl, Nat.le_refl _, fun _ _ => rfl⟩

set_option maxRecDepth 100000 in
set_option maxHeartbeats 1000000 in
theorem unescaped_any (s : ByteArray) (w : World) (hs : s.size ≤ 100000) :
    Calls Tryd.prog 31 #[.string s] w fun e w' => e = .returned (.tuple #[.string (unS s), .bool (unB s)]) ∧ Below w.heap.size w w' := by
  obtain ⟨i0, hi, hz0, hz1, hz2⟩ := info_parts info_byte
  obtain ⟨R, hR⟩ : ∃ R, unO s = R := ⟨_, rfl⟩
  have eS : unS s = S (R.getD []) := by unfold unS; rw [hR]
  have eB : unB s = R.isSome := by unfold unB; rw [hR]
  rw [eS, eB]
  have HR : Hid ((Ky.un (s.data.toList.drop 0)).map ([] ++ ·) = R) := by
    show _ = _
    rw [List.drop_zero, ← hR]
    show (Ky.un s.data.toList).map (fun x => x) = Ky.un s.data.toList
    cases Ky.un s.data.toList <;> rfl
  clear hR eS eB
  have HZ := Lib.hid (Ky.rest_zero s)
  go_enter Tryd.func31, Tryd.ntmps31
  go_wp2_with (at_make; refine wpList_make_own _ rfl _ _ 46 rfl w.heap.size 5 i0 (.int .u8 0) 1 Tryd.underlying46 hi hz0 hz1 .i64 .i64 _ s.size rfl rfl rfl (by rw [hz2]; omega) (by unfold maxLen; omega) (Nat.le_refl _) ?_; intro w0 hown0 hgrow0)
  have ho0 : Owns w0 w.heap.size (.slice (some ⟨w.heap.size, 0, none⟩) 0 s.size) [] := hown0
  have hb0 : Below w.heap.size w w0 := (Below.refl _ _).grown hgrow0 (Nat.le_refl _) (fun k hk => by cases hk)
  have hs0 := hb0.size
  clear hown0 hgrow0
  go_loopw [0, 4, 5, 6] (fun v b _ _ wr => ∃ (p : Nat) (t : ByteArray) (l : List UInt8), p ≤ s.size ∧ v = .string t ∧ Hid (t = s.extract p s.size) ∧ l.length ≤ p ∧ Hid ((Ky.un (s.data.toList.drop p)).map (l ++ ·) = R) ∧ Owns wr w.heap.size b l ∧ Below w.heap.size w wr) (fun v _ _ _ _ => match v with | .string t => t.size | _ => 0)
  case atStart => exact ⟨0, s, [], Nat.zero_le _, rfl, HZ.out.symm, Nat.le_refl _, HR, ho0, hb0⟩
  case round =>
    obtain ⟨p, t, l, hp, rfl, ht, hll, hl, ho, hb⟩ := hrel
    clear ho0 hb0
    have hts0 : Hid (t.size = s.size - p) := by show _ = _; rw [ht.out, Ky.rest_size]
    have hsz := hb.size
    by_cases hlt : p < s.size
    · have htz : 0 < t.size := by have := hts0.out; omega
      have hne := not_empty t htz
      have htz' : (0 : Int) < t.size := by omega
      have hgt : ∀ k, t.get! k = s.get! (p + k) := fun k => by rw [ht.out]; exact Ky.get!_rest s p k
      have hdr : s.data.toList.drop p = s.get! p :: s.data.toList.drop (p + 1) := by
        rw [List.drop_eq_getElem_cons (i := p) (by rw [bytes_len]; exact hlt), Ky.get!_lt s p hlt]
        rfl
      obtain ⟨x, hx⟩ : ∃ x, t.get! 0 = x := ⟨_, rfl⟩
      have ht0 : t[0]'htz = x := by rw [← hx]; exact (Ky.get!_lt t 0 htz).symm
      have hsx : s.get! p = x := by rw [← hx]; exact (hgt 0).symm
      rw [hsx] at hdr
      clear hx hsx
      have ho' : wr.ownsRow w.heap.size 5 1 u4 l.length (bytesV l) := ho
      by_cases h37 : x = 37
      · have hx37 : (x.toNat : Int) = 37 := by rw [h37]; rfl
        rw [h37] at hdr
        by_cases h3 : t.size < 3
        · have h3' : (t.size : Int) < 3 := by omega
          have hRn : R = none := by
            rw [← hl.out, hdr, Ky.un_short _ (by rw [List.length_drop, bytes_len]; have := hts0.out; omega)]
            rfl
          subst hRn
          clear hl hdr hgt
          go_wp2
          go_ret2
          exact ⟨rfl, hb⟩
        have h3' : ¬ (t.size : Int) < 3 := by omega
        have hp3 : p + 3 ≤ s.size := by have := hts0.out; omega
        have hdr2 : s.data.toList.drop (p + 1) = s.get! (p + 1) :: s.get! (p + 2) :: s.data.toList.drop (p + 3) := by
          rw [List.drop_eq_getElem_cons (i := p + 1) (by rw [bytes_len]; omega), Ky.get!_lt s (p + 1) (by omega),
            List.drop_eq_getElem_cons (i := p + 1 + 1) (by rw [bytes_len]; omega), Ky.get!_lt s (p + 2) (by omega)]
          rfl
        obtain ⟨y1, hy1⟩ : ∃ y, t.get! 1 = y := ⟨_, rfl⟩
        obtain ⟨y2, hy2⟩ : ∃ y, t.get! 2 = y := ⟨_, rfl⟩
        have ht1 : t[1]'(by omega) = y1 := by rw [← hy1]; exact (Ky.get!_lt t 1 (by omega)).symm
        have ht2 : t[2]'(by omega) = y2 := by rw [← hy2]; exact (Ky.get!_lt t 2 (by omega)).symm
        have hi1 : (1 : Int) < t.size := by omega
        have hi2 : (2 : Int) < t.size := by omega
        have hi3 : (3 : Int) ≤ t.size := by omega
        rw [← hgt 1, ← hgt 2, hy1, hy2] at hdr2
        have HI1 := Lib.hid (digit_any y1)
        have HI2 := Lib.hid (digit_any y2)
        have hun := hl.out
        rw [hdr, hdr2, Ky.un_esc] at hun
        have HU := Lib.hid hun
        clear hy1 hy2 hdr hdr2 hl hgt hun
        by_cases hv1 : Ky.hv y1 < 16
        · obtain ⟨a, ha⟩ : ∃ a, Ky.hv y1 = a := ⟨_, rfl⟩
          have D1 : digI y1 = (a : Int) := by unfold digI; rw [if_pos hv1, ha]
          rw [D1] at HI1
          clear D1
          by_cases hv2 : Ky.hv y2 < 16
          · obtain ⟨b, hb'⟩ : ∃ b, Ky.hv y2 = b := ⟨_, rfl⟩
            have D2 : digI y2 = (b : Int) := by unfold digI; rw [if_pos hv2, hb']
            rw [D2] at HI2
            clear D2
            have hst := HU.out
            rw [if_pos ⟨hv1, hv2⟩, ha, hb', Ky.map_comp] at hst
            rw [ha] at hv1
            rw [hb'] at hv2
            have hst2 : Hid ((Ky.un (s.data.toList.drop (p + 3))).map ((l ++ [UInt8.ofNat (16 * a + b)]) ++ ·) = R) := by
              show _ = _
              rw [← hst]
              congr 1
              funext z
              simp
            clear HU hst ha hb'
            have hte : Hid (t.extract 3 t.size = s.extract (p + 3) s.size) := by
              show _ = _
              have e := hts0.out
              rw [e, ht.out, Ky.rest_rest s p 3 (by omega)]
            have hor := or_digits hv1 hv2
            have hab : 16 * a + b < 256 := by omega
            generalize 16 * a + b = z at hor hst2 hab
            have hz := wrap_byte hab
            have hza := wrap_high hv1
            go_wp2
            go_quiet (first | (go_at_call 38; exact Calls.quiet_of_same (HI1.out _)) | (go_at_call 38; exact Calls.quiet_of_same (HI2.out _)))
            go_wp2
            have hbq := below_drewN hb nq
            have hoq : (wr.drewN nq).ownsRow w.heap.size 5 1 u4 l.length (bytesV l) := ho'
            have hsq := hbq.size
            clear hb ho ho' hsz HI1 HI2
            generalize wr.drewN nq = W2 at *
            go_region_held3 (fun _ => True) (trivial)
              ((refine step_append_lies _ (by rfl) _ _ _ (by rfl) w.heap.size 5 i0 (.int .u8 0) 1 1 Tryd.underlying46 hi hz0 hz1 hz2 rfl (by decide) _ _ _ (by rfl) ((hoq.alloc _).drew) ⟨W2.heap.size, 0, none⟩ 1 1 [.int .u8 (z : Int)] (by rfl) (by rfl) (World.news_of_block (cs := #[.int .u8 (z : Int)]) (t := 5) (fr := (0, 0)) (heap_alloc_new W2 _)) (ints_oneCell .u8 [(z : Int)]) (by decide) (by unfold maxLen; omega) (by omega) (by simp; omega) (W2.heap.size + 1) (by simp) ?_; intro gg cap w1 hown1 hgrow1 hat hlt2))
            all_goals
              go_wp2
              have hb1 := ((hbq.alloc hsq _).drew).grown hgrow1 (by simp; omega) (fun k hk => (hoq.lt k hk).1)
              refine ⟨⟨p + 3, t.extract 3 t.size, l ++ [UInt8.ofNat z], by omega, rfl, hte, by simp; omega, hst2, ?_, hb1⟩, ?_⟩
              · have e2 : (l ++ [UInt8.ofNat z]).length = l.length + 1 := by simp
                show w1.ownsRow w.heap.size 5 1 _ (l ++ [UInt8.ofNat z]).length (bytesV (l ++ [UInt8.ofNat z]))
                rw [e2, ← bytesV_snoc l z hab]; exact hown1
              · show (t.extract 3 t.size).size < t.size
                have e := hts0.out
                rw [hte.out, Ky.rest_size, e]; omega
          · have D2 : digI y2 = -1 := by unfold digI; rw [if_neg hv2]
            rw [D2] at HI2
            clear D2
            have hRn : R = none := by rw [← HU.out, if_neg (fun h => hv2 h.2)]; rfl
            subst hRn
            clear HU ha hv1 hv2
            go_wp2
            go_quiet (first | (go_at_call 38; exact Calls.quiet_of_same (HI1.out _)) | (go_at_call 38; exact Calls.quiet_of_same (HI2.out _)))
            go_wp2
            go_ret2
            exact ⟨rfl, below_drewN hb _⟩
        · have D1 : digI y1 = -1 := by unfold digI; rw [if_neg hv1]
          rw [D1] at HI1
          clear D1
          have hRn : R = none := by rw [← HU.out, if_neg (fun h => hv1 h.1)]; rfl
          subst hRn
          clear HU hv1
          go_wp2
          go_quiet (first | (go_at_call 38; exact Calls.quiet_of_same (HI1.out _)) | (go_at_call 38; exact Calls.quiet_of_same (HI2.out _)))
          go_wp2
          go_ret2
          exact ⟨rfl, below_drewN hb _⟩
      · have hx37 : ((x.toNat : Int) == 37) = false := beq_eq_false_iff_ne.2 (fun h => h37 (UInt8.toNat_inj.1 (by show x.toNat = 37; omega)))
        have hst : Hid ((Ky.un (s.data.toList.drop (p + 1))).map ((l ++ [x]) ++ ·) = R) := by
          show _ = _
          rw [← hl.out, hdr, Ky.un_cons x h37, Ky.map_comp]
          congr 1
          funext z
          simp
        have hte : Hid (t.extract 1 t.size = s.extract (p + 1) s.size) := by
          show _ = _
          have e := hts0.out
          rw [e, ht.out, Ky.rest_rest s p 1 (by omega)]
        have h1le : (1 : Int) ≤ t.size := by omega
        clear hdr hl hgt
        go_wp2
        go_region_held3 (fun _ => True) (trivial)
          ((refine step_append_lies _ (by rfl) _ _ _ (by rfl) w.heap.size 5 i0 (.int .u8 0) 1 1 Tryd.underlying46 hi hz0 hz1 hz2 rfl (by decide) _ _ _ (by rfl) ((ho'.alloc _).drew) ⟨wr.heap.size, 0, none⟩ 1 1 [.int .u8 (x.toNat : Int)] (by rfl) (by rfl) (World.news_of_block (cs := #[.int .u8 (x.toNat : Int)]) (t := 5) (fr := (0, 0)) (heap_alloc_new wr _)) (ints_oneCell .u8 [(x.toNat : Int)]) (by decide) (by unfold maxLen; omega) (by omega) (by simp; omega) (wr.heap.size + 1) (by simp) ?_; intro gg cap w1 hown1 hgrow1 hat hlt2))
        all_goals
          go_wp2
          have hb1 := ((hb.alloc hsz _).drew).grown hgrow1 (by simp; omega) (fun k hk => (ho'.lt k hk).1)
          refine ⟨⟨p + 1, t.extract 1 t.size, l ++ [x], by omega, rfl, hte, by simp; omega, hst, ?_, hb1⟩, ?_⟩
          · have e2 : (l ++ [x]).length = l.length + 1 := by simp
            show w1.ownsRow w.heap.size 5 1 _ (l ++ [x]).length (bytesV (l ++ [x]))
            rw [e2, bytesV_append]; exact hown1
          · show (t.extract 1 t.size).size < t.size
            have e := hts0.out
            rw [hte.out, Ky.rest_size, e]; omega
    · have hemp : t.toList.isEmpty = true := is_empty t (by have := hts0.out; omega)
      have hcv := convert_owns ho
      have h := hl.out
      rw [List.drop_of_length_le (by rw [bytes_len]; omega)] at h
      have hRl : R = some l := by rw [← h]; simp [Ky.un]
      subst hRl
      clear hl h
      go_wp2
      go_ret2
      exact ⟨rfl, hb⟩

end Go.Proofs.YtiofjapakaoklaaDoor
