/-
  The escaped form of a text: package key's function.
-/
import Derived.Test.YtiofjapakaoklaaDoorKyEsc
namespace Go.Proofs.YtiofjapakaoklaaDoor
open Go.RowKit

/-- A text's escaped form, as a text. -/
def showS (s : ByteArray) : ByteArray := S (Ky.showL s)

theorem owns_iterAt {w : World} {B : Nat} {v : Value} {l : List UInt8} (h : Owns w B v l) {k : Nat} {s : ByteArray} {p : Nat} (hk : w.heap[k]? = some (.stringIter s p)) (p' : Nat) : Owns (w.iterAt k s p') B v l := by
  have h' : w.ownsRow B 5 1 v l.length (bytesV l) := h
  refine ⟨h'.1, ?_⟩
  rcases h'.2 with h2 | ⟨g, cap, cur, e1, e2, e3, r⟩
  · exact .inl h2
  · have hkg : g ≠ k := by
      intro e
      rw [e, hk] at e3
      cases e3
    exact .inr ⟨g, cap, cur, e1, e2, (Lib.iterAt_other w k g s p' hkg).trans e3, r⟩

theorem text_list (s : ByteArray) (p q n : Nat) (h : p + n = q) : (s.extract p q).data.toList = (s.data.toList.drop p).take n := by
  rw [extract_list]
  congr 1
  omega

set_option maxRecDepth 100000 in
set_option maxHeartbeats 1000000 in
theorem show_any (s : ByteArray) (w : World) (hs : s.size ≤ 100000) :
    Calls Tryd.prog 18 #[.string s] w fun e w' => e = .returned (.string (showS s)) ∧ Below w.heap.size w w' := by
  obtain ⟨i0, hi, hz0, hz1, hz2⟩ := info_parts info_byte
  by_cases h0 : s.size = 0
  · have hemp : s.toList.isEmpty = true := is_empty s h0
    have hR : showS s = { data := #[37] } := by
      unfold showS Ky.showL
      rw [if_pos h0]; rfl
    rw [hR]
    clear hR h0
    go_enter Tryd.func18, Tryd.ntmps18
    go_wp2
    go_ret
    exact ⟨rfl, Below.refl _ _⟩
  have hne : s.toList.isEmpty = false := not_empty s (by omega)
  obtain ⟨T, hT⟩ : ∃ T, Ky.sh s 0 = T := ⟨_, rfl⟩
  have hR : showS s = S T := by
    unfold showS Ky.showL
    rw [if_neg h0, hT]
  rw [hR]
  have hTl : T.length ≤ 300000 := by
    have := Ky.sh_len s 0
    rw [hT] at this; omega
  have HT : Hid ([] ++ Ky.sh s 0 = T) := hT
  clear hR hT
  go_enter Tryd.func18, Tryd.ntmps18
  go_wp2_with (at_make; refine wpList_make_own _ rfl _ _ 46 rfl w.heap.size 5 i0 (.int .u8 0) 1 Tryd.underlying46 hi hz0 hz1 .i64 .i64 _ s.size rfl rfl rfl (by rw [hz2]; omega) (by unfold maxLen; omega) (Nat.le_refl _) ?_; intro w0 hown0 hgrow0)
  have ho0 : Owns w0 w.heap.size (.slice (some ⟨w.heap.size, 0, none⟩) 0 s.size) [] := hown0
  have hb0 : Below w.heap.size w w0 := (Below.refl _ _).grown hgrow0 (Nat.le_refl _) (fun k hk => by cases hk)
  have hs0 := hb0.size
  clear hown0 hgrow0
  go_loopw [3, 4, 5, 6] (fun v _ _ _ wr => ∃ (p : Nat) (l : List UInt8), p ≤ s.size ∧ wr.heap[w0.heap.size]? = some (.stringIter s p) ∧ Hid (l ++ Ky.sh s p = T) ∧ Owns wr w.heap.size v l ∧ Below w.heap.size w wr) (fun _ _ _ _ wr => s.size - wr.iterPos w0.heap.size)
  case atStart => exact ⟨0, [], Nat.zero_le _, World.iter_heap w0 s 0, HT, owns_alloc ho0 _, hb0.alloc hs0 _⟩
  case round =>
    obtain ⟨p, l, hp, hk, hl, ho, hb⟩ := hrel
    clear ho0 hb0
    by_cases hlt : p < s.size
    · obtain ⟨t, ht⟩ : ∃ t, t = s.extract p s.size := ⟨_, rfl⟩
      obtain ⟨c, n, d1, d2, m1, m4, hpm, hc, hts, hte⟩ := rest_facts s t p hlt ht
      have hnext : ∀ ty, (Instr.next (.pointer (some ⟨w0.heap.size, 0, none⟩)) true ty).run Tryd.prog wr = _ := fun ty => Lib.run_next_any_at wr w0.heap.size s p ty hk hlt
      have hk1 := Lib.iterAt_heap wr w0.heap.size s p (p + (Utf8.decode s p).2) hk
      have hb1 : Below w.heap.size w (wr.iterAt w0.heap.size s (p + (Utf8.decode s p).2)) := Lib.below_iterAt hb hs0 s (p + (Utf8.decode s p).2)
      have ho1 := owns_iterAt ho hk (p + (Utf8.decode s p).2)
      have hmu : wr.iterPos w0.heap.size = p := by simp [World.iterPos, hk]
      have HS : Hid (∀ W, Calls Tryd.prog 24 #[.int .i32 c, .string (s.extract p s.size)] W fun e w' => e = .returned (.int .i64 n) ∧ W = w') := fun W => by
        rw [← ht]; exact size_any t c n W (by omega) d2
      have hst := hl.out
      rw [Ky.sh_step s p hlt] at hst
      rw [d1] at hnext hk1 hb1 ho1 hst
      dsimp only at hnext hk1 hb1 ho1
      have hll : l.length ≤ 300000 := by
        have := congrArg List.length hl.out
        rw [List.length_append] at this; omega
      clear hl d1 d2 ht hte hts ho
      generalize wr.iterAt w0.heap.size s (p + n) = W1 at hnext hk1 hb1 ho1
      have hkl := lt_of_iter hk1
      have hple : (p : Int) ≤ s.size := by omega
      obtain ⟨q, hq⟩ : ∃ q, p + n = q := ⟨_, rfl⟩
      have q1 : (p : Int) + (n : Int) = (q : Int) := by omega
      have hqs : (q : Int) ≤ s.size := by omega
      have hpq : (p : Int) ≤ (q : Int) := by omega
      obtain ⟨x, hx⟩ : ∃ x, s.extract p q = x := ⟨_, rfl⟩
      have hxl := text_list s p q n hq
      have hxs : x.size = n := by rw [← hx]; simp; omega
      rw [hx] at hxl
      have hpc : Ky.piece s p (c, n) = if Ky.plainB c n = true ∧ c ≠ 37 then x.data.toList else x.data.toList.flatMap Ky.hexB := by
        unfold Ky.piece
        rw [hxl]
      rw [hpc] at hst
      rw [hq] at hk1
      dsimp only at hst
      rw [hq] at hst
      clear hpc hxl hq
      obtain ⟨B, hB⟩ : ∃ B, Ky.plainB c n = B := ⟨_, rfl⟩
      have HP : Hid (∀ W, Calls Tryd.prog 23 #[.int .i32 c, .int .i64 n] W fun e w' => e = .returned (.bool B) ∧ W = w') := fun W => by
        rw [← hB]; exact plain_any c n W hc m4
      rw [hB] at hst
      clear hB
      have hszW := hb1.size
      have hxs1 : x.size ≤ 4 := by omega
      have hmu2 : Hid (∀ W2 : World, W2.heap[w0.heap.size]? = some (.stringIter s q) → s.size - W2.iterPos w0.heap.size < s.size - p) := by
        intro W2 h
        have : W2.iterPos w0.heap.size = q := by simp [World.iterPos, h]
        rw [this]; omega
      by_cases h37 : c = 37
      · subst h37
        have HST : Hid ((l ++ x.data.toList.flatMap Ky.hexB) ++ Ky.sh s q = T) := by
          show _ = _
          rw [← hst, List.append_assoc]; simp
        clear hst
        go_wp2_with (first | (go_at_call 24; refine (HS.out _).mono ?_; rintro e W2 ⟨rfl, rfl⟩) | (go_at_call 29; refine (appendEscaped_any w.heap.size u3 l x W1 hszW (by omega) (by omega) ho1).mono ?_; rintro e W2 ⟨v2, rfl, ho2, hb2, hok2⟩))
        go_roundw
        case rel => exact ⟨q, _, by omega, hok2 _ _ hk1 (by simp) (by intro _ _ h; cases h), HST, ho2, hb1.trans hb2⟩
        case measure =>
          rw [hmu]
          exact hmu2.out W2 (hok2 _ _ hk1 (by simp) (by intro _ _ h; cases h))
      · have hc37 : ((c : Int) == 37) = false := beq_eq_false_iff_ne.2 (by omega)
        cases B
        · have HST : Hid ((l ++ x.data.toList.flatMap Ky.hexB) ++ Ky.sh s q = T) := by
            show _ = _
            rw [← hst, List.append_assoc]; simp
          clear hst
          go_wp2_with (first | (go_at_call 24; refine (HS.out _).mono ?_; rintro e W2 ⟨rfl, rfl⟩) | (go_at_call 23; refine (HP.out _).mono ?_; rintro e W2 ⟨rfl, rfl⟩) | (go_at_call 29; refine (appendEscaped_any w.heap.size u3 l x W1 hszW (by omega) (by omega) ho1).mono ?_; rintro e W2 ⟨v2, rfl, ho2, hb2, hok2⟩))
          go_roundw
          case rel => exact ⟨q, _, by omega, hok2 _ _ hk1 (by simp) (by intro _ _ h; cases h), HST, ho2, hb1.trans hb2⟩
          case measure =>
            rw [hmu]
            exact hmu2.out W2 (hok2 _ _ hk1 (by simp) (by intro _ _ h; cases h))
        · have HST : Hid ((l ++ x.data.toList) ++ Ky.sh s q = T) := by
            show _ = _
            rw [← hst, List.append_assoc]; simp [h37]
          clear hst
          have ho' : W1.ownsRow w.heap.size 5 1 u3 l.length (bytesV l) := ho1
          go_wp2_with (first | (go_at_call 24; refine (HS.out _).mono ?_; rintro e W2 ⟨rfl, rfl⟩) | (go_at_call 23; refine (HP.out _).mono ?_; rintro e W2 ⟨rfl, rfl⟩) | (at_builtin; refine Lib.wpList_append_own_string _ rfl (.tmp 36) (.tmp 37) 46 9 rfl w.heap.size 5 i0 Tryd.underlying46 Tryd.underlying9 hi hz0 hz1 hz2 u3 l.length (bytesV l) rfl ho' x rfl (by unfold maxLen; omega) (by omega) hszW ?_; intro v2 W2 hown2 hgrow2 _))
          have hb2 := hb1.grown hgrow2 hszW (fun k hk => (ho'.lt k hk).1)
          have hok2 := (Lib.OthersKept.refl 5 none W1).grown hgrow2 (fun g hg => owns_kind ho1 g hg)
          have ho2 : Owns W2 w.heap.size v2 (l ++ x.data.toList) := by
            have e2 : (l ++ x.data.toList).length = l.length + x.size := by simp
            show W2.ownsRow w.heap.size 5 1 v2 (l ++ x.data.toList).length (bytesV (l ++ x.data.toList))
            rw [e2, bytesV_append]; exact hown2
          clear hown2 hgrow2
          go_wp2
          go_roundw
          case rel => exact ⟨q, _, by omega, hok2 _ _ hk1 (by simp) (by intro _ _ h; cases h), HST, ho2, hb2⟩
          case measure =>
            rw [hmu]
            exact hmu2.out W2 (hok2 _ _ hk1 (by simp) (by intro _ _ h; cases h))
    · have hnext : ∀ ty, (Instr.next (.pointer (some ⟨w0.heap.size, 0, none⟩)) true ty).run Tryd.prog wr = _ := fun ty => Lib.run_next_end_at wr w0.heap.size s p ty hk hlt
      have hcv := convert_owns ho
      have h := hl.out
      rw [Ky.sh_end s p hlt, List.append_nil] at h
      subst h
      clear hl
      go_wp2
      go_ret
      exact ⟨rfl, hb⟩

end Go.Proofs.YtiofjapakaoklaaDoor
