/-
  Contracts of the document's Digits and Show.
-/
import Derived.Test.YtccieoofjopbkaaDoorStShow
import Derived.Test.YtccieoofjopbkaaDoorStDec
import Derived.Test.YtccieoofjopbkaaDoorBytes
namespace Go.Proofs.YtccieoofjopbkaaDoor
open Go.RowKit

theorem conv_one (w : World) (x : Int) (b : Nat) (hx : x = (b : Int)) (hb : b < 256) : (convert 60 9 (.slice (some ⟨w.heap.size, 0, none⟩) 1 1)).run Tryd.prog (w.alloc (.cells #[.int .u8 x] 5)) = .ok (.string (S [UInt8.ofNat b])) (w.alloc (.cells #[.int .u8 x] 5)) := by
  subst hx
  refine conv_back _ w.heap.size 1 [UInt8.ofNat b] 1 rfl (fun i hi => ?_)
  have : i = 0 := by omega
  subst this
  have e : (UInt8.ofNat b).toNat = b := by rw [UInt8.toNat_ofNat']; omega
  simp [e]

theorem decI_nat (n : Nat) : decI (n : Int) = S (Lib.decDigits n) := by
  unfold decI decS
  rw [Int.toNat_natCast]; rfl

set_option maxRecDepth 100000 in
set_option maxHeartbeats 400000 in
theorem Digits_any (n : Nat) (hn : n ≤ 1099511627776) (w : World) : Calls Tryd.prog 36 #[.int .i64 (n : Int)] w fun e w' => e = .returned (.string (S (Lib.decDigits n))) ∧ Below w.heap.size w w' := by
  have hsz := decI_size (n := (n : Int)) (by omega)
  rw [decI_nat] at hsz
  obtain ⟨T, hT⟩ : ∃ T, T = Lib.decDigits n := ⟨_, rfl⟩
  rw [← hT] at hsz ⊢
  rw [S_size] at hsz
  have HT := Lib.hid hT
  clear hT
  go_enter Tryd.func36, Tryd.ntmps36
  go_wp2_with fail
  go_loopw [0, 3] (fun i s wr => ∃ (m : Nat) (t : List UInt8), i = .int .i64 m ∧ m ≤ n ∧ s = .string (S t) ∧ Hid (Lib.decDigits m ++ t = T) ∧ Below w.heap.size w wr) (fun i _ _ => (intOf i).toNat)
  case atStart => exact ⟨n, [], rfl, Nat.le_refl _, rfl, (by show _ = _; rw [HT.out]; simp), Below.refl _ _⟩
  case round =>
    obtain ⟨m, t, rfl, hm, rfl, ht, hb⟩ := hrel
    have htl : t.length ≤ 19 := by
      have := ht.out
      have : (Lib.decDigits m ++ t).length = T.length := by rw [this]
      simp at this; omega
    have hts : (S t).size ≤ 19 := by rw [S_size]; exact htl
    by_cases hlt : 9 < m
    · have hcv := conv_one wr (48 + (m : Int) % 10) (48 + m % 10) (by omega) (by omega)
      have HT2 : Hid (Lib.decDigits (m / 10) ++ ([UInt8.ofNat (48 + m % 10)] ++ t) = T) := by
        show _ = _
        rw [← ht.out, Dc.dec_big (n := m) (by omega)]; simp
      have HS := Lib.hid (S_append [UInt8.ofNat (48 + m % 10)] t)
      have hz1 : (S [UInt8.ofNat (48 + m % 10)]).size = 1 := rfl
      generalize UInt8.ofNat (48 + m % 10) = d at *
      generalize S [d] = sd at *
      go_wp2_with fail
      go_roundw
      case rel => exact ⟨m / 10, _, by go_num, by omega, by rw [HS.out], HT2, hb.alloc hb.size _⟩
      case measure => simp [intOf]; omega
    · have hcv := conv_one wr (48 + (m : Int)) (48 + m) (by omega) (by omega)
      have HT2 : Hid (T = [UInt8.ofNat (48 + m)] ++ t) := by
        show _ = _
        rw [← ht.out, Dc.dec_small (n := m) (by omega)]
      have HS := Lib.hid (S_append [UInt8.ofNat (48 + m)] t)
      have hz1 : (S [UInt8.ofNat (48 + m)]).size = 1 := rfl
      generalize UInt8.ofNat (48 + m) = d at *
      generalize S [d] = sd at *
      go_wp2_with fail
      go_ret
      exact ⟨by rw [HT2.out, ← HS.out]; rfl, hb.alloc hb.size _⟩

def In41 (n : Int) : Prop := 0 ≤ n ∧ n ≤ 1099511627776
def Uno (w : World) (h : Nat) (a b c : Int) (W : World) : Prop := Below w.heap.size w W ∧ Box W h a b c
theorem Uno.next {w W W' : World} {h : Nat} {a b c : Int} (H : Uno w h a b c W) (hb : Below W.heap.size W W') : Uno w h a b c W' := ⟨H.1.trans (hb.mono H.1.size), H.2.over hb⟩

set_option maxRecDepth 100000 in
set_option maxHeartbeats 400000 in
theorem refShow_any (a b c : Int) (w : World) (h : rightB a b c = true) : Calls Tryd.prog 24 #[(Go.Value.agg #[Go.Value.int Go.IntKind.i64 a, Go.Value.int Go.IntKind.i64 b, Go.Value.int Go.IntKind.i64 c])] w fun e w' => e = .returned (.string (showS a b c)) ∧ Below w.heap.size w w' := by
  obtain ⟨ha, hb, hc⟩ := rightB_true h
  have HI : Hid (∀ (n : Int) W, In41 n → Calls Tryd.prog 36 #[.int .i64 n] W fun e w' => e = .returned (.string (decI n)) ∧ Below W.heap.size W w') := fun n W hn => by
    obtain ⟨m, rfl⟩ := Int.eq_ofNat_of_zero_le hn.1
    have h2 : (m : Int) ≤ 1099511627776 := hn.2
    have := Digits_any m (by omega) W
    rw [← decI_nat] at this
    exact this
  have ka : 0 ≤ a ∧ a ≤ 1099511627776 := ⟨by omega, by omega⟩
  have kb : 0 ≤ b ∧ b ≤ 1099511627776 := ⟨by omega, by omega⟩
  have kc : 0 ≤ c ∧ c ≤ 1099511627776 := ⟨by omega, by omega⟩
  have za := decI_size (n := a) (by omega)
  have zb := decI_size (n := b) (by omega)
  have zc := decI_size (n := c) (by omega)
  have ka : In41 a := ka
  have kb : In41 b := kb
  have kc : In41 c := kc
  clear ha hb hc h
  go_enter Tryd.func24, Tryd.ntmps24
  go_wp2_with fail
  have q1 : (9223372036854775807 < (decI a).size + 1) = False := eq_false (by omega)
  have q2 : (9223372036854775807 < (decI a).size + 1 + (decI b).size) = False := eq_false (by omega)
  have q3 : (9223372036854775807 < (decI a).size + 1 + (decI b).size + 1) = False := eq_false (by omega)
  have q4 : (9223372036854775807 < (decI a).size + 1 + (decI b).size + 1 + (decI c).size) = False := eq_false (by omega)
  clear za zb zc
  refine wp_region_calm (Uno w w.heap.size a b c) (by kernel_rfl) (by kernel_rfl) ⟨((Below.refl w.heap.size w).alloc (Nat.le_refl _) _).drew, (Box.new w a b c).drew⟩ ?_
  repeat (refine wpQuiet_step (fun K hK => ?_); go_simp; first | (refine hK _ ?_; clear hK K) | (apply Exists.intro; refine ⟨fun wc hwc => ?_, hK _ ?_⟩; (focus (first | (first | (go_at_call 36; refine (HI.out _ _ (by assumption)).mono ?_; rintro e w1 ⟨rfl, hb1⟩; exact ⟨rfl, hwc.next hb1⟩)) | (((obtain ⟨_, hx⟩ := hwc; obtain ⟨x1, x2, x3⟩ := hx.cell; clear hx)); go_simp; done) | (((obtain ⟨_, hx⟩ := hwc; obtain ⟨x1, x2, x3⟩ := hx.cell; clear hx)); go_simp; exact rfl))); clear hK K))
  refine wpQuiet_nil ?_
  intro wc hwc
  clear q1 q2 q3 q4
  go_wp2_with fail
  go_ret
  exact ⟨rfl, hwc.1⟩

end Go.Proofs.YtccieoofjopbkaaDoor
