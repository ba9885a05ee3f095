/-
  The contract of Show.
-/
import Derived.Test.YtccieoofjopbkaaDoorStShowA
import Derived.Test.YtccieoofjopbkaaDoorStCalm
import Derived.Test.YtccieoofjopbkaaDoorStTab
namespace Go.Proofs.YtccieoofjopbkaaDoor
open Go.RowKit

theorem itoa_dec {n : Int} (h : 0 ≤ n) : (⟨(Lib.itoa n).toArray⟩ : ByteArray) = decI n := by
  unfold Lib.itoa decI decS
  rw [if_neg (by omega)]

theorem grow_below (w : World) (k : Nat) (os : Array Obj) : Below w.heap.size w (Go.Sort.grow (w.drewN k) os) := by
  have hd : (w.drewN k).heap = w.heap := rfl
  refine ⟨rfl, rfl, rfl, ?_, ?_⟩
  · show w.heap.size ≤ (w.heap ++ os).size
    simp
  · intro b hb
    show (w.heap ++ os)[b]? = w.heap[b]?
    rw [Array.getElem?_append_left hb]

theorem Itoa_any (n : Int) (w : World) (h0 : 0 ≤ n) (h1 : n ≤ 9223372036854775807) (hT : StTab w) :
    Calls Tryd.prog 34 #[.int .i64 n] w fun e w' => e = .returned (.string (decI n)) ∧ Below w.heap.size w w' := by
  refine (Tryd.strconv_Itoa n (by omega) h1 w hT.1).mono ?_
  rintro e w1 ⟨rfl, k, os, rfl⟩
  exact ⟨by rw [itoa_dec h0], grow_below _ _ _⟩

/-- A valid stamp's printed form. -/
def showS (a b c : Int) : ByteArray := decI a ++ { data := #[46] } ++ decI b ++ { data := #[46] } ++ decI c

def One (w : World) (h : Nat) (a b c : Int) (W : World) : Prop := Below w.heap.size w W ∧ Box W h a b c ∧ StTab W
theorem One.next {w W W' : World} {h : Nat} {a b c : Int} (H : One w h a b c W) (hb : Below W.heap.size W W') : One w h a b c W' :=
  ⟨H.1.trans (hb.mono H.1.size), H.2.1.over hb, H.2.2.next hb⟩

def In63 (n : Int) : Prop := 0 ≤ n ∧ n ≤ 9223372036854775807

set_option maxRecDepth 100000 in
set_option maxHeartbeats 400000 in
theorem Show_any (a b c : Int) (w : World) (hT : StTab w) (h : rightB a b c = true) : Calls Tryd.prog 22 #[(Go.Value.agg #[Go.Value.int Go.IntKind.i64 a, Go.Value.int Go.IntKind.i64 b, Go.Value.int Go.IntKind.i64 c])] w fun e w' => e = .returned (.string (showS a b c)) ∧ Below w.heap.size w w' := by
  have HR : Hid (∀ W, Calls Tryd.prog 15 #[(Go.Value.agg #[Go.Value.int Go.IntKind.i64 a, Go.Value.int Go.IntKind.i64 b, Go.Value.int Go.IntKind.i64 c])] W fun e w' => e = .returned (.bool true) ∧ Below W.heap.size W w') := fun W => by rw [← h]; exact Right_any _ _ _ W
  obtain ⟨ha, hb, hc⟩ := rightB_true h
  have HI : Hid (∀ (n : Int) W, In63 n → StTab W → Calls Tryd.prog 34 #[.int .i64 n] W fun e w' => e = .returned (.string (decI n)) ∧ Below W.heap.size W w') := fun n W hn hT => Itoa_any n W hn.1 hn.2 hT
  have ka : In63 a := ⟨by omega, by omega⟩
  have kb : In63 b := ⟨by omega, by omega⟩
  have kc : In63 c := ⟨by omega, by omega⟩
  have za := decI_size ka.2
  have zb := decI_size kb.2
  have zc := decI_size kc.2
  have HT := Lib.hid hT
  clear ha hb hc h hT
  go_enter Tryd.func22, Tryd.ntmps22
  go_wp2_with fail
  refine (HR.out _).mono ?_
  rintro e w1 ⟨rfl, hb1⟩
  obtain ⟨hx, hb⟩ := W1_next hb1
  have H1 : Hid (One w w.heap.size a b c w1) := ⟨hb, hx, HT.out.next hb⟩
  clear hb1 hx hb
  go_wp2_with fail
  have q1 : (9223372036854775807 < (decI a).size + 1) = False := eq_false (by omega)
  have q2 : (9223372036854775807 < (decI a).size + 1 + (decI b).size) = False := eq_false (by omega)
  have q3 : (9223372036854775807 < (decI a).size + 1 + (decI b).size + 1) = False := eq_false (by omega)
  have q4 : (9223372036854775807 < (decI a).size + 1 + (decI b).size + 1 + (decI c).size) = False := eq_false (by omega)
  clear za zb zc
  refine wp_region_calm (One w w.heap.size a b c) (by kernel_rfl) (by kernel_rfl) ⟨H1.out.1.drew, H1.out.2.1, H1.out.2.2⟩ ?_
  repeat (refine wpQuiet_step (fun K hK => ?_); go_simp; first | (refine hK _ ?_; clear hK K) | (apply Exists.intro; refine ⟨fun wc hwc => ?_, hK _ ?_⟩; (focus (first | (first | (go_at_call 34; refine (HI.out _ _ (by assumption) hwc.2.2).mono ?_; rintro e w1 ⟨rfl, hb1⟩; exact ⟨rfl, hwc.next hb1⟩)) | (((obtain ⟨_, hx, _⟩ := hwc; obtain ⟨x1, x2, x3⟩ := hx.cell; clear hx)); go_simp; done) | (((obtain ⟨_, hx, _⟩ := hwc; obtain ⟨x1, x2, x3⟩ := hx.cell; clear hx)); go_simp; exact rfl))); clear hK K))
  refine wpQuiet_nil ?_
  intro wc hwc
  clear q1 q2 q3 q4
  go_wp2_with fail
  go_ret
  exact ⟨rfl, hwc.1⟩

end Go.Proofs.YtccieoofjopbkaaDoor
