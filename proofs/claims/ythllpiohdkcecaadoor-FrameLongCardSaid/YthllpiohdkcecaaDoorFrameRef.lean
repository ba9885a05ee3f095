/-
  The contract of the document's Take for frames, and the fixed answer.
-/
import Derived.Test.YthllpiohdkcecaaDoorFrameWalks
namespace Go.Proofs.YthllpiohdkcecaaDoor
open Go.RowKit

set_option maxRecDepth 100000 in
set_option maxHeartbeats 1000000 in
theorem refFTake_any (s : ByteArray) (w : World) (hs : s.size ≤ 9223372036854775807) :
    Calls Tryd.prog 14 #[.string s] w (FTakePost s w) := by
  rcases htk : tk s with ⟨n, r, q⟩
  by_cases h0 : q = 0
  · subst h0
    have hsz := tk_size htk
    have hn63 := (tk_whole htk).2
    have hl9 := Pk.enc_len9 hn63
    have hS : (S r).size = r.length := S_size r
    by_cases h1 : 1048576 < n
    · have HK := Lib.hid (tkF_long htk h1)
      have HC := Lib.hid htk
      clear htk
      go_enter Tryd.func14, Tryd.ntmps14
      go_wp2_with fail
      refine (refTake_is hs HC.out).mono ?_
      rintro e w1 ⟨rfl, hb1⟩
      generalize S r = x at *
      go_wp2_with fail
      go_ret3
      exact ⟨by rw [HK.out]; rfl, hb1⟩
    · by_cases h2 : r.length < n + 4
      · have HK := Lib.hid (tkF_short htk h1 h2)
        have HC := Lib.hid htk
        have h2i : (r.length : Int) - 4 < (n : Int) := by omega
        clear htk
        generalize Pk.enc n = d at *
        go_enter Tryd.func14, Tryd.ntmps14
        go_wp2_with fail
        refine (refTake_is hs HC.out).mono ?_
        rintro e w1 ⟨rfl, hb1⟩
        generalize S r = x at *
        go_wp2_with fail
        go_ret3
        exact ⟨by rw [HK.out]; rfl, hb1⟩
      · have hrn : (r.take n).length = n := by rw [List.length_take]; omega
        have hfs : (frS (S (r.take n))).size = (Pk.enc n).length + n + 4 := by rw [frS_size, S_size, hrn]
        have hx : (S r).extract 0 n = S (r.take n) := by rw [extract_front, S_list]
        have hbz : (S (r.take n)).size = n := by rw [S_size, hrn]
        have HG := Lib.hid (fun h3 => tkF_ref_good htk h1 h2 h3)
        have HB := Lib.hid (fun h3 => tkF_ref_bad htk h1 h2 h3)
        have HC := Lib.hid htk
        clear htk hrn
        generalize S (r.take n) = b at *
        have HX := Lib.hid hx
        clear hx
        have hfi : (frS b).size ≤ s.size := by omega
        have h2i : ¬ (r.length : Int) - 4 < (n : Int) := by omega
        have hni : (n : Int) ≤ (r.length : Int) := by omega
        clear hfs
        generalize Pk.enc n = d at *
        go_enter Tryd.func14, Tryd.ntmps14
        go_wp2_with fail
        refine (refTake_is hs HC.out).mono ?_
        rintro e w1 ⟨rfl, hb1⟩
        generalize S r = x at *
        have hnx : (n : Int) ≤ (x.size : Int) := by omega
        have hrl : (r.length : Int) ≤ 9223372036854775807 := by omega
        clear hsz
        go_wp2_with fail
        rw [HX.out]
        refine (refWrap_any b _ (by omega)).mono ?_
        rintro e w2 ⟨rfl, hb2⟩
        have hbb := hb1.trans (hb2.mono hb1.size)
        clear hb1 hb2
        generalize frS b = f at *
        have q2 : (f.size : Int) ≤ (s.size : Int) := by omega
        go_wp2_with fail
        · have ht : (!f.toList == (s.extract 0 f.size).toList) = true := by assumption
          have hq : ¬ f = s.extract 0 f.size := fun e => by rw [← e] at ht; simp at ht
          have HK := HB.out hq
          clear ht hq
          go_ret3
          exact ⟨by rw [HK]; rfl, hbb⟩
        · have ht : (!f.toList == (s.extract 0 f.size).toList) = false := by assumption
          have hq : f = s.extract 0 f.size := list_inj (by simpa using ht)
          have HK := Lib.hid (HG.out hq)
          clear ht hq
          go_quiet (fail)
          go_wp2_with fail
          go_ret3
          exact ⟨by rw [HK.out, HX.out]; rfl, hbb.trans (Joins.below_draws _ _ _)⟩
  · have hq : (tk s).2.2 ≠ 0 := by rw [htk]; exact h0
    have HK := Lib.hid (tkF_err hq)
    have HC := Lib.hid htk
    have h3 : ((q : Int) == 0) = false := by rw [beq_eq_false_iff_ne]; omega
    clear hq h0 htk
    go_enter Tryd.func14, Tryd.ntmps14
    go_wp2_with fail
    refine (refTake_is hs HC.out).mono ?_
    rintro e w1 ⟨rfl, hb1⟩
    go_wp2_with fail
    go_ret3
    exact ⟨by rw [HK.out, HC.out]; rfl, hb1⟩

/-! ### The fixed answer -/
theorem wrapAb (w : World) (hT : TabAt w) : Calls Tryd.prog 11 #[.string { data := #[97, 98] }] w fun e w' => e = .returned (.tuple #[.string { data := #[2, 97, 98, 147, 175, 200, 60] }, .int .i64 0]) ∧ Below w.heap.size w w' := by
  have h := Wrap_any { data := #[97, 98] } w (by decide) hT
  have e : frS { data := #[97, 98] } = { data := #[2, 97, 98, 147, 175, 200, 60] } := by decide +kernel
  rw [e] at h
  exact h

theorem takeAb (w : World) (hT : TabAt w) : Calls Tryd.prog 13 #[.string { data := #[2, 97, 98, 147, 175, 200, 60, 120] }] w fun e w' => e = .returned (.tuple #[.string { data := #[97, 98] }, .string { data := #[120] }, .int .i64 0]) ∧ Below w.heap.size w w' := by
  have h := FTake_any { data := #[2, 97, 98, 147, 175, 200, 60, 120] } w (by decide) hT
  unfold FTakePost at h
  have e : tkF { data := #[2, 97, 98, 147, 175, 200, 60, 120] } = ({ data := #[97, 98] }, { data := #[120] }, 0) := by decide +kernel
  rw [e] at h
  exact h
theorem addX (w : World) : (Op.stringOp .add { data := #[2, 97, 98, 147, 175, 200, 60] } { data := #[120] }).run Tryd.prog w = .ok (.string { data := #[2, 97, 98, 147, 175, 200, 60, 120] }) w := by
  rw [run_string_add_sum w _ _ (by decide)]
  rfl

set_option maxRecDepth 100000 in
set_option maxHeartbeats 400000 in
theorem frameAwake_any (w : World) (hT : TabAt w) : Calls Tryd.prog 10 #[] w fun e w' => e = .returned (.bool true) ∧ Below w.heap.size w w' := by
  have HT := Lib.hid hT
  clear hT
  go_enter Tryd.func10, Tryd.ntmps10
  go_wp2_with fail
  refine (wrapAb _ HT.out).mono ?_
  rintro e w1 ⟨rfl, hb1⟩
  have hx := addX w1
  go_wp2_with fail
  refine (takeAb _ (HT.out.next hb1)).mono ?_
  rintro e w2 ⟨rfl, hb2⟩
  have hb := hb1.trans (hb2.mono hb1.size)
  clear hb1 hb2 hx
  go_wp2_with fail
  go_ret
  exact ⟨rfl, hb⟩

end Go.Proofs.YthllpiohdkcecaaDoor
