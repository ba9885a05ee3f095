/-
  The walk of CheckTurned: the call returns true, whatever it is handed, and writes nothing that was there.
-/
import Derived.Test.YtjpchfpfcnmemaaDoorCheckLawsA
import Derived.Test.YtjpchfpfcnmemaaDoorCheckMix
import Derived.Test.YtjpchfpfcnmemaaDoorCheckEq
import Derived.StillTailTactics
import Derived.Laws.Rows
namespace Go.Proofs.YtjpchfpfcnmemaaDoor
open Go.RowKit

theorem bytes_at' (s : ByteArray) (i : Nat) (h : i < s.size) : s.data.toList.getD i 0 = s.data[i]'h := by
  have h2 : i < s.data.size := h
  simp [List.getD, Array.getElem?_eq_getElem h2]
/-- '[]byte(s)': a new row with the text's bytes. -/
theorem conv_bytes (w : World) (s : ByteArray) : ∃ cap w', (convert 9 34 (.string s)).run Tryd.prog w = .ok (.slice (some ⟨w.heap.size, 0, none⟩) s.size cap) w' ∧ s.size ≤ cap ∧ Below w.heap.size w w' ∧ w.heap.size < w'.heap.size ∧
    (∀ i, i < s.size → w'.cell? ⟨w.heap.size, i, none⟩ = some (.int .u8 ((s.data.toList.getD i 0).toNat : Int))) ∧ (∀ i, i < s.size → w'.frozen? ⟨w.heap.size, i, none⟩ = false) := by
  refine ⟨_, _, run_bytes_of_string w 9 34 5 s Tryd.underlying9 Tryd.underlying34 Tryd.underlying5, grownCap_ge _ _ _ _, ?_, ?_, ?_, ?_⟩
  · exact (Below.refl _ _).drew.alloc (Nat.le_refl _) _
  · simp
  · intro i hi
    rw [bytes_at' s i hi]
    exact (World.cell?_alloc_mark w.drew _ _ _ i).trans (bytesRow_at s _ i hi)
  · intro i hi
    refine (World.frozen?_alloc_mark w.drew _ _ _ _ i).trans ?_
    have h1 : s.size ≤ (bytesRow s (grownCap w s.size 0 5)).size := by simp [bytesRow]
    rw [decide_eq_false (by omega)]
    rfl

/-- What holds behind k turns: the bytes of the row g, the turning bytes at h, the table. -/
def TurnRel (W : World) (g h n : Nat) (y : Nat → UInt8) (a : Nat) (l : List UInt8) (k : Nat) (wr : World) : Prop :=
  Below W.heap.size W wr ∧ TabAt wr ∧ (∀ i, i < n → wr.cell? ⟨g, i, none⟩ = some (.int .u8 (((Ck.mix y a k l).getD i 0).toNat : Int))) ∧ (∀ i, i < n → wr.frozen? ⟨g, i, none⟩ = false) ∧
    wr.heap[h]? = some (.cells #[.int .u8 ((y 0).toNat : Int), .int .u8 ((y 1).toNat : Int), .int .u8 ((y 2).toNat : Int), .int .u8 ((y 3).toNat : Int)] 33 (0, 0))

theorem turn_next {W : World} {g h n : Nat} {y : Nat → UInt8} {a : Nat} {l : List UInt8} {k : Nat} {wr : World} (H : TurnRel W g h n y a l k wr) (hT : TabAt W) (hl : l.length = n) (hk : a + k < n) (hg : W.heap.size ≤ g) (hgh : g ≠ h) (v : Int)
    (hv : v = ((((Ck.mix y a k l).getD (a + k) 0).toNat ^^^ (y k).toNat : Nat) : Int)) : TurnRel W g h n y a l (k + 1) (wr.setCell ⟨g, a + k, none⟩ (.int .u8 v)) := by
  obtain ⟨h1, h2, h3, h4, h5⟩ := H
  have hb : Below W.heap.size W (wr.setCell ⟨g, a + k, none⟩ (.int .u8 v)) := h1.setCell hg _
  refine ⟨hb, hT.next hb, ?_, ?_, ?_⟩
  · intro i hi
    by_cases he : i = a + k
    · subst he
      rw [World.cell?_setCell_same _ _ _ (h3 _ hi), Ck.mix_here _ _ _ _ (by omega), hv, UInt8.toNat_xor]
    · rw [World.cell?_setCell_other _ _ _ _ (by intro e; injection e with _ e2 _; exact he e2.symm), h3 i hi, Ck.mix_else _ _ _ _ _ (by omega) he]
  · intro i hi
    rw [← h4 i hi]
    simp
  · rw [← h5]
    exact Below.heap_setCell wr _ _ h hgh.symm

theorem new_block (w : World) (o : Obj) : (w.alloc o).heap[w.heap.size]? = some o := by
  show (w.heap.push o)[w.heap.size]? = _
  simp
theorem lt_of_block {w : World} {h : Nat} {o : Obj} (e : w.heap[h]? = some o) : h < w.heap.size := by
  rcases Nat.lt_or_ge h w.heap.size with h1 | h1
  · exact h1
  · rw [Array.getElem?_eq_none h1] at e; cases e
theorem TurnRel.drew {W : World} {g h n : Nat} {y : Nat → UInt8} {a : Nat} {l : List UInt8} {k : Nat} {wr : World} (H : TurnRel W g h n y a l k wr) : TurnRel W g h n y a l k wr.drew :=
  ⟨H.1.drew, H.2.1, H.2.2.1, H.2.2.2.1, H.2.2.2.2⟩
theorem S_inj {a b : List UInt8} (h : S a = S b) : a = b := by
  have := congrArg (fun x => x.data.toList) h
  exact this
theorem S_front (l : List UInt8) (k : Nat) : (S l).extract 0 k = S (l.take k) := by
  apply ByteArray.ext
  simp [S]
theorem S_back (l : List UInt8) (k : Nat) : (S l).extract k (S l).size = S (l.drop k) := by
  apply ByteArray.ext
  rw [S_size]
  simp [S]
  exact List.take_of_length_le (by simp)
/-- What is opened, told by the register. -/
theorem op_S_bad {l : List UInt8} (h : 4 ≤ l.length) (hr : Ck.reg l ≠ Ck.residue) : op (S l) = ({ data := #[] }, 4) := by
  refine op_bad (by rw [S_size]; omega) ?_
  rw [S_front, S_back, S_size]
  intro e
  have e2 : l.drop (l.length - 4) = Ck.four (Ck.sum (l.take (l.length - 4))) := S_inj e
  have e3 := (Ck.sealed_iff _ _ (by simp; omega)).1 e2
  rw [List.take_append_drop] at e3
  exact hr e3
theorem seal_list (s : ByteArray) : (sealS s).data.toList = s.data.toList ++ Ck.four (Ck.sum s.data.toList) := by
  unfold sealS
  simp
  rfl
theorem seal_reg (s : ByteArray) : Ck.reg (sealS s).data.toList = Ck.residue := by
  rw [seal_list]
  exact (Ck.sealed_iff _ _ rfl).1 rfl
theorem TabAt.alloc {w : World} (h : TabAt w) (o : Obj) : TabAt (w.alloc o) := h.next ((Below.refl _ _).alloc (Nat.le_refl _) o)

set_option maxRecDepth 100000 in
set_option maxHeartbeats 400000 in
theorem turned_out (w : World) (hT : TabAt w) (s : ByteArray) (hs : s.size ≤ 140737488351232) (p : Int)
    (y0 y1 y2 y3 : Int) (hr : ¬ (0 ≤ p ∧ p ≤ s.size)) :
    Calls Tryd.prog 6 #[.string s, .int .i64 p, .agg #[.int .u8 y0, .int .u8 y1, .int .u8 y2, .int .u8 y3]] w fun e w' => e = .returned (.bool true) ∧ Below w.heap.size w w' := by
  have HT := Lib.hid hT
  clear hT
  have hz : (sealS s).size = s.size + 4 := sealS_size s
  have hz2 : (sealS s).size ≤ 9223372036854775807 := by omega
  have hd : decide (p < 0) = true ∨ (decide (p < 0) = false ∧ decide (((sealS s).size : Int) - 4 < p) = true) := by
    by_cases h0 : p < 0
    · exact .inl (by simpa using h0)
    · exact .inr ⟨by simpa using h0, by simp; omega⟩
  clear hz hr
  rcases hd with hd | ⟨hd, hd2⟩
  all_goals
    go_enter Tryd.func6, Tryd.ntmps6
    go_wp2_with fail
    refine (Seal_any _ _ (by omega) (HT.out.alloc _)).mono ?_
    rintro e w1 ⟨rfl, hb1⟩
    have HT1 := Lib.hid ((HT.out.alloc _).next hb1)
    have hb := ((Below.refl w.heap.size w).alloc (Nat.le_refl _) _).trans (hb1.mono (by simp))
    clear hb1
    obtain ⟨cap, w2, hcv, hcap, hb2, hsz, hcell, hfr⟩ := conv_bytes w1 (sealS s)
    clear hcell hfr
    have HT2 := Lib.hid (HT1.out.next hb2)
    have hbb := hb.trans (hb2.mono hb.size)
    clear hb hb2
    go_wp2_with fail
    refine (awake_any _ HT2.out).mono ?_
    rintro e w3 ⟨rfl, rfl⟩
    go_wp2_with fail
    go_ret
    exact ⟨rfl, hbb⟩

set_option maxRecDepth 100000 in
set_option maxHeartbeats 400000 in
theorem turned_in (w : World) (hT : TabAt w) (s : ByteArray) (hs : s.size ≤ 140737488351232) (a : Nat) (ha : a ≤ s.size) (y : Nat → UInt8) :
    Calls Tryd.prog 6 #[.string s, .int .i64 a, .agg #[.int .u8 ((y 0).toNat : Int), .int .u8 ((y 1).toNat : Int), .int .u8 ((y 2).toNat : Int), .int .u8 ((y 3).toNat : Int)]] w fun e w' => e = .returned (.bool true) ∧ Below w.heap.size w w' := by
  have HT := Lib.hid hT
  clear hT
  have hz : s.size + 4 = (sealS s).size := (sealS_size s).symm
  have hz2 : (sealS s).size ≤ 9223372036854775807 := by omega
  have hd : decide ((a : Int) < 0) = false := by simp
  have hd2 : decide (((sealS s).size : Int) - 4 < (a : Int)) = false := by simp; omega
  have hdn : a + 4 ≤ (sealS s).size := by omega
  have HZ := Lib.hid hz
  clear hz
  go_enter Tryd.func6, Tryd.ntmps6
  go_wp2_with fail
  refine (Seal_any _ _ (by omega) (HT.out.alloc _)).mono ?_
  rintro e w1 ⟨rfl, hb1⟩
  have HT1 := Lib.hid ((HT.out.alloc _).next hb1)
  have hsz1 : w.heap.size + 1 ≤ w1.heap.size := by have := hb1.size; simpa using this
  have hbox1 := (hb1.block w.heap.size (by simp)).trans (new_block w _)
  have hb := ((Below.refl w.heap.size w).alloc (Nat.le_refl _) _).trans (hb1.mono (by simp))
  clear hb1
  obtain ⟨cap, w2, hcv, hcap, hb2, hsz, hcell, hfr⟩ := conv_bytes w1 (sealS s)
  have hbox2 := (hb2.block w.heap.size (by omega)).trans hbox1
  have HT2 := Lib.hid (HT1.out.next hb2)
  have hbb := hb.trans (hb2.mono hb.size)
  have HR0 : Hid (TurnRel w w1.heap.size w.heap.size (sealS s).size y a (sealS s).data.toList 0 w2) := by
    refine ⟨hbb, HT2.out, ?_, hfr, hbox2⟩
    intro i hi
    rw [Ck.mix_same]
    exact hcell i hi
  clear hcell hfr hbox1 hbox2 hb hb2 hbb
  have hgh : w1.heap.size ≠ w.heap.size := by omega
  have hgw : w.heap.size ≤ w1.heap.size := by omega
  generalize hg : w1.heap.size = g at *
  generalize hh : w.heap.size = h at *
  have HG := Lib.hid hg
  have HH := Lib.hid hh
  clear hg hh
  obtain ⟨l, hl⟩ : ∃ l, l = (sealS s).data.toList := ⟨_, rfl⟩
  rw [← hl] at HR0
  have HLL : Hid (l.length = (sealS s).size) := by show _ = _; rw [hl]; simp
  have HLS : Hid (S l = sealS s) := by show _ = _; rw [hl]; rfl
  have HLR : Hid (Ck.reg l = Ck.residue) := by show _ = _; rw [hl]; exact seal_reg s
  have HOS := Lib.hid (op_seal s)
  clear hl
  generalize hx : sealS s = x at *
  have HX := Lib.hid hx
  clear hx
  go_wp2_with fail
  go_loopw [24] (fun i wr => ∃ k : Nat, k ≤ 4 ∧ i = .int .i64 k ∧ TurnRel w g h x.size y a l k wr) (fun i _ => 4 - (intOf i).toNat)
  case atStart => exact ⟨0, by omega, rfl, HR0.out⟩
  case round =>
    obtain ⟨k, hk, rfl, hrel⟩ := hrel
    have HR := Lib.hid hrel
    clear hrel
    by_cases hlt : k < 4
    · have hak : a + k < x.size := by omega
      have c1 := HR.out.2.2.1 (a + k) hak
      have fz := HR.out.2.2.2.1 (a + k) hak
      have hbox := HR.out.2.2.2.2
      have c2 : wr.cell? ⟨h, k, none⟩ = some (.int .u8 ((y k).toNat : Int)) := by
        have h4 : k = 0 ∨ k = 1 ∨ k = 2 ∨ k = 3 := by omega
        rcases h4 with rfl | rfl | rfl | rfl <;> simp [World.cell?, hbox]
      clear hbox
      have q1 : IntKind.i64.wrap ((a : Int) + (k : Int)) = (a : Int) + (k : Int) := IntWalk.i64_in _ (by omega)
      have q2 : (0 : Int) ≤ (a : Int) + (k : Int) := by omega
      have q3 : ((a : Int) + (k : Int)).toNat = a + k := by omega
      have q4 : (a : Int) + (k : Int) < (x.size : Int) := by omega
      have q5 := u8_xor_nat ((Ck.mix y a k l).getD (a + k) 0).toNat (y k).toNat (UInt8.toNat_lt _) (UInt8.toNat_lt _)
      have HN := Lib.hid (fun v hv => turn_next HR.out HT.out HLL.out hak (by rw [HH.out]; exact hgw) hgh v hv)
      generalize ((Ck.mix y a k l).getD (a + k) 0).toNat = b1 at *
      generalize (y k).toNat = b2 at *
      generalize b1 ^^^ b2 = b3 at *
      go_wp2_with fail
      go_still_tail 15, (by kernel_rfl)
      go_wp2_with fail
      go_roundw
      case rel => exact ⟨k + 1, by omega, by go_num, (HN.out _ rfl).drew⟩
      case measure => simp [intOf]; omega
    · obtain rfl : k = 4 := by omega
      have HC : (convert 34 9 (.slice (some ⟨g, 0, none⟩) x.size cap)).run Tryd.prog wr = .ok (.string (S (Ck.mix y a 4 l))) wr := by
        have hlen : (Ck.mix y a 4 l).length = x.size := by rw [Ck.mix_length]; exact HLL.out
        rw [← hlen]
        refine run_convert_bytes_back (P := Tryd.prog) _ 34 9 5 ⟨g, 0, none⟩ cap _ Tryd.underlying34 Tryd.underlying5 Tryd.underlying9 (fun j hj => ?_)
        rw [Addr.add_lit, Nat.zero_add, HR.out.2.2.1 j (by omega)]
        simp [List.getD, hj]
      have hfs : (S (Ck.mix y a 4 l)).size ≤ 9223372036854775807 := by rw [S_size, Ck.mix_length]; have := HLL.out; omega
      have HTw := Lib.hid HR.out.2.1
      have hbw := HR.out.1
      rw [HH.out] at hbw
      go_wp2_with fail
      refine (Open_any _ _ hfs HTw.out).mono ?_
      rintro e w3 ⟨rfl, hb3⟩
      have hsz3 : h < wr.heap.size := by have := HR.out.2.2.2.2; exact lt_of_block this
      have hbox3 := (hb3.block h hsz3).trans HR.out.2.2.2.2
      have HT3 := Lib.hid (HTw.out.next hb3)
      have hb := hbw.trans (hb3.mono (by rw [← HH.out]; have := HR.out.1.size; exact this))
      clear hb3 HC hfs hbw
      by_cases hy : ∀ i, i < 4 → y i = 0
      · have ho : op (S (Ck.mix y a 4 l)) = (s, 0) := by
          rw [Ck.mix_zero _ _ _ hy]
          rw [HLS.out]
          exact HOS.out
        rw [ho]
        clear ho
        have heq := eq_zero w3
        go_wp2_with (refine wpList_load_row rfl 33 _ rfl h rfl 33 _ (0, 0) _ hbox3 Tryd.underlying33 rfl (by kernel_rfl) ?_)
        refine (awake_any _ HT3.out).mono ?_
        rintro e w4 ⟨rfl, rfl⟩
        go_wp2_with fail
        go_ret
        exact ⟨rfl, by rw [HH.out]; exact hb⟩
      · have ho : op (S (Ck.mix y a 4 l)) = ({ data := #[] }, 4) := by
          refine op_S_bad (by rw [Ck.mix_length]; have := HLL.out; omega) ?_
          rw [← HLR.out]
          have hex : ∃ j, j < 4 ∧ y j ≠ 0 := Classical.byContradiction fun hc => hy fun i hi => Classical.byContradiction fun hne => hc ⟨i, hi, hne⟩
          obtain ⟨j, hj, hne⟩ := hex
          exact Ck.mix_reg y a l (by have := HLL.out; omega) j hj hne
        rw [ho]
        clear ho
        have heq := eq_any (y 0).toNat (y 1).toNat (y 2).toNat (y 3).toNat (fun hc => hy fun i hi => by
          have h4 : i = 0 ∨ i = 1 ∨ i = 2 ∨ i = 3 := by omega
          have z : ∀ u : UInt8, u.toNat = 0 → u = 0 := fun u hu => UInt8.toNat_inj.1 hu
          rcases h4 with rfl | rfl | rfl | rfl
          · exact z _ hc.1
          · exact z _ hc.2.1
          · exact z _ hc.2.2.1
          · exact z _ hc.2.2.2) w3
        clear hy
        go_wp2_with (refine wpList_load_row rfl 33 _ rfl h rfl 33 _ (0, 0) _ hbox3 Tryd.underlying33 rfl (by kernel_rfl) ?_)
        refine (awake_any _ HT3.out).mono ?_
        rintro e w4 ⟨rfl, rfl⟩
        go_wp2_with fail
        go_ret
        exact ⟨rfl, by rw [HH.out]; exact hb⟩

theorem u8_of {n : Int} (h : (Lit.int .u8 n).wf = true) : 0 ≤ n ∧ n < 256 := by
  have x1 : IntKind.u8.min = 0 := rfl
  have x2 : IntKind.u8.max = 255 := rfl
  simp only [Lit.wf, Bool.and_eq_true, decide_eq_true_eq] at h
  omega
theorem byte_of {n : Int} (h : 0 ≤ n ∧ n < 256) : ((UInt8.ofNat n.toNat).toNat : Int) = n := by
  rw [Ck.ofNat8 (by omega)]
  omega

theorem checkTurned_walk (w : World) (hT : TabAt w) (s : ByteArray) (hs : s.size ≤ 140737488351232) (p : Int) (_hp : -9223372036854775808 ≤ p ∧ p ≤ 9223372036854775807)
    (y0 y1 y2 y3 : Int) (hy : (0 ≤ y0 ∧ y0 < 256) ∧ (0 ≤ y1 ∧ y1 < 256) ∧ (0 ≤ y2 ∧ y2 < 256) ∧ (0 ≤ y3 ∧ y3 < 256)) :
    Calls Tryd.prog 6 #[.string s, .int .i64 p, .agg #[.int .u8 y0, .int .u8 y1, .int .u8 y2, .int .u8 y3]] w fun e w' => e = .returned (.bool true) ∧ Below w.heap.size w w' := by
  by_cases hr : 0 ≤ p ∧ p ≤ s.size
  · obtain ⟨a, rfl⟩ := Int.eq_ofNat_of_zero_le hr.1
    have h := turned_in w hT s hs a (by omega) (fun i => if i = 0 then UInt8.ofNat y0.toNat else if i = 1 then UInt8.ofNat y1.toNat else if i = 2 then UInt8.ofNat y2.toNat else UInt8.ofNat y3.toNat)
    simp only [if_true, if_neg (show ¬ (1 : Nat) = 0 by decide), if_neg (show ¬ (2 : Nat) = 0 by decide), if_neg (show ¬ (2 : Nat) = 1 by decide), if_neg (show ¬ (3 : Nat) = 0 by decide), if_neg (show ¬ (3 : Nat) = 1 by decide), if_neg (show ¬ (3 : Nat) = 2 by decide)] at h
    rw [byte_of hy.1, byte_of hy.2.1, byte_of hy.2.2.1, byte_of hy.2.2.2] at h
    exact h
  · exact turned_out w hT s hs p y0 y1 y2 y3 hr

end Go.Proofs.YtjpchfpfcnmemaaDoor
