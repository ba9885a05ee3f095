/-
  The contract of the document's Prune, of a valid chain.
-/
import Derived.Test.YtbboamfjkdcjeaaVrRefAt
import Derived.Test.YtbboamfjkdcjeaaSmEq
import Derived.OwnWalk
import Derived.Laws.AppendOwn
set_option linter.unusedVariables false
namespace Go.Proofs.Ytbboamfjkdcjeaa
open Go.RowKit

/-- What a round of Prune knows. -/
def PrRel (W0 : World) (B b o : Nat) (v : Ver) (g5 : Nat) (u : Ver) (lv : Value) (l : List Ver) (W : World) : Prop :=
  B = W0.heap.size ∧ b < B ∧ g5 < B ∧ Below B W0 W ∧ VerAt W b o v ∧ VBox W g5 u.1 u.2.1 u.2.2.1 u.2.2.2.1 u.2.2.2.2 ∧ OwnsV W B lv l
theorem PrRel.next {W0 W W' : World} {B b o g5 : Nat} {v u : Ver} {lv : Value} {l : List Ver} (H : PrRel W0 B b o v g5 u lv l W) (hb : Below W.heap.size W W') : PrRel W0 B b o v g5 u lv l W' := by
  obtain ⟨h0, h1, h2, h3, h4, h5, h6⟩ := H
  have := h3.size
  exact ⟨h0, h1, h2, h3.trans (hb.mono (by omega)), h4.next hb (by omega), h5.over hb, h6.next hb⟩
theorem PrRel.drew {W0 W : World} {B b o g5 : Nat} {v u : Ver} {lv : Value} {l : List Ver} (H : PrRel W0 B b o v g5 u lv l W) : PrRel W0 B b o v g5 u lv l W.drew := H.next ((Below.refl _ _).drew)
/-- The first i versions without the first k. -/
def chunk (l : List Ver) (k i : Nat) : List Ver := (l.take i).drop k
theorem chunk_skip {l : List Ver} {k i : Nat} (h : i < k) : chunk l k (i + 1) = chunk l k i := by
  unfold chunk
  rw [List.drop_eq_nil_of_le (by simp; omega), List.drop_eq_nil_of_le (by simp; omega)]
theorem chunk_more {l : List Ver} {k i : Nat} (h : k ≤ i) (hi : i < l.length) : chunk l k (i + 1) = chunk l k i ++ [vat l i] := by
  unfold chunk
  have e : l.take (i + 1) = l.take i ++ [vat l i] := by
    rw [List.take_succ_eq_append_getElem hi]
    simp [vat, List.getD, hi]
  rw [e, List.drop_append_of_le_length (by simp; omega)]
theorem chunk_all (l : List Ver) (k : Nat) : chunk l k l.length = l.drop k := by unfold chunk; rw [List.take_length]
theorem ver_new (w : World) (v : Ver) : ∀ j x, (verC v)[j]? = some x → (w.alloc (.cells #[.int .i64 (v.1), .int .i64 (v.2.1), .int .i64 (v.2.2.1), .bool (v.2.2.2.1), .string (v.2.2.2.2)] 26)).cell? ((⟨w.heap.size, 0, none⟩ : Addr).add j) = some x := by
  intro j x hj
  have hj5 : j < 5 := by
    rcases Nat.lt_or_ge j 5 with h | h
    · exact h
    · rw [List.getElem?_eq_none (by simpa [verC] using h)] at hj; cases hj
  have hjs : j = 0 ∨ j = 1 ∨ j = 2 ∨ j = 3 ∨ j = 4 := by omega
  rcases hjs with rfl | rfl | rfl | rfl | rfl <;> simp [verC, Addr.add] at hj ⊢ <;> exact hj
theorem ver_one (v : Ver) : ∀ u ∈ verC v, u.oneCell' = true := by
  intro u hu
  simp only [verC, List.mem_cons, List.not_mem_nil, or_false] at hu
  rcases hu with rfl | rfl | rfl | rfl | rfl <;> rfl
/-- Which versions fall out. -/
theorem prune_skip {l : List Ver} {x y z : Int} {k n i : Nat} (hr : rightC l = true) (hn : IsCnt l x y z n) (hk : (n = 0 ∧ k = 0) ∨ (0 < n ∧ (vat l (n - 1)).2.2.2.1 = true ∧ k = n) ∨ (0 < n ∧ (vat l (n - 1)).2.2.2.1 = false ∧ k = n - 1)) (hi : i < l.length)
    {u v : Ver} {ok : Bool} (hu : (n = 0 ∧ ok = false) ∨ (0 < n ∧ ok = true ∧ u = vat l (n - 1))) (hv : v = vat l i) :
    (ok && (befB v.1 v.2.1 v.2.2.1 u.1 u.2.1 u.2.2.1 || (u.2.2.2.1 && sameB v.1 v.2.1 v.2.2.1 u.1 u.2.1 u.2.2.1))) = decide (i < k) := by
  subst hv
  rcases hu with ⟨rfl, rfl⟩ | ⟨h0, rfl, rfl⟩
  · have : k = 0 := by omega
    simp [this]
  · simp only [Bool.true_and]
    by_cases hlt : i < n - 1
    · have h1 : befB (vat l i).1 (vat l i).2.1 (vat l i).2.2.1 (vat l (n - 1)).1 (vat l (n - 1)).2.1 (vat l (n - 1)).2.2.1 = true := bef_lt hr hlt (by have := hn.1; omega)
      rw [h1, Bool.true_or]
      exact (decide_eq_true (by omega)).symm
    · by_cases he : i = n - 1
      · subst he
        rw [bef_irr, Bool.false_or]
        have h2 : sameB (vat l (n - 1)).1 (vat l (n - 1)).2.1 (vat l (n - 1)).2.2.1 (vat l (n - 1)).1 (vat l (n - 1)).2.1 (vat l (n - 1)).2.2.1 = true := by simp [sameB]
        rw [h2, Bool.and_true]
        rcases hk with ⟨h3, _⟩ | ⟨_, e1, h3⟩ | ⟨_, e1, h3⟩
        · omega
        · rw [e1]; exact (decide_eq_true (by omega)).symm
        · rw [e1]; exact (decide_eq_false (by omega)).symm
      · have h1 : befB (vat l (n - 1)).1 (vat l (n - 1)).2.1 (vat l (n - 1)).2.2.1 (vat l i).1 (vat l i).2.1 (vat l i).2.2.1 = true := bef_lt hr (by omega) hi
        rw [bef_asym h1, Bool.false_or]
        have h2 : sameB (vat l i).1 (vat l i).2.1 (vat l i).2.2.1 (vat l (n - 1)).1 (vat l (n - 1)).2.1 (vat l (n - 1)).2.2.1 = false := by
          unfold sameB
          apply decide_eq_false
          rintro ⟨e1, e2, e3⟩
          rw [e1, e2, e3, bef_irr] at h1
          cases h1
        rw [h2, Bool.and_false]
        exact (decide_eq_false (by omega)).symm

set_option maxRecDepth 100000 in
set_option maxHeartbeats 2000000 in
theorem refPrune_row (w : World) (x y z : Int) (ao : Option Addr) (len cap : Nat) (l : List Ver) (k n : Nat) (u : Ver) (ok : Bool) (hl : l.length = len) (h64 : len ≤ 64) (hcell : 0 < len → ∃ b off, ao = some ⟨b, off, none⟩ ∧ b < w.heap.size ∧ ∀ i, i < len → VerAt w b (off + i * 5) (vat l i))
    (hskip : ∀ i, i < len → (ok && (befB (vat l i).1 (vat l i).2.1 (vat l i).2.2.1 u.1 u.2.1 u.2.2.1 || (u.2.2.2.1 && sameB (vat l i).1 (vat l i).2.1 (vat l i).2.2.1 u.1 u.2.1 u.2.2.1))) = decide (i < k))
    (HA : Hid (∀ W, Below w.heap.size w W → Calls Try.prog 17 #[.slice ao len cap, (Go.Value.agg #[Go.Value.int Go.IntKind.i64 x, Go.Value.int Go.IntKind.i64 y, Go.Value.int Go.IntKind.i64 z])] W fun e w' => e = .returned (.tuple #[verV u, .bool ok]) ∧ Below W.heap.size W w')) :
    Calls Try.prog 21 #[.slice ao len cap, (Go.Value.agg #[Go.Value.int Go.IntKind.i64 x, Go.Value.int Go.IntKind.i64 y, Go.Value.int Go.IntKind.i64 z])] w fun e w' => ∃ v, e = .returned v ∧ OwnsV w' w.heap.size v (l.drop k) ∧ Below w.heap.size w w' := by
  have HL := Lib.hid hl
  have HC := Lib.hid hcell
  have HS := Lib.hid hskip
  clear hl hcell hskip
  obtain ⟨i0, hi, hz0, hz1, hz2⟩ := info_parts info_ver
  obtain ⟨ua, ub, uc, ug, us⟩ := u
  have HB : Below w.heap.size w (w.alloc (.cells #[.int .i64 x, .int .i64 y, .int .i64 z] 24)) := (Below.refl _ _).alloc (Nat.le_refl _) _
  have HA2 : Hid (∀ W, Below w.heap.size w W → Calls Try.prog 17 #[.slice ao len cap, (Go.Value.agg #[Go.Value.int Go.IntKind.i64 x, Go.Value.int Go.IntKind.i64 y, Go.Value.int Go.IntKind.i64 z])] W fun e w' => e = .returned (.tuple #[(Go.Value.agg #[Go.Value.int Go.IntKind.i64 ua, Go.Value.int Go.IntKind.i64 ub, Go.Value.int Go.IntKind.i64 uc, Go.Value.bool ug, Go.Value.string us]), .bool ok]) ∧ Below W.heap.size W w') := HA.out
  clear HA
  go_enter Try.func21, Try.ntmps21
  go_wp2_with fail
  refine (HA2.out _ HB).mono ?_
  rintro e w1 ⟨rfl, hb1⟩
  have hb := HB.trans (hb1.mono HB.size)
  clear hb1 HB HA2
  go_upto_region 3 with (fail)
  have H1 : Hid (Below w.heap.size w (w1.alloc (.cells #[.int .i64 ua, .int .i64 ub, .int .i64 uc, .bool ug, .string us] 26)) ∧ VBox (w1.alloc (.cells #[.int .i64 ua, .int .i64 ub, .int .i64 uc, .bool ug, .string us] 26)) w1.heap.size ua ub uc ug us) := ⟨hb.alloc hb.size _, VBox.new _ _ _ _ _ _⟩
  clear hb
  generalize w1.alloc (.cells #[.int .i64 ua, .int .i64 ub, .int .i64 uc, .bool ug, .string us] 26) = W0 at H1 ⊢
  generalize w1.heap.size = g5 at H1 ⊢
  have HS0 : w.heap.size ≤ W0.heap.size := H1.out.1.size
  go_wp2_with fail
  go_loopw [7, 8] (fun lv i wr => ∃ i0 : Nat, i0 ≤ len ∧ i = .int .i64 i0 ∧ Hid (Below W0.heap.size W0 wr) ∧ Hid (OwnsV wr W0.heap.size lv (chunk l k i0))) (fun _ i _ => len - (intOf i).toNat)
  case atStart => exact ⟨0, Nat.zero_le _, rfl, Below.refl _ _, by show OwnsV W0 W0.heap.size _ (chunk l k 0); rw [show chunk l k 0 = [] by simp [chunk]]; exact World.ownsRow_nil _ _ _ _⟩
  case round =>
    obtain ⟨i, hile, rfl, hbel, hown⟩ := hrel
    by_cases hlt : i < len
    · obtain ⟨b, off, rfl, hbb, hcl⟩ := HC.out (by omega)
      obtain ⟨v, hv⟩ : ∃ v, v = vat l i := ⟨_, rfl⟩
      have HV := Lib.hid hv
      have hsk := HS.out i hlt
      rw [← hv] at hsk
      have hw0 := H1.out.1.size
      have H2 : Hid (PrRel W0 W0.heap.size b (off + i * 5) v g5 (ua, ub, uc, ug, us) u7 (chunk l k i) wr) :=
        ⟨rfl, by omega, H1.out.2.lt, hbel.out, by rw [hv]; exact ((hcl i hlt).next H1.out.1 hbb).next hbel.out (by omega), H1.out.2.over hbel.out, hown.out⟩
      clear hv hcl hbel hown hw0
      obtain ⟨a, t, c, g, s⟩ := v
      dsimp only at hsk
      obtain ⟨d, hd⟩ : ∃ d, d = befB a t c ua ub uc := ⟨_, rfl⟩
      obtain ⟨q, hq⟩ : ∃ q, q = sameB a t c ua ub uc := ⟨_, rfl⟩
      rw [← hd, ← hq] at hsk
      have HBF : Hid (∀ W, Calls Try.prog 13 #[(Go.Value.agg #[Go.Value.int Go.IntKind.i64 a, Go.Value.int Go.IntKind.i64 t, Go.Value.int Go.IntKind.i64 c]), (Go.Value.agg #[Go.Value.int Go.IntKind.i64 ua, Go.Value.int Go.IntKind.i64 ub, Go.Value.int Go.IntKind.i64 uc])] W fun e w' => e = .returned (.bool d) ∧ Below W.heap.size W w') := fun W => by rw [hd]; exact Before_any _ _ _ _ _ _ W
      have HEQ : Hid (∀ W, (Op.equalIn 10000 24 (Go.Value.agg #[Go.Value.int Go.IntKind.i64 a, Go.Value.int Go.IntKind.i64 t, Go.Value.int Go.IntKind.i64 c]) (Go.Value.agg #[Go.Value.int Go.IntKind.i64 ua, Go.Value.int Go.IntKind.i64 ub, Go.Value.int Go.IntKind.i64 uc])).run Try.prog W = .ok q W) := fun W => by rw [hq]; exact eq_stamp _ _ _ _ _ _ W
      have HSK := Lib.hid hsk
      clear hd hq hsk
      have q0 : i < len := hlt
      go_upto_region 6 with (fail)
      go_cut [45] (fun s45 wx => s45 = .bool (decide (i < k)) ∧ Hid (PrRel W0 W0.heap.size b (off + i * 5) (a, t, c, g, s) g5 (ua, ub, uc, ug, us) u7 (chunk l k i) wx))
      case first =>
        have he := HEQ.out
        have hsk := HSK.out
        have hcases : (ok = false) ∨ (ok = true ∧ d = true) ∨ (ok = true ∧ d = false ∧ ug = false) ∨ (ok = true ∧ d = false ∧ ug = true ∧ q = true) ∨ (ok = true ∧ d = false ∧ ug = true ∧ q = false) := by
          cases ok <;> cases d <;> cases ug <;> cases q <;> simp
        have HSK2 := Lib.hid hsk
        clear hsk
        rcases hcases with rfl | ⟨rfl, rfl⟩ | ⟨rfl, rfl, rfl⟩ | ⟨rfl, rfl, rfl, rfl⟩ | ⟨rfl, rfl, rfl, rfl⟩
        all_goals
          refine wp_region_calm (PrRel W0 W0.heap.size b (off + i * 5) (a, t, c, g, s) g5 (ua, ub, uc, _, us) u7 (chunk l k i)) (by kernel_rfl) (by kernel_rfl) H2.out.drew ?_
          repeat ((with_reducible refine wpQuiet_step (fun K hK => ?_)); go_simp; first | (refine hK _ ?_; clear hK K) | (apply Exists.intro; refine ⟨fun wc hwc => ?_, hK _ ?_⟩; (focus (first | (first | (go_at_call 13; refine (HBF.out _).mono ?_; rintro e w1 ⟨rfl, hb1⟩; exact ⟨rfl, hwc.next hb1⟩)) | (((obtain ⟨_, _, _, _, ⟨x0, x1, x2, x3, x4⟩, hx, _⟩ := hwc; obtain ⟨y0, y1, y2, y3, y4⟩ := hx.cell; dsimp only at x0 x1 x2 x3 x4 y0 y1 y2 y3 y4; clear hx)); go_simp; done) | (((obtain ⟨_, _, _, _, ⟨x0, x1, x2, x3, x4⟩, hx, _⟩ := hwc; obtain ⟨y0, y1, y2, y3, y4⟩ := hx.cell; dsimp only at x0 x1 x2 x3 x4 y0 y1 y2 y3 y4; clear hx)); go_simp; exact rfl))); clear hK K))
          refine wpQuiet_nil ?_
          intro wc hwc
          go_wp2_with fail
          go_meet
          exact ⟨by rw [← HSK2.out]; rfl, hwc⟩
      case rest =>
        obtain ⟨rfl, HW⟩ := hcut
        clear H2 HBF HEQ HSK
        by_cases hik : i < k
        · have hdk : decide (i < k) = true := decide_eq_true hik
          rw [hdk]
          have HO : Hid (OwnsV wc W0.heap.size u7 (chunk l k (i + 1))) := by
            show OwnsV _ _ _ _
            rw [chunk_skip hik]; exact HW.out.2.2.2.2.2.2
          have HBL : Hid (Below W0.heap.size W0 wc) := HW.out.2.2.2.1
          clear hik hdk
          go_wp2_with fail
          go_roundw
          case rel => exact ⟨i + 1, by omega, by go_num, HBL, HO⟩
          case measure => simp [intOf]; omega
        · have hdk : decide (i < k) = false := decide_eq_false hik
          rw [hdk]
          have HCH : Hid (chunk l k i ++ [(a, t, c, g, s)] = chunk l k (i + 1)) := by show _ = _; rw [chunk_more (by omega) (by rw [HL.out]; exact hlt), HV.out]
          have HLN : (chunk l k i).length ≤ 64 := by unfold chunk; simp; have := HL.out; omega
          have hown : wc.ownsRow W0.heap.size 26 5 u7 (chunk l k i).length (versC (chunk l k i)) := HW.out.2.2.2.2.2.2
          have hbel := HW.out.2.2.2.1
          obtain ⟨x0, x1, x2, x3, x4⟩ := HW.out.2.2.2.2.1
          dsimp only at x0 x1 x2 x3 x4
          have hsz := hbel.size
          generalize hch : chunk l k i = ch at *
          have HCH2 := Lib.hid hch
          clear hik hdk hch
          go_wp2_with (at_builtin; refine wpList_append_own _ rfl (.tmp 46) (.tmp 51) 22 rfl W0.heap.size 26 i0 _ 5 48 Try.underlying22 hi hz0 hz1 hz2 rfl (by decide) _ _ _ rfl (hown.alloc _) ⟨wc.heap.size, 0, none⟩ 1 1 (verC (a, t, c, g, s)) rfl rfl (ver_new wc (a, t, c, g, s)) (ver_one _) (by unfold maxLen; omega) (by omega) (by simp; omega) ?_; intro v' w2 hown1 hgrow1 _)
          have hb1 := (hbel.alloc (by omega) _).grown hgrow1 (by simp; omega) (fun k hk => (hown.lt k hk).1)
          rw [versC_snoc] at hown1
          have HO : Hid (OwnsV w2 W0.heap.size v' (chunk l k (i + 1))) := by
            show OwnsV _ _ _ _
            rw [← HCH.out]
            unfold OwnsV
            rw [List.length_append, List.length_singleton]
            exact hown1
          exact ⟨⟨i + 1, by omega, by go_num, hb1, HO⟩, by simp [intOf]; omega⟩
    · obtain rfl : i = len := by omega
      have HO : Hid (OwnsV wr W0.heap.size u7 (l.drop k)) := by
        show OwnsV _ _ _ _
        rw [← chunk_all, HL.out]; exact hown.out
      have HBB : Hid (Below w.heap.size w wr) := H1.out.1.trans (hbel.out.mono HS0)
      go_wp2_with fail
      go_ret
      exact ⟨u7, rfl, HO.out.mono HS0, HBB.out⟩

theorem refPrune_any {w : World} {v : Value} {l : List Ver} {x y z : Int} {k : Nat} (h : Vers w v l) (hr : rightC l = true) (hk : IsCut l x y z k) :
    Calls Try.prog 21 #[v, (Go.Value.agg #[Go.Value.int Go.IntKind.i64 x, Go.Value.int Go.IntKind.i64 y, Go.Value.int Go.IntKind.i64 z])] w fun e w' => ∃ v', e = .returned v' ∧ OwnsV w' w.heap.size v' (l.drop k) ∧ Below w.heap.size w w' := by
  obtain ⟨n, hn, hk⟩ := hk
  obtain ⟨ao, cap, rfl, h1, h2, h3⟩ := h
  obtain ⟨u, ok, ha⟩ := at_ex l x y z
  have hu : (n = 0 ∧ ok = false) ∨ (0 < n ∧ ok = true ∧ u = vat l (n - 1)) := by
    rcases ha with ⟨e, _⟩ | ⟨_, c1, _, e2⟩ | ⟨_, e1, m, c1, e2⟩
    · rw [hr] at e; cases e
    · exact .inl ⟨cnt_one hn c1, e2⟩
    · obtain rfl := cnt_one hn c1
      exact .inr ⟨by omega, e1, e2⟩
  refine refPrune_row w x y z ao _ cap l k n u ok rfl (rightC_spec hr).1 h3 (fun i hi => prune_skip hr hn hk hi hu rfl) fun W hW => refAt_any ⟨ao, cap, rfl, h1, h2, fun hp => ?_⟩ ha
  obtain ⟨b, off, e1, h4, h5⟩ := h3 hp
  exact ⟨b, off, e1, Nat.lt_of_lt_of_le h4 hW.size, fun i hi => (h5 i hi).next hW h4⟩

end Go.Proofs.Ytbboamfjkdcjeaa
