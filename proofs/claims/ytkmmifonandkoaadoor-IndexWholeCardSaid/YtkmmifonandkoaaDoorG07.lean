/-
  Merged texts, in build order: VrRefPrune VrForms IxRefPrune IxRefJoin IxForms SmCalmTail InRead.
-/
import Derived.Test.YtkmmifonandkoaaDoorG06
import Derived.OwnWalk
import Derived.Laws.AppendOwn
import Derived.Test.YtkmmifonandkoaaDoorG01
import Derived.Test.YtkmmifonandkoaaDoorG04
import Derived.StillTail
import Derived.Deep.Quiet
import Derived.Test.YtkmmifonandkoaaDoorG03

/-
  The contract of the document's Prune, of a valid chain.
-/
set_option linter.unusedVariables false
namespace Go.Proofs.YtkmmifonandkoaaDoor
open Go.RowKit

/-- What a round of Prune knows. -/
def PrRel (W0 : World) (B b o : Nat) (v : Ver) (g5 : Nat) (u : Ver) (lv : Value) (l : List Ver) (W : World) : Prop :=
  B = W0.heap.size ∧ b < B ∧ g5 < B ∧ Below B W0 W ∧ VerAt W b o v ∧ VBox W g5 u.1 u.2.1 u.2.2.1 u.2.2.2.1 u.2.2.2.2 ∧ OwnsV W B lv l
theorem PrRel.next {W0 W W' : World} {B b o g5 : Nat} {v u : Ver} {lv : Value} {l : List Ver} (H : PrRel W0 B b o v g5 u lv l W) (hb : Below W.heap.size W W') : PrRel W0 B b o v g5 u lv l W' := by
  obtain ⟨h0, h1, h2, h3, h4, h5, h6⟩ := H
  have := h3.size
  exact ⟨h0, h1, h2, h3.trans (hb.mono (by omega)), h4.next hb (by omega), h5.over hb, h6.next hb⟩
theorem PrRel.drew {W0 W : World} {B b o g5 : Nat} {v u : Ver} {lv : Value} {l : List Ver} (H : PrRel W0 B b o v g5 u lv l W) : PrRel W0 B b o v g5 u lv l W.drew := H.next ((Below.refl _ _).drew)
/-- The first i versions without the first k. -/
def chunk (l : List Ver) (k i : Nat) : List Ver := (l.take i).drop k
theorem chunk_skip {l : List Ver} {k i : Nat} (h : i < k) : chunk l k (i + 1) = chunk l k i := by
  unfold chunk
  rw [List.drop_eq_nil_of_le (by simp; omega), List.drop_eq_nil_of_le (by simp; omega)]
theorem chunk_more {l : List Ver} {k i : Nat} (h : k ≤ i) (hi : i < l.length) : chunk l k (i + 1) = chunk l k i ++ [vat l i] := by
  unfold chunk
  have e : l.take (i + 1) = l.take i ++ [vat l i] := by
    rw [List.take_succ_eq_append_getElem hi]
    simp [vat, List.getD, hi]
  rw [e, List.drop_append_of_le_length (by simp; omega)]
theorem chunk_all (l : List Ver) (k : Nat) : chunk l k l.length = l.drop k := by unfold chunk; rw [List.take_length]
theorem ver_new (w : World) (v : Ver) : ∀ j x, (verC v)[j]? = some x → (w.alloc (.cells #[.int .i64 (v.1), .int .i64 (v.2.1), .int .i64 (v.2.2.1), .bool (v.2.2.2.1), .string (v.2.2.2.2)] 26)).cell? ((⟨w.heap.size, 0, none⟩ : Addr).add j) = some x := by
  intro j x hj
  have hj5 : j < 5 := by
    rcases Nat.lt_or_ge j 5 with h | h
    · exact h
    · rw [List.getElem?_eq_none (by simpa [verC] using h)] at hj; cases hj
  have hjs : j = 0 ∨ j = 1 ∨ j = 2 ∨ j = 3 ∨ j = 4 := by omega
  rcases hjs with rfl | rfl | rfl | rfl | rfl <;> simp [verC, Addr.add] at hj ⊢ <;> exact hj
theorem ver_one (v : Ver) : ∀ u ∈ verC v, u.oneCell' = true := by
  intro u hu
  simp only [verC, List.mem_cons, List.not_mem_nil, or_false] at hu
  rcases hu with rfl | rfl | rfl | rfl | rfl <;> rfl
/-- Which versions fall out. -/
theorem prune_skip {l : List Ver} {x y z : Int} {k n i : Nat} (hr : rightC l = true) (hn : IsCnt l x y z n) (hk : (n = 0 ∧ k = 0) ∨ (0 < n ∧ (vat l (n - 1)).2.2.2.1 = true ∧ k = n) ∨ (0 < n ∧ (vat l (n - 1)).2.2.2.1 = false ∧ k = n - 1)) (hi : i < l.length)
    {u v : Ver} {ok : Bool} (hu : (n = 0 ∧ ok = false) ∨ (0 < n ∧ ok = true ∧ u = vat l (n - 1))) (hv : v = vat l i) :
    (ok && (befB v.1 v.2.1 v.2.2.1 u.1 u.2.1 u.2.2.1 || (u.2.2.2.1 && sameB v.1 v.2.1 v.2.2.1 u.1 u.2.1 u.2.2.1))) = decide (i < k) := by
  subst hv
  rcases hu with ⟨rfl, rfl⟩ | ⟨h0, rfl, rfl⟩
  · have : k = 0 := by omega
    simp [this]
  · simp only [Bool.true_and]
    by_cases hlt : i < n - 1
    · have h1 : befB (vat l i).1 (vat l i).2.1 (vat l i).2.2.1 (vat l (n - 1)).1 (vat l (n - 1)).2.1 (vat l (n - 1)).2.2.1 = true := bef_lt hr hlt (by have := hn.1; omega)
      rw [h1, Bool.true_or]
      exact (decide_eq_true (by omega)).symm
    · by_cases he : i = n - 1
      · subst he
        rw [bef_irr, Bool.false_or]
        have h2 : sameB (vat l (n - 1)).1 (vat l (n - 1)).2.1 (vat l (n - 1)).2.2.1 (vat l (n - 1)).1 (vat l (n - 1)).2.1 (vat l (n - 1)).2.2.1 = true := by simp [sameB]
        rw [h2, Bool.and_true]
        rcases hk with ⟨h3, _⟩ | ⟨_, e1, h3⟩ | ⟨_, e1, h3⟩
        · omega
        · rw [e1]; exact (decide_eq_true (by omega)).symm
        · rw [e1]; exact (decide_eq_false (by omega)).symm
      · have h1 : befB (vat l (n - 1)).1 (vat l (n - 1)).2.1 (vat l (n - 1)).2.2.1 (vat l i).1 (vat l i).2.1 (vat l i).2.2.1 = true := bef_lt hr (by omega) hi
        rw [bef_asym h1, Bool.false_or]
        have h2 : sameB (vat l i).1 (vat l i).2.1 (vat l i).2.2.1 (vat l (n - 1)).1 (vat l (n - 1)).2.1 (vat l (n - 1)).2.2.1 = false := by
          unfold sameB
          apply decide_eq_false
          rintro ⟨e1, e2, e3⟩
          rw [e1, e2, e3, bef_irr] at h1
          cases h1
        rw [h2, Bool.and_false]
        exact (decide_eq_false (by omega)).symm

set_option maxRecDepth 100000 in
set_option maxHeartbeats 2000000 in
theorem refPrune_row (w : World) (x y z : Int) (ao : Option Addr) (len cap : Nat) (l : List Ver) (k n : Nat) (u : Ver) (ok : Bool) (hl : l.length = len) (h64 : len ≤ 64) (hcell : 0 < len → ∃ b off, ao = some ⟨b, off, none⟩ ∧ b < w.heap.size ∧ ∀ i, i < len → VerAt w b (off + i * 5) (vat l i))
    (hskip : ∀ i, i < len → (ok && (befB (vat l i).1 (vat l i).2.1 (vat l i).2.2.1 u.1 u.2.1 u.2.2.1 || (u.2.2.2.1 && sameB (vat l i).1 (vat l i).2.1 (vat l i).2.2.1 u.1 u.2.1 u.2.2.1))) = decide (i < k))
    (HA : Hid (∀ W, Below w.heap.size w W → Calls Tryd.prog 19 #[.slice ao len cap, (Go.Value.agg #[Go.Value.int Go.IntKind.i64 x, Go.Value.int Go.IntKind.i64 y, Go.Value.int Go.IntKind.i64 z])] W fun e w' => e = .returned (.tuple #[verV u, .bool ok]) ∧ Below W.heap.size W w')) :
    Calls Tryd.prog 50 #[.slice ao len cap, (Go.Value.agg #[Go.Value.int Go.IntKind.i64 x, Go.Value.int Go.IntKind.i64 y, Go.Value.int Go.IntKind.i64 z])] w fun e w' => ∃ v, e = .returned v ∧ OwnsV w' w.heap.size v (l.drop k) ∧ Below w.heap.size w w' := by
  have HL := Lib.hid hl
  have HC := Lib.hid hcell
  have HS := Lib.hid hskip
  clear hl hcell hskip
  obtain ⟨i0, hi, hz0, hz1, hz2⟩ := info_parts info_ver
  obtain ⟨ua, ub, uc, ug, us⟩ := u
  have HB : Below w.heap.size w (w.alloc (.cells #[.int .i64 x, .int .i64 y, .int .i64 z] 24)) := (Below.refl _ _).alloc (Nat.le_refl _) _
  have HA2 : Hid (∀ W, Below w.heap.size w W → Calls Tryd.prog 19 #[.slice ao len cap, (Go.Value.agg #[Go.Value.int Go.IntKind.i64 x, Go.Value.int Go.IntKind.i64 y, Go.Value.int Go.IntKind.i64 z])] W fun e w' => e = .returned (.tuple #[(Go.Value.agg #[Go.Value.int Go.IntKind.i64 ua, Go.Value.int Go.IntKind.i64 ub, Go.Value.int Go.IntKind.i64 uc, Go.Value.bool ug, Go.Value.string us]), .bool ok]) ∧ Below W.heap.size W w') := HA.out
  clear HA
  go_enter Tryd.func50, Tryd.ntmps50
  go_wp2_with fail
  refine (HA2.out _ HB).mono ?_
  rintro e w1 ⟨rfl, hb1⟩
  have hb := HB.trans (hb1.mono HB.size)
  clear hb1 HB HA2
  go_upto_region 3 with (fail)
  have H1 : Hid (Below w.heap.size w (w1.alloc (.cells #[.int .i64 ua, .int .i64 ub, .int .i64 uc, .bool ug, .string us] 26)) ∧ VBox (w1.alloc (.cells #[.int .i64 ua, .int .i64 ub, .int .i64 uc, .bool ug, .string us] 26)) w1.heap.size ua ub uc ug us) := ⟨hb.alloc hb.size _, VBox.new _ _ _ _ _ _⟩
  clear hb
  generalize w1.alloc (.cells #[.int .i64 ua, .int .i64 ub, .int .i64 uc, .bool ug, .string us] 26) = W0 at H1 ⊢
  generalize w1.heap.size = g5 at H1 ⊢
  have HS0 : w.heap.size ≤ W0.heap.size := H1.out.1.size
  go_wp2_with fail
  go_loopw [7, 8] (fun lv i wr => ∃ i0 : Nat, i0 ≤ len ∧ i = .int .i64 i0 ∧ Hid (Below W0.heap.size W0 wr) ∧ Hid (OwnsV wr W0.heap.size lv (chunk l k i0))) (fun _ i _ => len - (intOf i).toNat)
  case atStart => exact ⟨0, Nat.zero_le _, rfl, Below.refl _ _, by show OwnsV W0 W0.heap.size _ (chunk l k 0); rw [show chunk l k 0 = [] by simp [chunk]]; exact World.ownsRow_nil _ _ _ _⟩
  case round =>
    obtain ⟨i, hile, rfl, hbel, hown⟩ := hrel
    by_cases hlt : i < len
    · obtain ⟨b, off, rfl, hbb, hcl⟩ := HC.out (by omega)
      obtain ⟨v, hv⟩ : ∃ v, v = vat l i := ⟨_, rfl⟩
      have HV := Lib.hid hv
      have hsk := HS.out i hlt
      rw [← hv] at hsk
      have hw0 := H1.out.1.size
      have H2 : Hid (PrRel W0 W0.heap.size b (off + i * 5) v g5 (ua, ub, uc, ug, us) u7 (chunk l k i) wr) :=
        ⟨rfl, by omega, H1.out.2.lt, hbel.out, by rw [hv]; exact ((hcl i hlt).next H1.out.1 hbb).next hbel.out (by omega), H1.out.2.over hbel.out, hown.out⟩
      clear hv hcl hbel hown hw0
      obtain ⟨a, t, c, g, s⟩ := v
      dsimp only at hsk
      obtain ⟨d, hd⟩ : ∃ d, d = befB a t c ua ub uc := ⟨_, rfl⟩
      obtain ⟨q, hq⟩ : ∃ q, q = sameB a t c ua ub uc := ⟨_, rfl⟩
      rw [← hd, ← hq] at hsk
      have HBF : Hid (∀ W, Calls Tryd.prog 38 #[(Go.Value.agg #[Go.Value.int Go.IntKind.i64 a, Go.Value.int Go.IntKind.i64 t, Go.Value.int Go.IntKind.i64 c]), (Go.Value.agg #[Go.Value.int Go.IntKind.i64 ua, Go.Value.int Go.IntKind.i64 ub, Go.Value.int Go.IntKind.i64 uc])] W fun e w' => e = .returned (.bool d) ∧ Below W.heap.size W w') := fun W => by rw [hd]; exact Before_any _ _ _ _ _ _ W
      have HEQ : Hid (∀ W, (Op.equalIn 10000 24 (Go.Value.agg #[Go.Value.int Go.IntKind.i64 a, Go.Value.int Go.IntKind.i64 t, Go.Value.int Go.IntKind.i64 c]) (Go.Value.agg #[Go.Value.int Go.IntKind.i64 ua, Go.Value.int Go.IntKind.i64 ub, Go.Value.int Go.IntKind.i64 uc])).run Tryd.prog W = .ok q W) := fun W => by rw [hq]; exact eq_stamp _ _ _ _ _ _ W
      have HSK := Lib.hid hsk
      clear hd hq hsk
      have q0 : i < len := hlt
      go_upto_region 6 with (fail)
      go_cut [45] (fun s45 wx => s45 = .bool (decide (i < k)) ∧ Hid (PrRel W0 W0.heap.size b (off + i * 5) (a, t, c, g, s) g5 (ua, ub, uc, ug, us) u7 (chunk l k i) wx))
      case first =>
        have he := HEQ.out
        have hsk := HSK.out
        have hcases : (ok = false) ∨ (ok = true ∧ d = true) ∨ (ok = true ∧ d = false ∧ ug = false) ∨ (ok = true ∧ d = false ∧ ug = true ∧ q = true) ∨ (ok = true ∧ d = false ∧ ug = true ∧ q = false) := by
          cases ok <;> cases d <;> cases ug <;> cases q <;> simp
        have HSK2 := Lib.hid hsk
        clear hsk
        rcases hcases with rfl | ⟨rfl, rfl⟩ | ⟨rfl, rfl, rfl⟩ | ⟨rfl, rfl, rfl, rfl⟩ | ⟨rfl, rfl, rfl, rfl⟩
        all_goals
          refine wp_region_calm (PrRel W0 W0.heap.size b (off + i * 5) (a, t, c, g, s) g5 (ua, ub, uc, _, us) u7 (chunk l k i)) (by kernel_rfl) (by kernel_rfl) H2.out.drew ?_
          repeat ((with_reducible refine wpQuiet_step (fun K hK => ?_)); go_simp; first | (refine hK _ ?_; clear hK K) | (apply Exists.intro; refine ⟨fun wc hwc => ?_, hK _ ?_⟩; (focus (first | (first | (go_at_call 38; refine (HBF.out _).mono ?_; rintro e w1 ⟨rfl, hb1⟩; exact ⟨rfl, hwc.next hb1⟩)) | (((obtain ⟨_, _, _, _, ⟨x0, x1, x2, x3, x4⟩, hx, _⟩ := hwc; obtain ⟨y0, y1, y2, y3, y4⟩ := hx.cell; dsimp only at x0 x1 x2 x3 x4 y0 y1 y2 y3 y4; clear hx)); go_simp; done) | (((obtain ⟨_, _, _, _, ⟨x0, x1, x2, x3, x4⟩, hx, _⟩ := hwc; obtain ⟨y0, y1, y2, y3, y4⟩ := hx.cell; dsimp only at x0 x1 x2 x3 x4 y0 y1 y2 y3 y4; clear hx)); go_simp; exact rfl))); clear hK K))
          refine wpQuiet_nil ?_
          intro wc hwc
          go_wp2_with fail
          go_meet
          exact ⟨by rw [← HSK2.out]; rfl, hwc⟩
      case rest =>
        obtain ⟨rfl, HW⟩ := hcut
        clear H2 HBF HEQ HSK
        by_cases hik : i < k
        · have hdk : decide (i < k) = true := decide_eq_true hik
          rw [hdk]
          have HO : Hid (OwnsV wc W0.heap.size u7 (chunk l k (i + 1))) := by
            show OwnsV _ _ _ _
            rw [chunk_skip hik]; exact HW.out.2.2.2.2.2.2
          have HBL : Hid (Below W0.heap.size W0 wc) := HW.out.2.2.2.1
          clear hik hdk
          go_wp2_with fail
          go_roundw
          case rel => exact ⟨i + 1, by omega, by go_num, HBL, HO⟩
          case measure => simp [intOf]; omega
        · have hdk : decide (i < k) = false := decide_eq_false hik
          rw [hdk]
          have HCH : Hid (chunk l k i ++ [(a, t, c, g, s)] = chunk l k (i + 1)) := by show _ = _; rw [chunk_more (by omega) (by rw [HL.out]; exact hlt), HV.out]
          have HLN : (chunk l k i).length ≤ 64 := by unfold chunk; simp; have := HL.out; omega
          have hown : wc.ownsRow W0.heap.size 26 5 u7 (chunk l k i).length (versC (chunk l k i)) := HW.out.2.2.2.2.2.2
          have hbel := HW.out.2.2.2.1
          obtain ⟨x0, x1, x2, x3, x4⟩ := HW.out.2.2.2.2.1
          dsimp only at x0 x1 x2 x3 x4
          have hsz := hbel.size
          generalize hch : chunk l k i = ch at *
          have HCH2 := Lib.hid hch
          clear hik hdk hch
          go_wp2_with (at_builtin; refine wpList_append_own _ rfl (.tmp 46) (.tmp 51) 39 rfl W0.heap.size 26 i0 _ 5 48 Tryd.underlying39 hi hz0 hz1 hz2 rfl (by decide) _ _ _ rfl (hown.alloc _) ⟨wc.heap.size, 0, none⟩ 1 1 (verC (a, t, c, g, s)) rfl rfl (ver_new wc (a, t, c, g, s)) (ver_one _) (by unfold maxLen; omega) (by omega) (by simp; omega) ?_; intro v' w2 hown1 hgrow1 _)
          have hb1 := (hbel.alloc (by omega) _).grown hgrow1 (by simp; omega) (fun k hk => (hown.lt k hk).1)
          rw [versC_snoc] at hown1
          have HO : Hid (OwnsV w2 W0.heap.size v' (chunk l k (i + 1))) := by
            show OwnsV _ _ _ _
            rw [← HCH.out]
            unfold OwnsV
            rw [List.length_append, List.length_singleton]
            exact hown1
          exact ⟨⟨i + 1, by omega, by go_num, hb1, HO⟩, by simp [intOf]; omega⟩
    · obtain rfl : i = len := by omega
      have HO : Hid (OwnsV wr W0.heap.size u7 (l.drop k)) := by
        show OwnsV _ _ _ _
        rw [← chunk_all, HL.out]; exact hown.out
      have HBB : Hid (Below w.heap.size w wr) := H1.out.1.trans (hbel.out.mono HS0)
      go_wp2_with fail
      go_ret
      exact ⟨u7, rfl, HO.out.mono HS0, HBB.out⟩

theorem refPrune_any {w : World} {v : Value} {l : List Ver} {x y z : Int} {k : Nat} (h : Vers w v l) (hr : rightC l = true) (hk : IsCut l x y z k) :
    Calls Tryd.prog 50 #[v, (Go.Value.agg #[Go.Value.int Go.IntKind.i64 x, Go.Value.int Go.IntKind.i64 y, Go.Value.int Go.IntKind.i64 z])] w fun e w' => ∃ v', e = .returned v' ∧ OwnsV w' w.heap.size v' (l.drop k) ∧ Below w.heap.size w w' := by
  obtain ⟨n, hn, hk⟩ := hk
  obtain ⟨ao, cap, rfl, h1, h2, h3⟩ := h
  obtain ⟨u, ok, ha⟩ := at_ex l x y z
  have hu : (n = 0 ∧ ok = false) ∨ (0 < n ∧ ok = true ∧ u = vat l (n - 1)) := by
    rcases ha with ⟨e, _⟩ | ⟨_, c1, _, e2⟩ | ⟨_, e1, m, c1, e2⟩
    · rw [hr] at e; cases e
    · exact .inl ⟨cnt_one hn c1, e2⟩
    · obtain rfl := cnt_one hn c1
      exact .inr ⟨by omega, e1, e2⟩
  refine refPrune_row w x y z ao _ cap l k n u ok rfl (rightC_spec hr).1 h3 (fun i hi => prune_skip hr hn hk hi hu rfl) fun W hW => refAt_any ⟨ao, cap, rfl, h1, h2, fun hp => ?_⟩ ha
  obtain ⟨b, off, e1, h4, h5⟩ := h3 hp
  exact ⟨b, off, e1, Nat.lt_of_lt_of_le h4 hW.size, fun i hi => (h5 i hi).next hW h4⟩

end Go.Proofs.YtkmmifonandkoaaDoor

/-
  What pruning and adding give, as relations. No program, no walk.
-/
set_option linter.unusedVariables false
namespace Go.Proofs.YtkmmifonandkoaaDoor
open Go.RowKit

/-- What a chain is behind pruning. -/
def IsPruned (l : List Ver) (x y z : Int) (m : List Ver) : Prop := (rightC l = false ∧ m = []) ∨ (rightC l = true ∧ ∃ k, IsCut l x y z k ∧ m = l.drop k)
theorem pruned_ex (l : List Ver) (x y z : Int) : ∃ m, IsPruned l x y z m := by
  cases h : rightC l
  · exact ⟨_, .inl ⟨h, rfl⟩⟩
  · obtain ⟨k, hk⟩ := cut_ex h x y z
    exact ⟨_, .inr ⟨h, k, hk, rfl⟩⟩
theorem pruned_right {l : List Ver} {x y z : Int} {m : List Ver} (h : IsPruned l x y z m) (hr : rightC l = true) : rightC m = true ∧ m.length ≤ l.length := by
  rcases h with ⟨e, _⟩ | ⟨_, k, _, rfl⟩
  · rw [hr] at e; cases e
  · exact ⟨right_drop hr k, by simp⟩
theorem pruned_keeps {l : List Ver} {a b c x y z : Int} {m : List Ver} {v u : Ver} {ok ok' : Bool} (hr : rightC l = true) (h : IsPruned l a b c m) (hle : befB x y z a b c = false) (h1 : IsAt l x y z v ok) (h2 : IsAt m x y z u ok') : valV v ok = valV u ok' ∧ hasV v ok = hasV u ok' := by
  rcases h with ⟨e, _⟩ | ⟨_, k, hk, rfl⟩
  · rw [hr] at e; cases e
  · exact cut_keeps hr hk hle h1 h2
theorem pruned_twice {l : List Ver} {a b c a' b' c' x y z : Int} {m m2 m3 : List Ver} (hr : rightC l = true) (h : IsPruned l a b c m) (h2 : IsPruned m a' b' c' m2) (h3 : IsPruned l x y z m3)
    (hl : (x = a ∧ y = b ∧ z = c ∧ befB a b c a' b' c' = false) ∨ (x = a' ∧ y = b' ∧ z = c' ∧ befB a' b' c' a b c = false)) : m2 = m3 := by
  rcases h with ⟨e, _⟩ | ⟨_, k, hk, rfl⟩
  · rw [hr] at e; cases e
  rcases h2 with ⟨e, _⟩ | ⟨_, i, hi, rfl⟩
  · rw [right_drop hr k] at e; cases e
  rcases h3 with ⟨e, _⟩ | ⟨_, j, hj, rfl⟩
  · rw [hr] at e; cases e
  exact cut_twice hk hi hr hl hj
/-- What Add gives: the chain, and the error's number. -/
def IsAdd (l : List Ver) (u : Ver) (m : List Ver) (e : Int) : Prop :=
  ((rightC l = false ∨ oneB u = false) ∧ m = [] ∧ e = 1) ∨
  (rightC l = true ∧ oneB u = true ∧ 0 < l.length ∧ befV (vat l (l.length - 1)) u = false ∧ m = [] ∧ e = 9) ∨
  (rightC l = true ∧ oneB u = true ∧ (l.length = 0 ∨ befV (vat l (l.length - 1)) u = true) ∧ 64 ≤ l.length ∧ m = [] ∧ e = 6) ∨
  (rightC l = true ∧ oneB u = true ∧ (l.length = 0 ∨ befV (vat l (l.length - 1)) u = true) ∧ l.length < 64 ∧ m = l ++ [u] ∧ e = 0)
theorem add_ex (l : List Ver) (u : Ver) : ∃ m e, IsAdd l u m e := by
  cases h1 : rightC l
  · exact ⟨_, _, .inl ⟨.inl h1, rfl, rfl⟩⟩
  cases h2 : oneB u
  · exact ⟨_, _, .inl ⟨.inr h2, rfl, rfl⟩⟩
  by_cases h3 : l.length = 0 ∨ befV (vat l (l.length - 1)) u = true
  · by_cases h4 : l.length < 64
    · exact ⟨_, _, .inr (.inr (.inr ⟨h1, h2, h3, h4, rfl, rfl⟩))⟩
    · exact ⟨_, _, .inr (.inr (.inl ⟨h1, h2, h3, by omega, rfl, rfl⟩))⟩
  · refine ⟨_, _, .inr (.inl ⟨h1, h2, ?_, ?_, rfl, rfl⟩)⟩
    · rcases Nat.eq_zero_or_pos l.length with h | h
      · exact absurd (.inl h) h3
      · exact h
    · cases hb : befV (vat l (l.length - 1)) u
      · rfl
      · exact absurd (.inr hb) h3

end Go.Proofs.YtkmmifonandkoaaDoor

/-
  The contract of the document's Prune of a right index.
-/
set_option linter.unusedVariables false
namespace Go.Proofs.YtkmmifonandkoaaDoor
open Go.RowKit

noncomputable def prC (x y z : Int) (c : List Ver) : List Ver := (pruned_ex c x y z).choose
theorem pr_is (c : List Ver) (x y z : Int) : IsPruned c x y z (prC x y z c) := (pruned_ex c x y z).choose_spec
noncomputable def prE (x y z : Int) (e : Ent) : Ent := (e.1, prC x y z e.2)
def fullB (e : Ent) : Bool := decide (0 < e.2.length)
noncomputable def pruneI (l : List Ent) (x y z : Int) : List Ent := (l.map (prE x y z)).filter fullB
theorem pruneI_app (l m : List Ent) (x y z : Int) : pruneI (l ++ m) x y z = pruneI l x y z ++ pruneI m x y z := by simp [pruneI]
theorem pruneI_yes {l : List Ent} {k : Nat} (h : k < l.length) {x y z : Int} (hb : 0 < (prC x y z (lat l k).2).length) : pruneI (l.take (k + 1)) x y z = pruneI (l.take k) x y z ++ [((lat l k).1, prC x y z (lat l k).2)] := by
  rw [take_lat h, pruneI_app]
  simp [pruneI, fullB, prE, hb]
theorem pruneI_no {l : List Ent} {k : Nat} (h : k < l.length) {x y z : Int} (hb : ¬ 0 < (prC x y z (lat l k).2).length) : pruneI (l.take (k + 1)) x y z = pruneI (l.take k) x y z := by
  rw [take_lat h, pruneI_app]
  have hb' : (prC x y z (lat l k).2).length = 0 := by omega
  simp [pruneI, fullB, prE, hb']
theorem pruneI_len (l : List Ent) (x y z : Int) : (pruneI l x y z).length ≤ l.length := by
  unfold pruneI
  refine Nat.le_trans (List.length_filter_le _ _) ?_
  simp
/-- What a round of Prune knows: the entry, the mark's box, the row of one's own. -/
def PiRel (W0 : World) (b o : Nat) (s : ByteArray) (u : Value) (g : Nat) (x y z : Int) (lv : Value) (es : List EntV) (m : List Ent) (W : World) : Prop :=
  b < W0.heap.size ∧ Below W0.heap.size W0 W ∧ EntAt W b o (s, u) ∧ Box W g x y z ∧ OwnsE W W0.heap.size lv es ∧ LeadsX W0.heap.size W es m
theorem PiRel.next {W0 W W' : World} {b o g : Nat} {s : ByteArray} {u lv : Value} {x y z : Int} {es : List EntV} {m : List Ent} (H : PiRel W0 b o s u g x y z lv es m W) (hb : Below W.heap.size W W') : PiRel W0 b o s u g x y z lv es m W' := by
  obtain ⟨h0, h1, h2, h3, h4, h5⟩ := H
  have := h1.size
  exact ⟨h0, h1.trans (hb.mono h1.size), h2.next hb (by omega), h3.over hb, h4.next hb, h5.next hb⟩
/-- Its cells, for a drawn region. -/
def PiC (W0 : World) (b o : Nat) (s : ByteArray) (u : Value) (g : Nat) (x y z : Int) (lv : Value) (es : List EntV) (m : List Ent) (W : World) : Prop :=
  W.cell? ⟨b, o + 1, none⟩ = some u ∧ W.cell? ⟨g, 0, none⟩ = some (.int .i64 x) ∧ W.cell? ⟨g, 1, none⟩ = some (.int .i64 y) ∧ W.cell? ⟨g, 2, none⟩ = some (.int .i64 z) ∧ PiRel W0 b o s u g x y z lv es m W
theorem PiC.of {W0 W : World} {b o g : Nat} {s : ByteArray} {u lv : Value} {x y z : Int} {es : List EntV} {m : List Ent} (H : PiRel W0 b o s u g x y z lv es m W) : PiC W0 b o s u g x y z lv es m W := by
  obtain ⟨x0, x1, x2⟩ := H.2.2.2.1.cell
  exact ⟨H.2.2.1.2, x0, x1, x2, H⟩
theorem PiC.rel {W0 W : World} {b o g : Nat} {s : ByteArray} {u lv : Value} {x y z : Int} {es : List EntV} {m : List Ent} (H : PiC W0 b o s u g x y z lv es m W) : PiRel W0 b o s u g x y z lv es m W := H.2.2.2.2

set_option maxRecDepth 100000 in
set_option maxHeartbeats 2000000 in
theorem refIPrune_any {w : World} {v : Value} {l : List Ent} (h : Ents w v l) (x y z : Int) (hr : rightI l = true) :
    Calls Tryd.prog 25 #[v, (Go.Value.agg #[Go.Value.int Go.IntKind.i64 x, Go.Value.int Go.IntKind.i64 y, Go.Value.int Go.IntKind.i64 z])] w fun e w' => ∃ v', e = .returned v' ∧ Ents w' v' (pruneI l x y z) ∧ Below w.heap.size w w' := by
  obtain ⟨ao, n, cap, es, rfl, hl, hle, hmx, hn, hrow, hlead⟩ := h.opened
  obtain ⟨i0, hii, hz0, hz1, hz2⟩ := info_parts info_ent
  have HL := Lib.hid hl
  have HR := Lib.hid hrow
  have HE := Lib.hid hlead
  have HRI := Lib.hid hr
  have H64 : Hid (l.length ≤ 64) := (rightI_spec hr).1
  clear hl hrow hlead hle hmx h hr
  obtain ⟨W0, hW0, H0, hBX⟩ : ∃ W0, w.alloc (.cells #[.int .i64 x, .int .i64 y, .int .i64 z] 24) = W0 ∧ Hid (Below w.heap.size w W0) ∧ Hid (Box W0 w.heap.size x y z) := ⟨_, rfl, (Below.refl _ _).alloc (Nat.le_refl _) _, Box.new w x y z⟩
  have hsz0 := H0.out.size
  go_enter Tryd.func25, Tryd.ntmps25
  go_wp2_with fail
  go_loopw [5, 6] (fun lv i wr => ∃ k : Nat, k ≤ n ∧ i = .int .i64 k ∧ Hid (Below W0.heap.size W0 wr) ∧ Hid (∃ fs, OwnsE wr W0.heap.size lv fs ∧ LeadsX W0.heap.size wr fs (pruneI (l.take k) x y z))) (fun _ i _ => n - (intOf i).toNat)
  case atStart => exact ⟨0, Nat.zero_le _, rfl, Below.refl _ _, [], OwnsE.nil _ _, LeadsX.nil _ _⟩
  case round =>
    obtain ⟨k, hk, rfl, hbel, hown⟩ := hrel
    by_cases hlt : k < n
    · obtain ⟨b, off, rfl, hb, hcl⟩ := HR.out (by omega)
      have hkl : k < l.length := by rw [HL.out]; exact hlt
      obtain ⟨hkey, hvers⟩ := HE.out.2 k hkl
      obtain ⟨s, hs⟩ : ∃ s, s = (lat l k).1 := ⟨_, rfl⟩
      obtain ⟨u, hu⟩ : ∃ u, u = (eat es k).2 := ⟨_, rfl⟩
      obtain ⟨c, hc⟩ : ∃ c, c = prC x y z (lat l k).2 := ⟨_, rfl⟩
      rw [← hu] at hvers
      have HP : Hid (∀ W, Below W0.heap.size W0 W → Calls Tryd.prog 50 #[u, (Go.Value.agg #[Go.Value.int Go.IntKind.i64 x, Go.Value.int Go.IntKind.i64 y, Go.Value.int Go.IntKind.i64 z])] W fun e w' => ∃ v', e = .returned v' ∧ OwnsV w' W.heap.size v' c ∧ Below W.heap.size W w') := fun W hW => by
        rw [hc]
        rcases pr_is (lat l k).2 x y z with ⟨e, _⟩ | ⟨_, j, hj, e⟩
        · rw [(ent_spec HRI.out hkl).2.2.1] at e; cases e
        · rw [e]
          exact refPrune_any ((hvers.next H0.out).next hW) (ent_spec HRI.out hkl).2.2.1 hj
      obtain ⟨fs, hfs, hld⟩ := hown.out
      obtain ⟨ms, hms⟩ : ∃ ms, ms = pruneI (l.take k) x y z := ⟨_, rfl⟩
      rw [← hms] at hld
      have H2 : Hid (PiRel W0 b (off + k * 2) s u w.heap.size x y z u5 fs ms wr) := by
        refine ⟨by omega, hbel.out, ?_, hBX.out.over hbel.out, hfs, hld⟩
        have := ((hcl k hlt).next H0.out hb).next hbel.out (by omega)
        unfold EntAt at this ⊢
        rw [hs, hu, ← hkey]; exact this
      have HKC : Hid ((lat l k).1 = s ∧ prC x y z (lat l k).2 = c) := ⟨hs.symm, hc.symm⟩
      have HKL := Lib.hid hkl
      have HMS := Lib.hid hms
      have HLEN : Hid (fs.length ≤ 64) := by
        have h1 := pruneI_len (l.take k) x y z
        rw [List.length_take, ← hms, ← hld.1] at h1
        show _ ≤ _
        have := H64.out
        omega
      have q0 : k < n := hlt
      clear hcl hkey hvers hs hu hc hkl hms hbel hown hfs hld
      go_upto_region 5 with (fail)
      go_cut [7] (fun s7 wx => Hid (PiRel W0 b (off + k * 2) s u w.heap.size x y z u5 fs ms wx ∧ VersX W0.heap.size wx s7 c))
      case first =>
        have HS0 : PiC W0 b (off + k * 2) s u w.heap.size x y z u5 fs ms wr.drew := .of (H2.out.next ((Below.refl _ _).drew))
        go_region_held3 (fun W => W.cell? ⟨b, off + k * 2 + 1, none⟩ = some u ∧ W.cell? ⟨w.heap.size, 0, none⟩ = some (.int .i64 x) ∧ W.cell? ⟨w.heap.size, 1, none⟩ = some (.int .i64 y) ∧ W.cell? ⟨w.heap.size, 2, none⟩ = some (.int .i64 z) ∧ PiRel W0 b (off + k * 2) s u w.heap.size x y z u5 fs ms W) ((show PiC W0 b (off + k * 2) s u w.heap.size x y z u5 fs ms _; first | (with_reducible exact hs1) | (with_reducible exact HS0))) ((go_at_call 50; refine (HP.out _ HS0.rel.2.1).mono ?_; rintro e w1 ⟨v1, rfl, ho1, hb1⟩; have hs1 : PiC W0 b (off + k * 2) s u w.heap.size x y z u5 fs ms w1 := .of (HS0.rel.next hb1)))
        all_goals (go_wp2_with fail; go_meet; exact ⟨hs1.rel, ho1.x⟩)
      case rest =>
        have HW := Lib.hid hcut.out
        clear hcut H2 HP
        obtain ⟨ao7, cap7, rfl⟩ := vers_slice' HW.out.2.1
        obtain ⟨m, hm⟩ : ∃ m, c.length = m := ⟨_, rfl⟩
        have HM := Lib.hid hm
        rw [hm] at HW ⊢
        clear hm
        by_cases hm0 : m = 0
        · subst hm0
          have HN : Hid (∃ fs, OwnsE wc W0.heap.size u5 fs ∧ LeadsX W0.heap.size wc fs (pruneI (l.take (k + 1)) x y z)) := by
            refine ⟨fs, HW.out.1.2.2.2.2.1, ?_⟩
            rw [pruneI_no HKL.out (by rw [HKC.out.2, HM.out]; omega), ← HMS.out]
            exact HW.out.1.2.2.2.2.2
          go_wp2_with fail
          go_roundw
          case rel => exact ⟨k + 1, by omega, by go_num, HW.out.1.2.1, HN⟩
          case measure => simp [intOf]; omega
        · have d0 : decide (0 < (m : Int)) = true := decide_eq_true (by omega)
          obtain ⟨x0, x1⟩ := HW.out.1.2.2.1
          dsimp only at x0 x1
          have hown : wc.ownsRow W0.heap.size 60 2 u5 fs.length (entsC fs) := HW.out.1.2.2.2.2.1
          have hbel := HW.out.1.2.1
          have hsz := hbel.size
          have hln := HLEN.out
          go_wp2_with (at_builtin; refine wpList_append_own _ rfl _ _ 22 rfl W0.heap.size 60 i0 _ 2 40 Tryd.underlying22 hii hz0 hz1 hz2 rfl (by decide) _ _ _ rfl (hown.alloc _) ⟨wc.heap.size, 0, none⟩ 1 1 (entC (s, .slice ao7 m cap7)) rfl rfl (ent_new wc (s, .slice ao7 m cap7)) (entC_one rfl) (by unfold maxLen; omega) (by omega) (by simp; omega) ?_; intro v' w3 hown1 hgrow1 _)
          have hal : Below wc.heap.size wc (wc.alloc (.cells #[.string s, .slice ao7 m cap7] 60)) := (Below.refl _ _).alloc (Nat.le_refl _) _
          have hb1 := (hbel.alloc (by omega) _).grown hgrow1 (by simp; omega) (fun k hk => (hown.lt k hk).1)
          rw [entsC_snoc] at hown1
          have HN : Hid (∃ fs, OwnsE w3 W0.heap.size v' fs ∧ LeadsX W0.heap.size w3 fs (pruneI (l.take (k + 1)) x y z)) := by
            refine ⟨fs ++ [(s, .slice ao7 m cap7)], ?_, ?_⟩
            · unfold OwnsE
              rw [List.length_append, List.length_singleton]
              exact hown1
            · rw [pruneI_yes HKL.out (by rw [HKC.out.2, HM.out]; omega), ← HMS.out, HKC.out.1, HKC.out.2]
              exact ((HW.out.1.2.2.2.2.2.next hal).snoc (HW.out.2.next hal)).grown (OwnsE.next HW.out.1.2.2.2.2.1 hal) hgrow1
          exact ⟨⟨k + 1, by omega, by go_num, hb1, HN⟩, by simp [intOf]; omega⟩
    · obtain rfl : k = n := by omega
      have HN : Hid (Ents wr u5 (pruneI l x y z)) := by
        obtain ⟨fs, h1, h2⟩ := hown.out
        rw [List.take_of_length_le (by rw [HL.out]; exact Nat.le_refl _)] at h2
        exact own_ents h1 h2
      have HBB : Hid (Below w.heap.size w wr) := H0.out.trans (hbel.out.mono hsz0)
      go_wp2_with fail
      go_ret
      exact ⟨u5, rfl, HN.out, HBB.out⟩

end Go.Proofs.YtkmmifonandkoaaDoor

/-
  The contract of the document's Join.
-/
set_option linter.unusedVariables false
namespace Go.Proofs.YtkmmifonandkoaaDoor
open Go.RowKit

def apartB (a b : List Ent) : Bool := decide (∀ i, i < a.length → ∀ k, k < b.length → Ky.compare (lat a i).1 (lat b k).1 < 0)
theorem apart_no {a b : List Ent} {i k : Nat} (hi : i < a.length) (hk : k < b.length) (h : ¬ Ky.compare (lat a i).1 (lat b k).1 < 0) : apartB a b = false := by
  unfold apartB; exact decide_eq_false fun h2 => h (h2 i hi k hk)
/-- What Join gives, and the error's number. -/
def IsJoin (a b m : List Ent) (e : Int) : Prop :=
  ((rightI a = false ∨ rightI b = false) ∧ m = [] ∧ e = 1) ∨
  (rightI a = true ∧ rightI b = true ∧ apartB a b = false ∧ m = [] ∧ e = 9) ∨
  (rightI a = true ∧ rightI b = true ∧ apartB a b = true ∧ 64 < a.length + b.length ∧ m = [] ∧ e = 6) ∨
  (rightI a = true ∧ rightI b = true ∧ apartB a b = true ∧ a.length + b.length ≤ 64 ∧ m = a ++ b ∧ e = 0)
theorem join_ex (a b : List Ent) : ∃ m e, IsJoin a b m e := by
  cases h1 : rightI a
  · exact ⟨_, _, .inl ⟨.inl h1, rfl, rfl⟩⟩
  cases h2 : rightI b
  · exact ⟨_, _, .inl ⟨.inr h2, rfl, rfl⟩⟩
  cases h3 : apartB a b
  · exact ⟨_, _, .inr (.inl ⟨h1, h2, h3, rfl, rfl⟩)⟩
  by_cases h4 : a.length + b.length ≤ 64
  · exact ⟨_, _, .inr (.inr (.inr ⟨h1, h2, h3, h4, rfl, rfl⟩))⟩
  · exact ⟨_, _, .inr (.inr (.inl ⟨h1, h2, h3, by omega, rfl, rfl⟩))⟩
theorem join_one {a b m m' : List Ent} {e e' : Int} (h : IsJoin a b m e) (h' : IsJoin a b m' e') : m = m' ∧ e = e' := by
  rcases h with ⟨h1 | h1, rfl, rfl⟩ | ⟨h1, h2, h3, rfl, rfl⟩ | ⟨h1, h2, h3, h4, rfl, rfl⟩ | ⟨h1, h2, h3, h4, rfl, rfl⟩ <;>
  rcases h' with ⟨g1 | g1, rfl, rfl⟩ | ⟨g1, g2, g3, rfl, rfl⟩ | ⟨g1, g2, g3, g4, rfl, rfl⟩ | ⟨g1, g2, g3, g4, rfl, rfl⟩ <;>
  first | exact ⟨rfl, rfl⟩ | (exfalso; simp_all; done) | (exfalso; omega)
/-- Two keys of two rows. -/
def KK (w : World) (b1 o1 : Nat) (s : ByteArray) (b2 o2 : Nat) (t : ByteArray) (W : World) : Prop := b1 < w.heap.size ∧ b2 < w.heap.size ∧ Below w.heap.size w W ∧ W.cell? ⟨b1, o1, none⟩ = some (.string s) ∧ W.cell? ⟨b2, o2, none⟩ = some (.string t)
theorem KK.next {w W W' : World} {b1 o1 b2 o2 : Nat} {s t : ByteArray} (H : KK w b1 o1 s b2 o2 t W) (hb : Below W.heap.size W W') : KK w b1 o1 s b2 o2 t W' := by
  obtain ⟨h0, h1, h2, h3, h4⟩ := H
  have := h2.size
  exact ⟨h0, h1, h2.trans (hb.mono h2.size), (hb.cell (p := ⟨b1, o1, none⟩) (by show b1 < _; omega)).trans h3, (hb.cell (p := ⟨b2, o2, none⟩) (by show b2 < _; omega)).trans h4⟩
theorem KK.drew {w W : World} {b1 o1 b2 o2 : Nat} {s t : ByteArray} (H : KK w b1 o1 s b2 o2 t W) : KK w b1 o1 s b2 o2 t W.drew := H.next ((Below.refl _ _).drew)

set_option maxRecDepth 100000 in
set_option maxHeartbeats 2000000 in
theorem refJoin_any {w : World} {va vb : Value} {a b : List Ent} (ha : Ents w va a) (hb : Ents w vb b) (hka : ∀ i, i < a.length → (lat a i).1.size ≤ 1048576) (hkb : ∀ i, i < b.length → (lat b i).1.size ≤ 1048576) (m : List Ent) (er : Int) (hj : IsJoin a b m er) :
    Calls Tryd.prog 29 #[va, vb] w fun e w' => ∃ v', e = .returned (.tuple #[v', .int .i64 er]) ∧ Ents w' v' m ∧ Below w.heap.size w w' := by
  obtain ⟨ra, hra⟩ : ∃ r, r = rightI a := ⟨_, rfl⟩
  obtain ⟨rb, hrb⟩ : ∃ r, r = rightI b := ⟨_, rfl⟩
  have HRA : Hid (∀ W, Below w.heap.size w W → Calls Tryd.prog 17 #[va] W fun e w' => e = .returned (.bool ra) ∧ Below W.heap.size W w') := fun W hW => by rw [hra]; exact refIRight_any (ha.next hW) hka
  have HRB : Hid (∀ W, Below w.heap.size w W → Calls Tryd.prog 17 #[vb] W fun e w' => e = .returned (.bool rb) ∧ Below W.heap.size W w') := fun W hW => by rw [hrb]; exact refIRight_any (hb.next hW) hkb
  have HEA := Lib.hid ha
  have HEB := Lib.hid hb
  obtain ⟨ao, na, ca, es, rfl, hl, hle, hmx, hn, hrow, hlead⟩ := ha.opened
  obtain ⟨ao', nb, cb, es', rfl, hl', hle', hmx', hn', hrow', hlead'⟩ := hb.opened
  have HL := Lib.hid hl
  have HR := Lib.hid hrow
  have HE := Lib.hid hlead
  have HL' := Lib.hid hl'
  have HR' := Lib.hid hrow'
  have HE' := Lib.hid hlead'
  have HKA := Lib.hid hka
  have HKB := Lib.hid hkb
  have HVA : Hid (EntsV w (.slice ao na ca) es) := ⟨ao, ca, by rw [hlead.1, hl], by rw [hlead.1, hl]; exact hle, hmx, fun hp => by
    obtain ⟨b0, off, e, h1, h2⟩ := hrow (by rw [← hl, ← hlead.1]; exact hp)
    exact ⟨b0, off, e, h1, fun i hi => h2 i (by rw [← hl, ← hlead.1]; exact hi)⟩⟩
  have HVB : Hid (EntsV w (.slice ao' nb cb) es') := ⟨ao', cb, by rw [hlead'.1, hl'], by rw [hlead'.1, hl']; exact hle', hmx', fun hp => by
    obtain ⟨b0, off, e, h1, h2⟩ := hrow' (by rw [← hl', ← hlead'.1]; exact hp)
    exact ⟨b0, off, e, h1, fun i hi => h2 i (by rw [← hl', ← hlead'.1]; exact hi)⟩⟩
  have HONE : Hid ((∀ i, i < es.length → (eat es i).2.oneCell' = true) ∧ (∀ i, i < es'.length → (eat es' i).2.oneCell' = true)) := ⟨fun i hi => vers_one (hlead.2 i (by rw [← hlead.1]; exact hi)).2, fun i hi => vers_one (hlead'.2 i (by rw [← hlead'.1]; exact hi)).2⟩
  have HJ := Lib.hid hj
  have HRAE := Lib.hid hra
  have HRBE := Lib.hid hrb
  clear hl hrow hlead hle hmx ha hka hl' hrow' hlead' hle' hmx' hb hkb hj hra hrb
  cases ra
  · obtain ⟨rfl, rfl⟩ : m = [] ∧ er = 1 := by
      rcases HJ.out with ⟨_, h1, h2⟩ | ⟨h0, _⟩ | ⟨h0, _⟩ | ⟨h0, _⟩
      · exact ⟨h1, h2⟩
      all_goals (rw [← HRAE.out] at h0; cases h0)
    go_enter Tryd.func29, Tryd.ntmps29
    go_wp2_with fail
    refine (HRA.out _ (Below.refl _ _)).mono ?_
    rintro e w1 ⟨rfl, hb1⟩
    go_wp2_with fail
    go_ret2
    exact ⟨_, rfl, ents_nil _, hb1⟩
  cases rb
  · obtain ⟨rfl, rfl⟩ : m = [] ∧ er = 1 := by
      rcases HJ.out with ⟨_, h1, h2⟩ | ⟨_, h0, _⟩ | ⟨_, h0, _⟩ | ⟨_, h0, _⟩
      · exact ⟨h1, h2⟩
      all_goals (rw [← HRBE.out] at h0; cases h0)
    go_enter Tryd.func29, Tryd.ntmps29
    go_wp2_with fail
    refine (HRA.out _ (Below.refl _ _)).mono ?_
    rintro e w1 ⟨rfl, hb1⟩
    go_wp2_with fail
    refine (HRB.out _ hb1).mono ?_
    rintro e w2 ⟨rfl, hb2⟩
    go_wp2_with fail
    go_ret2
    exact ⟨_, rfl, ents_nil _, hb1.trans (hb2.mono hb1.size)⟩
  have H64 : Hid (na ≤ 64 ∧ nb ≤ 64) := ⟨by rw [← HL.out]; exact (rightI_spec HRAE.out.symm).1, by rw [← HL'.out]; exact (rightI_spec HRBE.out.symm).1⟩
  go_enter Tryd.func29, Tryd.ntmps29
  go_wp2_with fail
  refine (HRA.out _ (Below.refl _ _)).mono ?_
  rintro e w1 ⟨rfl, hb1⟩
  go_wp2_with fail
  refine (HRB.out _ hb1).mono ?_
  rintro e w2 ⟨rfl, hb2⟩
  have H2 : Hid (Below w.heap.size w w2) := hb1.trans (hb2.mono hb1.size)
  clear hb1 hb2 HRA HRB
  go_wp2_with fail
  go_loopw [6] (fun i wr => ∃ p : Nat, p ≤ na ∧ i = .int .i64 p ∧ Hid (∀ j, j < p → ∀ k, k < nb → Ky.compare (lat a j).1 (lat b k).1 < 0) ∧ Hid (Below w.heap.size w wr)) (fun i _ => na - (intOf i).toNat)
  case atStart => exact ⟨0, Nat.zero_le _, rfl, fun j hj => absurd hj (Nat.not_lt_zero _), H2.out⟩
  case round =>
    obtain ⟨p, hp, rfl, hap, hbel⟩ := hrel
    by_cases hlt : p < na
    · obtain ⟨b0, off, rfl, hb0, hcl⟩ := HR.out (by omega)
      obtain ⟨hkey, _⟩ := HE.out.2 p (by rw [HL.out]; exact hlt)
      obtain ⟨s, hs⟩ : ∃ s, s = (lat a p).1 := ⟨_, rfl⟩
      have hs1 := HKA.out p (by rw [HL.out]; exact hlt)
      rw [← hs] at hs1
      have HS1 := Lib.hid hs1
      have HSC : Hid (∀ W, Below w.heap.size w W → W.cell? ⟨b0, off + p * 2, none⟩ = some (.string s)) := fun W hW => by
        have := ((hcl p hlt).next hW hb0).1
        rw [hs, ← hkey]; exact this
      have HSE := Lib.hid hs
      have q0 : p < na := hlt
      clear hcl hkey hs hs1
      go_wp2_with fail
      go_loopw [7] (fun i wr => ∃ k : Nat, k ≤ nb ∧ i = .int .i64 k ∧ Hid (∀ j, j < k → Ky.compare (lat a p).1 (lat b j).1 < 0) ∧ Hid (Below w.heap.size w wr)) (fun i _ => nb - (intOf i).toNat)
      case atStart => exact ⟨0, Nat.zero_le _, rfl, fun j hj => absurd hj (Nat.not_lt_zero _), hbel.out⟩
      case round =>
        obtain ⟨k, hk, rfl, hin, hbel2⟩ := hrel
        by_cases hlt2 : k < nb
        · obtain ⟨b1, off1, rfl, hb1, hcl⟩ := HR'.out (by omega)
          obtain ⟨hkey, _⟩ := HE'.out.2 k (by rw [HL'.out]; exact hlt2)
          obtain ⟨t, ht⟩ : ∃ t, t = (lat b k).1 := ⟨_, rfl⟩
          obtain ⟨q, hq⟩ : ∃ q, q = Ky.compare s t := ⟨_, rfl⟩
          have ht1 := HKB.out k (by rw [HL'.out]; exact hlt2)
          rw [← ht] at ht1
          have HC : Hid (∀ W, Calls Tryd.prog 39 #[.string s, .string t] W fun e w' => e = .returned (.int .i64 q) ∧ Below W.heap.size W w') := fun W => by rw [hq]; exact refCompare_any s t W HS1.out ht1
          have H3 : Hid (KK w b0 (off + p * 2) s b1 (off1 + k * 2) t _) := ⟨hb0, hb1, hbel2.out, HSC.out _ hbel2.out, by
            have := ((hcl k hlt2).next hbel2.out hb1).1
            rw [ht, ← hkey]; exact this⟩
          have HQ : Hid (Ky.compare (lat a p).1 (lat b k).1 = q) := by show _ = _; rw [hq, ht, HSE.out]
          have q1 : k < nb := hlt2
          clear hcl hkey ht hq ht1
          go_upto_region 9 with (fail)
          by_cases hq0 : q < 0
          · have d1 : decide (0 ≤ q) = false := decide_eq_false (by omega)
            have HN : Hid (∀ j, j < k + 1 → Ky.compare (lat a p).1 (lat b j).1 < 0) := by
              intro j hj
              by_cases hjk : j < k
              · exact hin.out j hjk
              · obtain rfl : j = k := by omega
                rw [HQ.out]; exact hq0
            clear hq0
            refine wp_region_calm (KK w b0 (off + p * 2) s b1 (off1 + k * 2) t) (by kernel_rfl) (by kernel_rfl) H3.out.drew ?_
            repeat ((with_reducible refine wpQuiet_step (fun K hK => ?_)); go_simp; first | (refine hK _ ?_; clear hK K) | (apply Exists.intro; refine ⟨fun wc hwc => ?_, hK _ ?_⟩; (focus (first | (first | (go_at_call 39; refine (HC.out _).mono ?_; rintro e w1 ⟨rfl, hb1⟩; exact ⟨rfl, hwc.next hb1⟩)) | (((obtain ⟨_, _, _, x0, y0⟩ := hwc)); go_simp; done) | (((obtain ⟨_, _, _, x0, y0⟩ := hwc)); go_simp; exact rfl))); clear hK K))
            refine wpQuiet_nil ?_
            intro wc hwc
            go_wp2_with fail
            go_roundw
            case rel => exact ⟨k + 1, by omega, by go_num, HN, hwc.2.2.1⟩
            case measure => simp [intOf]; omega
          · have d1 : decide (0 ≤ q) = true := decide_eq_true (by omega)
            have HAP : Hid (apartB a b = false) := apart_no (i := p) (k := k) (by rw [HL.out]; exact hlt) (by rw [HL'.out]; exact hlt2) (by rw [HQ.out]; exact hq0)
            clear hq0
            obtain ⟨rfl, rfl⟩ : m = [] ∧ er = 9 := by
              rcases HJ.out with ⟨h0 | h0, _⟩ | ⟨_, _, _, h1, h2⟩ | ⟨_, _, h0, _⟩ | ⟨_, _, h0, _⟩
              · rw [← HRAE.out] at h0; cases h0
              · rw [← HRBE.out] at h0; cases h0
              · exact ⟨h1, h2⟩
              all_goals (rw [HAP.out] at h0; cases h0)
            refine wp_region_calm (KK w b0 (off + p * 2) s b1 (off1 + k * 2) t) (by kernel_rfl) (by kernel_rfl) H3.out.drew ?_
            repeat ((with_reducible refine wpQuiet_step (fun K hK => ?_)); go_simp; first | (refine hK _ ?_; clear hK K) | (apply Exists.intro; refine ⟨fun wc hwc => ?_, hK _ ?_⟩; (focus (first | (first | (go_at_call 39; refine (HC.out _).mono ?_; rintro e w1 ⟨rfl, hb1⟩; exact ⟨rfl, hwc.next hb1⟩)) | (((obtain ⟨_, _, _, x0, y0⟩ := hwc)); go_simp; done) | (((obtain ⟨_, _, _, x0, y0⟩ := hwc)); go_simp; exact rfl))); clear hK K))
            refine wpQuiet_nil ?_
            intro wc hwc
            go_wp2_with fail
            go_ret2
            exact ⟨_, rfl, ents_nil _, hwc.2.2.1⟩
        · have HN : Hid (∀ j, j < p + 1 → ∀ k, k < nb → Ky.compare (lat a j).1 (lat b k).1 < 0) := by
            intro j hj
            by_cases hjp : j < p
            · exact hap.out j hjp
            · obtain rfl : j = p := by omega
              exact fun k2 hk2 => hin.out k2 (by omega)
          go_wp2_with fail
          go_roundw
          case rel => exact ⟨p + 1, by omega, by go_num, HN, hbel2.out⟩
          case measure => simp [intOf]; omega
    · obtain rfl : p = na := by omega
      have HAP : Hid (apartB a b = true) := by
        show _ = _
        unfold apartB
        exact decide_eq_true fun i hi k hk => hap.out i (by rw [← HL.out]; exact hi) k (by rw [← HL'.out]; exact hk)
      have q2 := IntWalk.i64_in ((p : Int) + (nb : Int)) (by have := H64.out; omega)
      by_cases h64 : p + nb ≤ 64
      · have d1 : decide (64 < (p : Int) + (nb : Int)) = false := decide_eq_false (by omega)
        obtain ⟨rfl, rfl⟩ : m = a ++ b ∧ er = 0 := by
          rcases HJ.out with ⟨h0 | h0, _⟩ | ⟨_, _, h0, _⟩ | ⟨_, _, _, h0, _⟩ | ⟨_, _, _, _, h1, h2⟩
          · rw [← HRAE.out] at h0; cases h0
          · rw [← HRBE.out] at h0; cases h0
          · rw [HAP.out] at h0; cases h0
          · rw [HL.out, HL'.out] at h0; omega
          · exact ⟨h1, h2⟩
        have HLN : Hid (es.length = p ∧ es'.length = nb) := ⟨HE.out.1.trans HL.out, HE'.out.1.trans HL'.out⟩
        have HBEL := Lib.hid hbel.out
        clear hap hbel
        rename_i wz
        go_wp2_with (at_builtin; first
          | (refine wpList_append_ents rfl _ _ rfl w.heap.size _ _ es es' rfl hf1.out.1 rfl (HVB.out.next hf1.out.2) HONE.out.2 (by have := HLN.out; omega) hf1.out.2.size ?_; intro v2 w4 ho2 hg2; have hf2 : Hid (OwnsE w4 w.heap.size v2 (es ++ es') ∧ Below w.heap.size w w4) := ⟨ho2, hf1.out.2.grown hg2 hf1.out.2.size (fun k hk => (OwnsE.block hf1.out.1 k hk).1)⟩; clear ho2 hg2)
          | (refine wpList_append_ents rfl _ _ rfl w.heap.size _ _ [] es rfl (OwnsE.nil _ _) rfl (HVA.out.next HBEL.out) HONE.out.1 (by have := HLN.out; simp; omega) HBEL.out.size ?_; intro v1 w3 ho1 hg1; have hf1 : Hid (OwnsE w3 w.heap.size v1 es ∧ Below w.heap.size w w3) := ⟨ho1, HBEL.out.grown hg1 HBEL.out.size (fun k hk => by cases hk)⟩; clear ho1 hg1))
        go_ret2
        exact ⟨v2, rfl, own_ents hf2.out.1 ((HE.out.old.next hf2.out.2).app (HE'.out.old.next hf2.out.2)), hf2.out.2⟩
      · have d1 : decide (64 < (p : Int) + (nb : Int)) = true := decide_eq_true (by omega)
        obtain ⟨rfl, rfl⟩ : m = [] ∧ er = 6 := by
          rcases HJ.out with ⟨h0 | h0, _⟩ | ⟨_, _, h0, _⟩ | ⟨_, _, _, _, h1, h2⟩ | ⟨_, _, _, h0, _⟩
          · rw [← HRAE.out] at h0; cases h0
          · rw [← HRBE.out] at h0; cases h0
          · rw [HAP.out] at h0; cases h0
          · exact ⟨h1, h2⟩
          · rw [HL.out, HL'.out] at h0; omega
        go_wp2_with fail
        go_ret2
        exact ⟨_, rfl, ents_nil _, hbel.out⟩

end Go.Proofs.YtkmmifonandkoaaDoor

/-
  What the laws of indexes ask of package index's functions: their contracts' forms.
-/
set_option linter.unusedVariables false
namespace Go.Proofs.YtkmmifonandkoaaDoor
open Go.RowKit

/-- What is alive in an index; nothing in one that is not right. -/
noncomputable def alI (l : List Ent) (lo hi : ByteArray) (x y z : Int) : List Itm := if rightI l then aliveL l lo hi x y z else []
/-- The version of a key at a stamp. -/
def IsRead (l : List Ent) (k : ByteArray) (x y z : Int) (u : Ver) (ok : Bool) : Prop :=
  (rightI l = false ∧ u = ver0 ∧ ok = false) ∨ (rightI l = true ∧ ∃ n, IsPos l k n ∧ IsAt (chainOf l k n) x y z u ok)
theorem read_ex (l : List Ent) (k : ByteArray) (x y z : Int) : ∃ u ok, IsRead l k x y z u ok := by
  cases h : rightI l
  · exact ⟨_, _, .inl ⟨h, rfl, rfl⟩⟩
  · obtain ⟨n, hn⟩ := pos_ex h k
    obtain ⟨u, ok, hu⟩ := at_ex (chainOf l k n) x y z
    exact ⟨u, ok, .inr ⟨h, n, hn, hu⟩⟩
noncomputable def prI (l : List Ent) (x y z : Int) : List Ent := if rightI l then pruneI l x y z else []
def cutL (l : List Ent) (n : Nat) : List Ent := if rightI l then l.take n else []
def cutR (l : List Ent) (n : Nat) : List Ent := if rightI l then l.drop n else []
theorem cut_ex' (l : List Ent) (a : ByteArray) : ∃ n, rightI l = true → IsPos l a n := by
  cases h : rightI l
  · exact ⟨0, fun h => by cases h⟩
  · obtain ⟨n, hn⟩ := pos_ex h a
    exact ⟨n, fun _ => hn⟩

def FIRight : Prop := ∀ (W : World) (v : Value) (l : List Ent), UtfAt W → Ents W v l → Calls Tryd.prog 16 #[v] W fun e w' => e = .returned (.bool (rightI l)) ∧ Below W.heap.size W w'
def FIPut : Prop := ∀ (W : World) (v : Value) (l : List Ent) (k : ByteArray) (a b c : Int) (g : Bool) (s : ByteArray) (m : List Ent) (e : Int), UtfAt W → Ents W v l → IsPut l k (a, b, c, g, s) m e →
  Calls Tryd.prog 13 #[v, .string k, (Go.Value.agg #[Go.Value.int Go.IntKind.i64 a, Go.Value.int Go.IntKind.i64 b, Go.Value.int Go.IntKind.i64 c, Go.Value.bool g, Go.Value.string s])] W fun e' w' => ∃ v', e' = .returned (.tuple #[v', .int .i64 e]) ∧ Ents w' v' m ∧ Below W.heap.size W w'
def FIRead : Prop := ∀ (W : World) (v : Value) (l : List Ent) (k : ByteArray) (x y z a b c : Int) (g : Bool) (s : ByteArray) (ok : Bool), UtfAt W → Ents W v l → IsRead l k x y z (a, b, c, g, s) ok →
  Calls Tryd.prog 18 #[v, .string k, (Go.Value.agg #[Go.Value.int Go.IntKind.i64 x, Go.Value.int Go.IntKind.i64 y, Go.Value.int Go.IntKind.i64 z])] W fun e w' => e = .returned (.tuple #[(Go.Value.agg #[Go.Value.int Go.IntKind.i64 a, Go.Value.int Go.IntKind.i64 b, Go.Value.int Go.IntKind.i64 c, Go.Value.bool g, Go.Value.string s]), .bool ok]) ∧ Below W.heap.size W w'
def FIPage : Prop := ∀ (W : World) (v : Value) (l : List Ent) (lo hi : ByteArray) (x y z lim : Int), UtfAt W → Ents W v l → (-9223372036854775808 ≤ lim ∧ lim ≤ 9223372036854775807) →
  Calls Tryd.prog 21 #[v, .string lo, .string hi, (Go.Value.agg #[Go.Value.int Go.IntKind.i64 x, Go.Value.int Go.IntKind.i64 y, Go.Value.int Go.IntKind.i64 z]), .int .i64 lim] W fun e w' => ∃ v', e = .returned (.tuple #[v', .string (pgK (alI l lo hi x y z) lim), .bool (pgM (alI l lo hi x y z) lim)]) ∧ Itms w' v' (pgL (alI l lo hi x y z) lim) ∧ Below W.heap.size W w'
def FIPrune : Prop := ∀ (W : World) (v : Value) (l : List Ent) (x y z : Int), UtfAt W → Ents W v l →
  Calls Tryd.prog 24 #[v, (Go.Value.agg #[Go.Value.int Go.IntKind.i64 x, Go.Value.int Go.IntKind.i64 y, Go.Value.int Go.IntKind.i64 z])] W fun e w' => ∃ v', e = .returned v' ∧ Ents w' v' (prI l x y z) ∧ Below W.heap.size W w'
def FICut : Prop := ∀ (W : World) (v : Value) (l : List Ent) (a : ByteArray) (n : Nat), UtfAt W → Ents W v l → (rightI l = true → IsPos l a n) →
  Calls Tryd.prog 26 #[v, .string a] W fun e w' => ∃ v1 v2, e = .returned (.tuple #[v1, v2]) ∧ Ents w' v1 (cutL l n) ∧ Ents w' v2 (cutR l n) ∧ Below W.heap.size W w'
def FIJoin : Prop := ∀ (W : World) (va vb : Value) (a b m : List Ent) (e : Int), UtfAt W → Ents W va a → Ents W vb b → IsJoin a b m e →
  Calls Tryd.prog 28 #[va, vb] W fun e' w' => ∃ v', e' = .returned (.tuple #[v', .int .i64 e]) ∧ Ents w' v' m ∧ Below W.heap.size W w'

/-! ### What the guard of the laws gives -/
theorem small_keys {l : List Ent} (h : smallI l = true) : l.length ≤ 80 ∧ ∀ i, i < l.length → (lat l i).1.size ≤ 1048576 :=
  ⟨(smallI_spec h).1, fun i hi => Nat.le_trans ((smallI_spec h).2 i hi).2 (by omega)⟩
theorem ents_slice {w : World} {v : Value} {l : List Ent} (h : Ents w v l) : ∃ ao cap, v = .slice ao l.length cap := by
  obtain ⟨es, ⟨ao, cap, rfl, _⟩, h2⟩ := h
  exact ⟨ao, cap, by rw [h2.1]⟩
theorem itms_slice {w : World} {v : Value} {l : List Itm} (h : Itms w v l) : ∃ ao cap, v = .slice ao l.length cap := by
  obtain ⟨ao, cap, rfl, _⟩ := h
  exact ⟨ao, cap, rfl⟩

end Go.Proofs.YtkmmifonandkoaaDoor

/-
  A region that draws its order, whose first operations read what lies still or call functions that keep a class of worlds, and whose others come behind them all, one behind the other: one walk of the first ones, then the others in their order, in whatever world of the class.
-/
set_option linter.unusedVariables false
namespace Go.Proofs.YtkmmifonandkoaaDoor
open Go.RowKit

section
variable {P : Program} {ops : Array Oper} {md : Region.Mode} {C : World → Prop}

/-- The first f operations, in whatever order, each below n and quiet in the class; then L. -/
def Heads (P : Program) (md : Region.Mode) (ops : Array Oper) (C : World → Prop) (n : Nat) (L : Array Bool → Act → Prop) : Nat → Array Bool → Act → Prop
  | 0, listed, a => L listed a
  | f + 1, listed, a => Region.ready md ops listed ≠ [] ∧ ∀ i ∈ Region.ready md ops listed, i < n ∧ qOp P ops C i (Heads P md ops C n L f (listed.setIfInBounds i true)) a

theorem Heads.any {n g : Nat} {L : Array Bool → Act → Prop} {Q : Exit → Act → World → Prop} (hL : ∀ listed a w, C w → L listed a → wpAny P md ops Q g listed a w) :
    ∀ (f : Nat) (listed : Array Bool) (a : Act) (w : World), C w → Heads P md ops C n L f listed a → wpAny P md ops Q (f + g) listed a w := by
  intro f
  induction f with
  | zero => intro listed a w hw h; rw [Nat.zero_add]; exact hL _ _ _ hw h
  | succ f ih =>
    intro listed a w hw h
    rw [Nat.add_right_comm]
    exact ⟨fun h0 => absurd h0 h.1, fun i hi => wpOp_of_qOp hw (fun a' w' hw' h' => ih _ a' w' hw' h') (h.2 i hi).2⟩

theorem Heads.first {n i : Nat} {oi : Oper} {v : Value} {L : Array Bool → Act → Prop} (hi : ops[i]? = some oi) (hsel : ∀ (j : Nat) (o : Oper) cs b, ops[j]? = some o → o.op ≠ .select cs b)
    (hs : Region.sinkB md ops n = true) (hc : Region.chainB md ops n = true) (hn : n < ops.size) (hin : i < n) (hdone : ∀ listed a, L listed a → ∀ j ∈ Region.ready md ops listed, n ≤ j) :
    ∀ (f : Nat) (listed : Array Bool) (a : Act), HeadInv md ops n listed →
      (∀ j oj, ops[j]? = some oj → j ≠ i → listed.getD j true = false → (∀ e ∈ oj.after, Region.binds md e = true → e.on ≠ i) → oi.apart ops oj = true) →
      i ∈ Region.ready md ops listed → YieldsIn P ops C oi v a →
      Heads P md ops C n L f (listed.setIfInBounds i true) (a.put oi.dst v) → Heads P md ops C n L (f + 1) listed a := by
  intro f
  induction f with
  | zero =>
    intro listed a inv _ hr hy H
    refine ⟨fun h => (by rw [h] at hr; cases hr), fun j hj => ?_⟩
    have hjn : j < n := Nat.lt_of_not_le fun h => tail_waits hs hc hn inv _ i rfl hin (mem_ready.1 hr).1 j h hj
    refine ⟨hjn, ?_⟩
    by_cases hji : j = i
    · subst hji; exact hy.qOp hi H
    · exact absurd (hdone _ _ H j (ready_mono hj hji)) (by omega)
  | succ f ih =>
    intro listed a inv hfree hr hy H
    refine ⟨fun h => (by rw [h] at hr; cases hr), fun j hj => ?_⟩
    have hun := (mem_ready.1 hr).1
    have hjn : j < n := Nat.lt_of_not_le fun h => tail_waits hs hc hn inv _ i rfl hin hun j h hj
    refine ⟨hjn, ?_⟩
    by_cases hji : j = i
    · subst hji; exact hy.qOp hi H
    obtain ⟨hjun, oj, hoj, hall⟩ := mem_ready.1 hj
    have hnot : ∀ e ∈ oj.after, Region.binds md e = true → e.on ≠ i := by
      intro e he hb heq
      have h1 := hall e he hb
      rw [heq, getD_both hun] at h1
      cases h1
    refine qOp_mono (fun a' h3 => ih (listed.setIfInBounds j true) a' (inv.set hj hjn) (fun k ok hk hki hku hno => ?_) (ready_mono hr (Ne.symm hji)) h3.1 ?_)
      (qOp_put hoj (hfree j oj hoj hji hjun hnot) (fun cs b => hsel i oi cs b hi) (fun cs b => hsel j oj cs b hoj) hy (H.2 j (ready_mono hj hji)).2)
    · refine hfree k ok hk hki ?_ hno
      by_cases hjk : j = k
      · subst hjk; exact hjun
      · rw [getD_set_ne true hjk] at hku; exact hku
    · rw [Array.setIfInBounds_comm _ _ hji]
      exact h3.2

theorem Heads.lex {n g : Nat} {Lq : Act → Prop} (hsel : Region.noSelect ops = true) (hs : Region.sinkB md ops n = true) (hc : Region.chainB md ops n = true) (hn : n < ops.size) :
    ∀ (l : List Oper) (k : Nat) (listed : Array Bool) (a : Act), (∀ j, j < l.length → l[j]? = ops[k + j]?) → k + l.length = n → HeadInv md ops n listed →
    Region.lexHead md ops g l.length k listed = true → wpQuiet P ops C Lq l a →
    Heads P md ops C n (fun listed' a' => Region.seqB md ops g n listed' = true ∧ Lq a') l.length listed a := by
  intro l
  induction l with
  | nil =>
    intro k listed a _ hk _ hB h
    obtain rfl : k = n := by simpa using hk
    exact ⟨by simpa [Region.lexHead] using hB, h⟩
  | cons o l ih =>
    intro k listed a hl hk inv hB h
    have h0 : ops[k]? = some o := by simpa using (hl 0 (by simp)).symm
    simp only [List.length_cons, Region.lexHead, Bool.and_eq_true] at hB hk
    have hr : k ∈ Region.ready md ops listed := by simpa using hB.1.1
    have hq : qOp P ops C k (wpQuiet P ops C Lq l) a := by unfold qOp; simp only [h0]; exact h
    obtain ⟨v, hy, hK⟩ := yieldsIn_of_qOp h0 hq
    exact Heads.first h0 (Region.noSelect_spec hsel) hs hc hn (by omega) (fun listed' a' hL => seqB_ready hL.1) l.length listed a inv (Region.free_spec h0 hB.1.2) hr hy
      (ih (k + 1) _ _ (fun j hj => by have := hl (j + 1) (by simp; omega); simpa [Nat.add_assoc, Nat.add_comm 1 j] using this) (by omega) (inv.set hr (by omega)) hB.2 hK)

theorem wp_region_calm_tail {id : Nat} {Q : Exit → Act → World → Prop} {a : Act} {w : World} {l : List Oper} (n : Nat) (C : World → Prop) (hm : P.follows .mixedOrders = true) (hB : Region.lexTailB .any l.toArray n = true) (hC : C w.drew)
    (h : wpQuiet P l.toArray C (fun a' => ∀ w', C w' → wpList P l.toArray Q (l.drop n) a' w') (l.take n) a) : (Code.region id l.toArray true).wp P Q a w := by
  simp only [Region.lexTailB, Bool.and_eq_true, decide_eq_true_eq] at hB
  obtain ⟨⟨⟨⟨hsel, hn⟩, hs⟩, hc⟩, hlex⟩ := hB
  have hn' : n < l.length := by simpa using hn
  have htl : (l.take n).length = n := by simp; omega
  have hdl : (l.drop n).length = l.toArray.size - n := by simp
  have inv0 : HeadInv .any l.toArray n (Array.replicate l.toArray.size false) :=
    ⟨by simp, fun j oj _ hl => (by rw [getD_replicate_false] at hl; cases hl), fun t _ ht => getD_in (by simpa using ht) (getD_replicate_false _ _)⟩
  have H := Heads.lex (md := .any) (g := l.toArray.size - n) hsel hs hc hn (l.take n) 0 _ a (fun j hj => by
    have hj' : j < n := by rw [htl] at hj; exact hj
    simp [hj']) (by simpa using htl) inv0 (by rw [htl]; exact hlex) h
  have H2 := Heads.any (Q := Q) (g := l.toArray.size - n) (fun listed a' w' hw' hL => by
    have h3 := wpAny_of_seq (md := .any) (Q' := Q) (l.drop n) n listed a' w' (fun j => by simp [List.getElem?_drop]) (by rw [hdl]; exact hL.1) (hL.2 w' hw')
    rwa [hdl] at h3) _ _ _ w.drew hC H
  rw [htl, show n + (l.toArray.size - n) = l.toArray.size by omega] at H2
  exact wp_region_any hm H2
end

end Go.Proofs.YtkmmifonandkoaaDoor

/-
  The contract of index.Read.
-/
set_option linter.unusedVariables false
namespace Go.Proofs.YtkmmifonandkoaaDoor
open Go.RowKit

set_option maxRecDepth 100000 in
set_option maxHeartbeats 1000000 in
theorem iRead_bad (w : World) (v : Value) (k : ByteArray) (x y z : Int) (HR : Hid (∀ W, Below w.heap.size w W → Calls Tryd.prog 16 #[v] W fun e w' => e = .returned (.bool false) ∧ Below W.heap.size W w')) :
    Calls Tryd.prog 18 #[v, .string k, (Go.Value.agg #[Go.Value.int Go.IntKind.i64 x, Go.Value.int Go.IntKind.i64 y, Go.Value.int Go.IntKind.i64 z])] w fun e w' => e = .returned (.tuple #[verV ver0, .bool false]) ∧ Below w.heap.size w w' := by
  go_enter Tryd.func18, Tryd.ntmps18
  go_upto_region 1 with (fail)
  obtain ⟨w2, H2, HW2⟩ : ∃ w2, Hid (At2 w x y z ver0 w2) ∧ Hid (((w.alloc (.cells #[.int .i64 x, .int .i64 y, .int .i64 z] 24)).alloc (.cells #[.int .i64 0, .int .i64 0, .int .i64 0, .bool false, .string ({ data := #[] })] 26)) = w2) := ⟨_, At2.new w x y z, rfl⟩
  rw [HW2.out]
  clear HW2
  go_wp2_with fail
  refine (HR.out _ H2.out.1).mono ?_
  rintro e w3 ⟨rfl, hb3⟩
  have H3 : Hid (At2 w x y z ver0 w3) := H2.out.next hb3
  clear hb3 H2
  go_wp2_with (refine vbox_store (w.heap.size + 1) H3.out.2.2 rfl _ _ rfl rfl rfl ?_)
  exact bodyPost_ret (vbox_result2 rfl _ _ (w.heap.size + 1) rfl (H3.out.2.2.set 0 0 0 false { data := #[] })) rfl ⟨rfl, below_setRow H3.out.1 (by omega) _⟩

set_option maxRecDepth 100000 in
set_option maxHeartbeats 1000000 in
theorem iRead_none (w : World) (v : Value) (k : ByteArray) (x y z : Int) (n : Nat) (HR : Hid (∀ W, Below w.heap.size w W → Calls Tryd.prog 16 #[v] W fun e w' => e = .returned (.bool true) ∧ Below W.heap.size W w'))
    (HF : Hid (∀ W, Below w.heap.size w W → Calls Tryd.prog 32 #[v, .string k] W fun e w' => e = .returned (.tuple #[.int .i64 n, .bool false]) ∧ Below W.heap.size W w')) :
    Calls Tryd.prog 18 #[v, .string k, (Go.Value.agg #[Go.Value.int Go.IntKind.i64 x, Go.Value.int Go.IntKind.i64 y, Go.Value.int Go.IntKind.i64 z])] w fun e w' => e = .returned (.tuple #[verV ver0, .bool false]) ∧ Below w.heap.size w w' := by
  go_enter Tryd.func18, Tryd.ntmps18
  go_upto_region 1 with (fail)
  obtain ⟨w2, H2, HW2⟩ : ∃ w2, Hid (At2 w x y z ver0 w2) ∧ Hid (((w.alloc (.cells #[.int .i64 x, .int .i64 y, .int .i64 z] 24)).alloc (.cells #[.int .i64 0, .int .i64 0, .int .i64 0, .bool false, .string ({ data := #[] })] 26)) = w2) := ⟨_, At2.new w x y z, rfl⟩
  rw [HW2.out]
  clear HW2
  go_wp2_with fail
  refine (HR.out _ H2.out.1).mono ?_
  rintro e w3 ⟨rfl, hb3⟩
  have H3 : Hid (At2 w x y z ver0 w3) := H2.out.next hb3
  clear hb3 H2
  go_wp2_with fail
  refine (HF.out _ H3.out.1).mono ?_
  rintro e w4 ⟨rfl, hb4⟩
  have H4 : Hid (At2 w x y z ver0 w4) := H3.out.next hb4
  clear hb4 H3
  go_wp2_with (refine vbox_store (w.heap.size + 1) H4.out.2.2 rfl _ _ rfl rfl rfl ?_)
  exact bodyPost_ret (vbox_result2 rfl _ _ (w.heap.size + 1) rfl (H4.out.2.2.set 0 0 0 false { data := #[] })) rfl ⟨rfl, below_setRow H4.out.1 (by omega) _⟩

/-- The boxes, and a chain of the row. -/
def RwC (w : World) (b o : Nat) (u : Value) (x y z : Int) (W : World) : Prop := b < w.heap.size ∧ At2 w x y z ver0 W ∧ W.cell? ⟨b, o + 1, none⟩ = some u
theorem RwC.next {w W W' : World} {b o : Nat} {u : Value} {x y z : Int} (H : RwC w b o u x y z W) (hb : Below W.heap.size W W') : RwC w b o u x y z W' := by
  have := H.2.1.1.size
  exact ⟨H.1, H.2.1.next hb, (hb.cell (p := ⟨b, o + 1, none⟩) (by show b < _; have := H.1; omega)).trans H.2.2⟩

set_option maxRecDepth 100000 in
set_option maxHeartbeats 1000000 in
theorem iRead_there (w : World) (b off m cap : Nat) (k : ByteArray) (x y z : Int) (n : Nat) (hnm : n < m) (u : Value) (a' b' c' : Int) (g' : Bool) (s' : ByteArray) (ok : Bool)
    (HR : Hid (∀ W, Below w.heap.size w W → Calls Tryd.prog 16 #[.slice (some ⟨b, off, none⟩) m cap] W fun e w' => e = .returned (.bool true) ∧ Below W.heap.size W w'))
    (HF : Hid (∀ W, Below w.heap.size w W → Calls Tryd.prog 32 #[.slice (some ⟨b, off, none⟩) m cap, .string k] W fun e w' => e = .returned (.tuple #[.int .i64 n, .bool true]) ∧ Below W.heap.size W w'))
    (HA : Hid (∀ W, Below w.heap.size w W → Calls Tryd.prog 44 #[u, (Go.Value.agg #[Go.Value.int Go.IntKind.i64 x, Go.Value.int Go.IntKind.i64 y, Go.Value.int Go.IntKind.i64 z])] W fun e w' => e = .returned (.tuple #[(Go.Value.agg #[Go.Value.int Go.IntKind.i64 a', Go.Value.int Go.IntKind.i64 b', Go.Value.int Go.IntKind.i64 c', Go.Value.bool g', Go.Value.string s']), .bool ok]) ∧ Below W.heap.size W w'))
    (HC : Hid (∀ W, At2 w x y z ver0 W → RwC w b (off + n * 2) u x y z W)) :
    Calls Tryd.prog 18 #[.slice (some ⟨b, off, none⟩) m cap, .string k, (Go.Value.agg #[Go.Value.int Go.IntKind.i64 x, Go.Value.int Go.IntKind.i64 y, Go.Value.int Go.IntKind.i64 z])] w fun e w' => e = .returned (.tuple #[(Go.Value.agg #[Go.Value.int Go.IntKind.i64 a', Go.Value.int Go.IntKind.i64 b', Go.Value.int Go.IntKind.i64 c', Go.Value.bool g', Go.Value.string s']), .bool ok]) ∧ Below w.heap.size w w' := by
  go_enter Tryd.func18, Tryd.ntmps18
  go_upto_region 1 with (fail)
  obtain ⟨w2, H2, HW2⟩ : ∃ w2, Hid (At2 w x y z ver0 w2) ∧ Hid (((w.alloc (.cells #[.int .i64 x, .int .i64 y, .int .i64 z] 24)).alloc (.cells #[.int .i64 0, .int .i64 0, .int .i64 0, .bool false, .string ({ data := #[] })] 26)) = w2) := ⟨_, At2.new w x y z, rfl⟩
  rw [HW2.out]
  clear HW2
  go_wp2_with fail
  refine (HR.out _ H2.out.1).mono ?_
  rintro e w3 ⟨rfl, hb3⟩
  have H3 : Hid (At2 w x y z ver0 w3) := H2.out.next hb3
  clear hb3 H2
  go_wp2_with fail
  refine (HF.out _ H3.out.1).mono ?_
  rintro e w4 ⟨rfl, hb4⟩
  have H4 : Hid (RwC w b (off + n * 2) u x y z w4) := HC.out _ (H3.out.next hb4)
  clear hb4 H3
  go_upto_region 6 with (fail)
  refine wp_region_calm_tail 9 (RwC w b (off + n * 2) u x y z) (by kernel_rfl) (by kernel_rfl) (H4.out.next (Below.refl _ _).drew) ?_
  simp only [List.take_succ_cons, List.take_zero, List.drop_succ_cons, List.drop_zero]
  repeat ((with_reducible refine wpQuiet_step (fun K hK => ?_)); go_simp; first | (refine hK _ ?_; clear hK K) | (apply Exists.intro; refine ⟨fun wc hwc => ?_, hK _ ?_⟩; (focus (first | (first | (go_at_call 44; refine (HA.out _ hwc.2.1.1).mono ?_; rintro e w1 ⟨rfl, hb1⟩; exact ⟨rfl, hwc.next hb1⟩)) | (((obtain ⟨_, h2, z0⟩ := hwc; obtain ⟨x0, x1, x2⟩ := h2.2.1.cell; clear h2)); go_simp; done) | (((obtain ⟨_, h2, z0⟩ := hwc; obtain ⟨x0, x1, x2⟩ := h2.2.1.cell; clear h2)); go_simp; exact rfl))); clear hK K))
  refine wpQuiet_nil ?_
  intro wc hwc
  have H5 := Lib.hid hwc.2.1
  clear hwc
  go_wp2_with (refine vbox_store (w.heap.size + 1) H5.out.2.2 rfl _ _ rfl rfl rfl ?_)
  exact bodyPost_ret (vbox_result2 rfl _ _ (w.heap.size + 1) rfl (H5.out.2.2.set a' b' c' g' s')) rfl ⟨rfl, below_setRow H5.out.1 (by omega) _⟩

theorem at_none {x y z : Int} {u : Ver} {ok : Bool} (h : IsAt [] x y z u ok) : u = ver0 ∧ ok = false := by
  rcases h with ⟨_, h1, h2⟩ | ⟨_, _, h1, h2⟩ | ⟨_, _, n, h1, _⟩
  · exact ⟨h1, h2⟩
  · exact ⟨h1, h2⟩
  · have := h1.1
    simp at this

theorem fIRead : FIRead := by
  intro w v l k x y z a b c g s ok hT h hrd
  have HR : ∀ r, rightI l = r → Hid (∀ W, Below w.heap.size w W → Calls Tryd.prog 16 #[v] W fun e w' => e = .returned (.bool r) ∧ Below W.heap.size W w') := fun r hr => by
    show ∀ W, _ → _
    intro W hW
    rw [← hr]
    exact iRight_any (hT.next hW) (h.next hW)
  rcases hrd with ⟨hr, hu, rfl⟩ | ⟨hr, n, hn, hat⟩
  · have h1 := iRead_bad w v k x y z (HR false hr)
    rw [← hu] at h1
    exact h1
  · have HF : ∀ t, thereB l k n = t → Hid (∀ W, Below w.heap.size w W → Calls Tryd.prog 32 #[v, .string k] W fun e w' => e = .returned (.tuple #[.int .i64 n, .bool t]) ∧ Below W.heap.size W w') := fun t ht => by
      show ∀ W, _ → _
      intro W hW
      rw [← ht]
      exact find_any (hT.next hW) (h.next hW) (rightI_spec hr).1 hn
    cases ht : thereB l k n
    · unfold chainOf at hat
      rw [ht] at hat
      obtain ⟨hu, rfl⟩ := at_none hat
      have h1 := iRead_none w v k x y z n (HR true hr) (HF false ht)
      rw [← hu] at h1
      exact h1
    · unfold chainOf at hat
      rw [ht] at hat
      simp only [if_true] at hat
      have hnl := (there_yes ht).1
      have HR' := HR true hr
      have HF' := HF true ht
      clear HR HF
      obtain ⟨ao, m, cap, es, rfl, hl, hle, hmx, hm, hrow, hlead⟩ := h.opened
      obtain ⟨b0, off, rfl, hb, hcl⟩ := hrow (by omega)
      refine iRead_there w b0 off m cap k x y z n (by omega) (eat es n).2 a b c g s ok HR' HF' ?_ ?_
      · show ∀ W, _ → _
        intro W hW
        exact CAt_any ((hlead.2 n hnl).2.next hW) hat
      · show ∀ W, _ → _
        intro W hW
        exact ⟨hb, hW, ((hcl n (by omega)).next hW.1 hb).2⟩

end Go.Proofs.YtkmmifonandkoaaDoor
