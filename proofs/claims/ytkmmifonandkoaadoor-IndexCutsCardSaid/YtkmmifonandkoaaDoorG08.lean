/-
  Merged texts, in build order: InPage VrPrune InPrune RgInv RgStep InCopied InCut InConcat InJoin VrAdd.
-/
import Derived.Test.YtkmmifonandkoaaDoorG06
import Derived.Test.YtkmmifonandkoaaDoorG07
import Derived.Test.YtkmmifonandkoaaDoorG03
import Derived.OwnWalk
import Derived.Test.YtkmmifonandkoaaDoorG04
import Derived.Test.YtkmmifonandkoaaDoorG01
import Derived.Orders
import Derived.Laws.Rows
import Derived.Laws.Tables
import Derived.Deep.AppendLies

/-
  The contract of index.Page.
-/
set_option linter.unusedVariables false
namespace Go.Proofs.YtkmmifonandkoaaDoor
open Go.RowKit

/-- What a round of Page knows: the stamp's box, the entry's block, the row of one's own. -/
def PjRel (w : World) (hs : Nat) (x y z : Int) (h : Nat) (s : ByteArray) (u : Value) (lv : Value) (ms : List Itm) (W : World) : Prop :=
  Below w.heap.size w W ∧ Box W hs x y z ∧ EBox W h s u ∧ OwnsM W w.heap.size lv ms
theorem PjRel.next {w W W' : World} {hs h : Nat} {x y z : Int} {s : ByteArray} {u lv : Value} {ms : List Itm} (H : PjRel w hs x y z h s u lv ms W) (hb : Below W.heap.size W W') : PjRel w hs x y z h s u lv ms W' := by
  obtain ⟨h1, h2, h3, h4⟩ := H
  exact ⟨h1.trans (hb.mono h1.size), h2.over hb, h3.over hb, h4.next hb⟩
theorem OwnsM.block {w : World} {B : Nat} {v : Value} {l : List Itm} (h : OwnsM w B v l) : ∀ k, v.ownBlock = some k → B ≤ k ∧ ∃ cs, w.heap[k]? = some (.cells cs 62 (0, 0)) := by
  intro k hk
  rcases h.2 with ⟨rfl, _⟩ | ⟨g, cap, cur, rfl, hB, hg, _⟩
  · cases hk
  · simp only [Value.ownBlock, Option.some.injEq] at hk
    subst hk
    exact ⟨hB, cur, hg⟩

/-! ### What is alive from a place on -/
theorem in_from {l : List Ent} {lo hi : ByteArray} {n i : Nat} (hn : IsPos l lo n) (hi1 : n ≤ i) (hi2 : i < l.length) : inR (lat l i).1 lo hi = (decide (hi.size = 0) || decide (Ky.compare (lat l i).1 hi < 0)) := by
  unfold inR
  rw [decide_eq_true (hn.2.2 i hi1 hi2), Bool.true_and]
theorem alive_ahead {l : List Ent} {lo hi : ByteArray} {n : Nat} (hn : IsPos l lo n) (x y z : Int) : aliveL (l.take n) lo hi x y z = [] := by
  unfold aliveL
  rw [List.map_eq_nil_iff, List.filter_eq_nil_iff]
  intro e he
  obtain ⟨i, hi1, rfl⟩ := lat_mem he
  rw [List.length_take] at hi1
  rw [lat_take l (by omega)]
  have h1 := hn.2.1 i (by omega)
  unfold aliveB inR
  rw [decide_eq_false (by omega), Bool.false_and, Bool.and_false]
  simp
/-- Behind a key that is past hi nothing is in the range. -/
theorem alive_past {l : List Ent} (hr : rightI l = true) {lo hi : ByteArray} {n k : Nat} (hk : k < l.length) (h0 : ¬ hi.size = 0) (hp : 0 ≤ Ky.compare (lat l k).1 hi) (x y z : Int) : aliveL l lo hi x y z = aliveL (l.take k) lo hi x y z := by
  have e : aliveL (l.drop k) lo hi x y z = [] := by
    unfold aliveL
    rw [List.map_eq_nil_iff, List.filter_eq_nil_iff]
    intro e he
    obtain ⟨i, hi1, rfl⟩ := lat_mem he
    rw [List.length_drop] at hi1
    rw [lat_drop]
    have h1 : 0 ≤ Ky.compare (lat l (k + i)).1 hi := by
      rcases Nat.eq_zero_or_pos i with rfl | hp2
      · exact hp
      · have h2 := key_lt hr (show k < k + i by omega) (by omega)
        rcases Int.lt_or_le (Ky.compare (lat l (k + i)).1 hi) 0 with h3 | h3
        · have := lt_le h2 (Int.le_of_lt h3); omega
        · exact h3
    unfold aliveB inR
    rw [decide_eq_false h0, decide_eq_false (by omega : ¬ Ky.compare (lat l (k + i)).1 hi < 0), Bool.or_false, Bool.and_false, Bool.and_false]
    simp
  have e2 := alive_app (l.take k) (l.drop k) lo hi x y z
  rw [List.take_append_drop, e, List.append_nil] at e2
  exact e2
/-- The page ends at a key that is alive. -/
theorem page_more {l : List Ent} {lo hi : ByteArray} {x y z : Int} {k : Nat} {lim : Int} (hk : k < l.length) (ha : aliveB lo hi x y z (lat l k) = true) (hl : (aliveL (l.take k) lo hi x y z).length ≤ lim.toNat) (hl2 : lim ≤ ((aliveL (l.take k) lo hi x y z).length : Int)) :
    pgL (aliveL l lo hi x y z) lim = aliveL (l.take k) lo hi x y z ∧ pgK (aliveL l lo hi x y z) lim = (lat l k).1 ∧ pgM (aliveL l lo hi x y z) lim = true := by
  have e := alive_app (l.take (k + 1)) (l.drop (k + 1)) lo hi x y z
  rw [List.take_append_drop, alive_yes hk ha] at e
  have hlen : lim.toNat = (aliveL (l.take k) lo hi x y z).length := by omega
  generalize aliveL (l.take k) lo hi x y z = ms at *
  generalize aliveL (l.drop (k + 1)) lo hi x y z = rs at *
  rw [e]
  have h1 : lim.toNat < (ms ++ [((lat l k).1, valE x y z (lat l k))] ++ rs).length := by simp; omega
  refine ⟨?_, ?_, (pg_some h1).2⟩
  · unfold pgL
    rw [hlen]
    simp
  · rw [(pg_some h1).1, hlen]
    simp [mat, List.getD]

set_option maxRecDepth 100000 in
set_option maxHeartbeats 1000000 in
theorem iPage_bad (w : World) (v : Value) (lo hi : ByteArray) (x y z lim : Int) (HR : Hid (∀ W, Below w.heap.size w W → Calls Tryd.prog 16 #[v] W fun e w' => e = .returned (.bool false) ∧ Below W.heap.size W w')) :
    Calls Tryd.prog 21 #[v, .string lo, .string hi, (Go.Value.agg #[Go.Value.int Go.IntKind.i64 x, Go.Value.int Go.IntKind.i64 y, Go.Value.int Go.IntKind.i64 z]), .int .i64 lim] w fun e w' => e = .returned (.tuple #[.slice none 0 0, .string { data := #[] }, .bool false]) ∧ Below w.heap.size w w' := by
  have H0 : Hid (Below w.heap.size w (w.alloc (.cells #[.int .i64 x, .int .i64 y, .int .i64 z] 24))) := (Below.refl _ _).alloc (Nat.le_refl _) _
  go_enter Tryd.func21, Tryd.ntmps21
  go_wp2_with fail
  refine (HR.out _ H0.out).mono ?_
  rintro e w1 ⟨rfl, hb1⟩
  go_wp2_with fail
  go_ret3
  exact ⟨rfl, H0.out.trans (hb1.mono H0.out.size)⟩

set_option maxRecDepth 100000 in
set_option maxHeartbeats 2000000 in
theorem iPage_empty (w : World) (ao : Option Addr) (m cap n : Nat) (lo hi : ByteArray) (x y z lim : Int) (hnm : n = m) (hmc : m ≤ cap) (hcm : cap ≤ 9223372036854775807)
    (hao : (ao = none ∧ m = 0) ∨ (m = 0 ∧ ∃ ad, ao = some ad) ∨ ∃ b0 off, ao = some ⟨b0, off, none⟩)
    (HR : Hid (∀ W, Below w.heap.size w W → Calls Tryd.prog 16 #[Value.slice ao m cap] W fun e w' => e = .returned (.bool true) ∧ Below W.heap.size W w'))
    (HF : Hid (∀ W, Below w.heap.size w W → Calls Tryd.prog 45 #[Value.slice ao m cap, .string lo] W fun e w' => e = .returned (.int .i64 n) ∧ Below W.heap.size W w')) :
    Calls Tryd.prog 21 #[.slice ao m cap, .string lo, .string hi, (Go.Value.agg #[Go.Value.int Go.IntKind.i64 x, Go.Value.int Go.IntKind.i64 y, Go.Value.int Go.IntKind.i64 z]), .int .i64 lim] w fun e w' => e = .returned (.tuple #[.slice none 0 0, .string { data := #[] }, .bool false]) ∧ Below w.heap.size w w' := by
  subst hnm
  rcases hao with ⟨rfl, rfl⟩ | ⟨rfl, ad, rfl⟩ | ⟨b0, off, rfl⟩
  · have H0 : Hid (Below w.heap.size w (w.alloc (.cells #[.int .i64 x, .int .i64 y, .int .i64 z] 24)) ∧ Box (w.alloc (.cells #[.int .i64 x, .int .i64 y, .int .i64 z] 24)) w.heap.size x y z) := ⟨(Below.refl _ _).alloc (Nat.le_refl _) _, Box.new w x y z⟩
    go_enter Tryd.func21, Tryd.ntmps21
    go_wp2_with fail
    refine (HR.out _ H0.out.1).mono ?_
    rintro e w1 ⟨rfl, hb1⟩
    have H1 : Hid (Below w.heap.size w w1 ∧ Box w1 w.heap.size x y z) := ⟨H0.out.1.trans (hb1.mono H0.out.1.size), H0.out.2.over hb1⟩
    clear hb1 H0 HR
    go_wp2_with fail
    refine (HF.out _ H1.out.1).mono ?_
    rintro e w2 ⟨rfl, hb2⟩
    have H2 : Hid (Below w.heap.size w w2 ∧ Box w2 w.heap.size x y z) := ⟨H1.out.1.trans (hb2.mono H1.out.1.size), H1.out.2.over hb2⟩
    clear hb2 H1 HF
    go_wp2_with fail
    go_loopw [13, 27] (fun lv i wr => lv = .slice none 0 0 ∧ i = .int .i64 0 ∧ Hid (Below w.heap.size w wr)) (fun _ _ _ => 0)
    case atStart => exact ⟨rfl, rfl, H2.out.1⟩
    case round =>
      obtain ⟨rfl, rfl, hbel⟩ := hrel
      go_wp2_with fail
      go_ret3
      exact ⟨rfl, hbel.out⟩
  · have H0 : Hid (Below w.heap.size w (w.alloc (.cells #[.int .i64 x, .int .i64 y, .int .i64 z] 24)) ∧ Box (w.alloc (.cells #[.int .i64 x, .int .i64 y, .int .i64 z] 24)) w.heap.size x y z) := ⟨(Below.refl _ _).alloc (Nat.le_refl _) _, Box.new w x y z⟩
    go_enter Tryd.func21, Tryd.ntmps21
    go_wp2_with fail
    refine (HR.out _ H0.out.1).mono ?_
    rintro e w1 ⟨rfl, hb1⟩
    have H1 : Hid (Below w.heap.size w w1 ∧ Box w1 w.heap.size x y z) := ⟨H0.out.1.trans (hb1.mono H0.out.1.size), H0.out.2.over hb1⟩
    clear hb1 H0 HR
    go_wp2_with fail
    refine (HF.out _ H1.out.1).mono ?_
    rintro e w2 ⟨rfl, hb2⟩
    have H2 : Hid (Below w.heap.size w w2 ∧ Box w2 w.heap.size x y z) := ⟨H1.out.1.trans (hb2.mono H1.out.1.size), H1.out.2.over hb2⟩
    clear hb2 H1 HF
    go_wp2_with fail
    go_loopw [13, 27] (fun lv i wr => lv = .slice none 0 0 ∧ i = .int .i64 0 ∧ Hid (Below w.heap.size w wr)) (fun _ _ _ => 0)
    case atStart => exact ⟨rfl, rfl, H2.out.1⟩
    case round =>
      obtain ⟨rfl, rfl, hbel⟩ := hrel
      go_wp2_with fail
      go_ret3
      exact ⟨rfl, hbel.out⟩
  · rcases Nat.lt_or_ge n cap with hc | hc
    · obtain ⟨c2, hc2⟩ : ∃ c2, cap - n = c2 := ⟨_, rfl⟩
      have q1 : n ≤ cap := by omega
      have q2 : ¬ n = cap := by omega
      have q3 : ¬ cap ≤ n := by omega
      have q4 : ¬ c2 = 0 := by omega
      have H0 : Hid (Below w.heap.size w (w.alloc (.cells #[.int .i64 x, .int .i64 y, .int .i64 z] 24)) ∧ Box (w.alloc (.cells #[.int .i64 x, .int .i64 y, .int .i64 z] 24)) w.heap.size x y z) := ⟨(Below.refl _ _).alloc (Nat.le_refl _) _, Box.new w x y z⟩
      go_enter Tryd.func21, Tryd.ntmps21
      go_wp2_with fail
      refine (HR.out _ H0.out.1).mono ?_
      rintro e w1 ⟨rfl, hb1⟩
      have H1 : Hid (Below w.heap.size w w1 ∧ Box w1 w.heap.size x y z) := ⟨H0.out.1.trans (hb1.mono H0.out.1.size), H0.out.2.over hb1⟩
      clear hb1 H0 HR
      go_wp2_with fail
      refine (HF.out _ H1.out.1).mono ?_
      rintro e w2 ⟨rfl, hb2⟩
      have H2 : Hid (Below w.heap.size w w2 ∧ Box w2 w.heap.size x y z) := ⟨H1.out.1.trans (hb2.mono H1.out.1.size), H1.out.2.over hb2⟩
      clear hb2 H1 HF
      go_wp2_with fail
      go_loopw [13, 27] (fun lv i wr => lv = .slice none 0 0 ∧ i = .int .i64 0 ∧ Hid (Below w.heap.size w wr)) (fun _ _ _ => 0)
      case atStart => exact ⟨rfl, rfl, H2.out.1⟩
      case round =>
        obtain ⟨rfl, rfl, hbel⟩ := hrel
        go_wp2_with fail
        go_ret3
        exact ⟨rfl, hbel.out⟩
    · obtain rfl : n = cap := by omega
      have H0 : Hid (Below w.heap.size w (w.alloc (.cells #[.int .i64 x, .int .i64 y, .int .i64 z] 24)) ∧ Box (w.alloc (.cells #[.int .i64 x, .int .i64 y, .int .i64 z] 24)) w.heap.size x y z) := ⟨(Below.refl _ _).alloc (Nat.le_refl _) _, Box.new w x y z⟩
      go_enter Tryd.func21, Tryd.ntmps21
      go_wp2_with fail
      refine (HR.out _ H0.out.1).mono ?_
      rintro e w1 ⟨rfl, hb1⟩
      have H1 : Hid (Below w.heap.size w w1 ∧ Box w1 w.heap.size x y z) := ⟨H0.out.1.trans (hb1.mono H0.out.1.size), H0.out.2.over hb1⟩
      clear hb1 H0 HR
      go_wp2_with fail
      refine (HF.out _ H1.out.1).mono ?_
      rintro e w2 ⟨rfl, hb2⟩
      have H2 : Hid (Below w.heap.size w w2 ∧ Box w2 w.heap.size x y z) := ⟨H1.out.1.trans (hb2.mono H1.out.1.size), H1.out.2.over hb2⟩
      clear hb2 H1 HF
      go_wp2_with fail
      go_loopw [13, 27] (fun lv i wr => lv = .slice none 0 0 ∧ i = .int .i64 0 ∧ Hid (Below w.heap.size w wr)) (fun _ _ _ => 0)
      case atStart => exact ⟨rfl, rfl, H2.out.1⟩
      case round =>
        obtain ⟨rfl, rfl, hbel⟩ := hrel
        go_wp2_with fail
        go_ret3
        exact ⟨rfl, hbel.out⟩

set_option maxRecDepth 100000 in
set_option maxHeartbeats 2000000 in
theorem iPage_row (w : World) (b off m cap n : Nat) (es : List EntV) (l : List Ent) (lo hi : ByteArray) (x y z lim : Int) (hT : UtfAt w) (hl : l.length = m) (hnm : n < m) (hmc : m ≤ cap) (hcm : cap ≤ 9223372036854775807) (hb : b < w.heap.size) (hcl : ∀ i, i < m → EntAt w b (off + i * 2) (eat es i)) (hlead : Leads w es l) (hr : rightI l = true) (hn : IsPos l lo n) (hlim0 : -9223372036854775808 ≤ lim ∧ lim ≤ 9223372036854775807)
    (HR : Hid (∀ W, Below w.heap.size w W → Calls Tryd.prog 16 #[Value.slice (some ⟨b, off, none⟩) m cap] W fun e w' => e = .returned (.bool true) ∧ Below W.heap.size W w'))
    (HF : Hid (∀ W, Below w.heap.size w W → Calls Tryd.prog 45 #[Value.slice (some ⟨b, off, none⟩) m cap, .string lo] W fun e w' => e = .returned (.int .i64 n) ∧ Below W.heap.size W w')) :
    Calls Tryd.prog 21 #[.slice (some ⟨b, off, none⟩) m cap, .string lo, .string hi, (Go.Value.agg #[Go.Value.int Go.IntKind.i64 x, Go.Value.int Go.IntKind.i64 y, Go.Value.int Go.IntKind.i64 z]), .int .i64 lim] w fun e w' => ∃ v', e = .returned (.tuple #[v', .string (pgK (aliveL l lo hi x y z) lim), .bool (pgM (aliveL l lo hi x y z) lim)]) ∧ Itms w' v' (pgL (aliveL l lo hi x y z) lim) ∧ Below w.heap.size w w' := by
  obtain ⟨i0, hii, hz0, hz1, hz2⟩ := info_parts info_itm
  obtain ⟨r, hrr⟩ : ∃ r, m - n = r := ⟨_, rfl⟩
  obtain ⟨c2, hc2⟩ : ∃ c2, cap - n = c2 := ⟨_, rfl⟩
  obtain ⟨o2, ho2⟩ : ∃ o2, off + n * 2 = o2 := ⟨_, rfl⟩
  have q1 : n ≤ cap := by omega
  have q2 : ¬ n = cap := by omega
  have q3 : ¬ cap ≤ n := by omega
  have q4 : ¬ c2 = 0 := by omega
  have q5 : n ≤ m := by omega
  have HL := Lib.hid hl
  have HCL := Lib.hid hcl
  have HE := Lib.hid hlead
  have HRI := Lib.hid hr
  have HN0 := Lib.hid hn
  have HT := Lib.hid hT
  have HB := Lib.hid hb
  have HO2 := Lib.hid ho2
  have H64 : Hid (l.length ≤ 64) := (rightI_spec hr).1
  clear hl hcl hlead hr hn hT hb
  have H0 : Hid (Below w.heap.size w (w.alloc (.cells #[.int .i64 x, .int .i64 y, .int .i64 z] 24)) ∧ Box (w.alloc (.cells #[.int .i64 x, .int .i64 y, .int .i64 z] 24)) w.heap.size x y z) := ⟨(Below.refl _ _).alloc (Nat.le_refl _) _, Box.new w x y z⟩
  go_enter Tryd.func21, Tryd.ntmps21
  go_wp2_with fail
  refine (HR.out _ H0.out.1).mono ?_
  rintro e w1 ⟨rfl, hb1⟩
  have H1 : Hid (Below w.heap.size w w1 ∧ Box w1 w.heap.size x y z) := ⟨H0.out.1.trans (hb1.mono H0.out.1.size), H0.out.2.over hb1⟩
  clear hb1 H0 HR
  go_wp2_with fail
  refine (HF.out _ H1.out.1).mono ?_
  rintro e w2 ⟨rfl, hb2⟩
  have H2 : Hid (Below w.heap.size w w2 ∧ Box w2 w.heap.size x y z) := ⟨H1.out.1.trans (hb2.mono H1.out.1.size), H1.out.2.over hb2⟩
  clear hb2 H1 HF
  go_wp2_with fail
  go_loopw [13, 27] (fun lv i wr => ∃ k : Nat, k ≤ r ∧ i = .int .i64 k ∧ Hid (Below w.heap.size w wr ∧ Box wr w.heap.size x y z) ∧ Hid (OwnsM wr w.heap.size lv (aliveL (l.take (n + k)) lo hi x y z) ∧ (aliveL (l.take (n + k)) lo hi x y z).length ≤ lim.toNat)) (fun _ i _ => r - (intOf i).toNat)
  case atStart =>
    refine ⟨0, Nat.zero_le _, rfl, H2.out, ?_⟩
    show _ ∧ _
    rw [Nat.add_zero, alive_ahead HN0.out]
    exact ⟨OwnsM.nil _ _, Nat.zero_le _⟩
  case round =>
    obtain ⟨k, hk, rfl, hbel, hown⟩ := hrel
    by_cases hlt : k < r
    · have hkl : n + k < l.length := by rw [HL.out]; omega
      obtain ⟨hkey, hvers⟩ := HE.out.2 (n + k) hkl
      obtain ⟨s, hs⟩ : ∃ s, s = (lat l (n + k)).1 := ⟨_, rfl⟩
      obtain ⟨u, hu⟩ : ∃ u, u = (eat es (n + k)).2 := ⟨_, rfl⟩
      obtain ⟨t, ht⟩ : ∃ t, t = valE x y z (lat l (n + k)) := ⟨_, rfl⟩
      obtain ⟨d, hd⟩ : ∃ d, d = hasE x y z (lat l (n + k)) := ⟨_, rfl⟩
      rw [← hu] at hvers
      obtain ⟨ao', cap', hv⟩ := vers_slice' hvers
      obtain ⟨m', hm'⟩ : ∃ m', m' = (lat l (n + k)).2.length := ⟨_, rfl⟩
      rw [← hm'] at hv
      have HV : Hid (∀ W, Below w.heap.size w W → Calls Tryd.prog 47 #[u, (Go.Value.agg #[Go.Value.int Go.IntKind.i64 x, Go.Value.int Go.IntKind.i64 y, Go.Value.int Go.IntKind.i64 z])] W fun e w' => e = .returned (.tuple #[.string t, .bool d]) ∧ Below W.heap.size W w') := fun W hW => by
        rw [ht, hd]
        exact CValue_any (hvers.next hW) (at_is _ _ _ _)
      have HCMP : Hid (∀ W, Below w.heap.size w W → Calls Tryd.prog 46 #[.string s, .string hi] W fun e w' => e = .returned (.int .i64 (Ky.compare s hi)) ∧ Below W.heap.size W w') := fun W hW => compare_any s hi W (HT.out.next hW)
      have HK : Hid (EntAt wr b (o2 + k * 2) (s, u)) := by
        have := (HCL.out (n + k) (by rw [← HL.out]; exact hkl)).next hbel.out.1 HB.out
        unfold EntAt at this ⊢
        rw [show off + (n + k) * 2 = o2 + k * 2 by rw [← HO2.out]; omega] at this
        rw [hs, hu, ← hkey]; exact this
      subst hv
      have HA : Hid (aliveB lo hi x y z (lat l (n + k)) = (d && inR s lo hi)) := by show _ = _; rw [hd, hs]; rfl
      have HINF : Hid (inR s lo hi = (decide (hi.size = 0) || decide (Ky.compare s hi < 0))) := by
        have h5 := in_from (hi := hi) HN0.out (show n ≤ n + k by omega) hkl
        rw [← hs] at h5
        exact h5
      have HKV : Hid ((lat l (n + k)).1 = s ∧ valE x y z (lat l (n + k)) = t) := ⟨hs.symm, ht.symm⟩
      have HKL := Lib.hid hkl
      obtain ⟨ms, hms⟩ : ∃ ms, ms = aliveL (l.take (n + k)) lo hi x y z := ⟨_, rfl⟩
      rw [← hms] at hown
      have HMS := Lib.hid hms
      obtain ⟨aoL, capL, hlv⟩ := itms_slice hown.out.1.itms
      subst hlv
      obtain ⟨p, hp⟩ : ∃ p, p = ms.length := ⟨_, rfl⟩
      have HPP : Hid (ms.length = p) := hp.symm
      have HLEN : Hid (ms.length ≤ lim.toNat) := hown.out.2
      have HP64 : Hid (p ≤ 64) := by
        have h5 := alive_len (l.take (n + k)) lo hi x y z
        rw [List.length_take, ← hms, ← hp] at h5
        show _ ≤ _
        have := H64.out
        omega
      have H3 : Hid (PjRel w w.heap.size x y z wr.heap.size s (.slice ao' m' cap') (.slice aoL ms.length capL) ms (wr.alloc (.cells #[.string s, .slice ao' m' cap'] 60))) := by
        have hal : Below wr.heap.size wr (wr.alloc (.cells #[.string s, .slice ao' m' cap'] 60)) := (Below.refl _ _).alloc (Nat.le_refl _) _
        exact ⟨hbel.out.1.trans (hal.mono hbel.out.1.size), hbel.out.2.over hal, EBox.new _ _ _, hown.out.1.next hal⟩
      obtain ⟨k0, k1⟩ := HK.out
      dsimp only at k0 k1
      have q10 : k < r := hlt
      rw [← hp] at H3 ⊢
      clear hkey hvers hs hu ht hd hm' hkl hms hbel hown hp
      go_upto_region 7 with (fail)
      clear k0 k1 HK
      generalize wr.alloc (.cells #[.string s, .slice ao' m' cap'] 60) = w3 at H3 ⊢
      generalize wr.heap.size = hh at H3 ⊢
      by_cases h0 : hi.size = 0
      · obtain rfl : hi = { data := #[] } := by
          have h6 : hi.data.toList.length = ([] : List UInt8).length := by rw [bytes_len]; exact h0
          exact bytes_inj (List.length_eq_zero_iff.1 h6)
        have HIN : Hid (inR s lo { data := #[] } = true) := by show _ = _; rw [HINF.out]; rfl
        clear HCMP h0
        obtain ⟨z0, z1⟩ := H3.out.2.2.1.cell
        obtain ⟨y0, y1, y2⟩ := H3.out.2.1.cell
        go_wp2_with fail
        refine (HV.out _ H3.out.1).mono ?_
        rintro e w4 ⟨rfl, hb4⟩
        have H4 := Lib.hid (H3.out.next hb4)
        clear hb4 H3 z0 z1 y0 y1 y2 HV
        cases d
        · have HN : Hid (OwnsM w4 w.heap.size (.slice aoL p capL) (aliveL (l.take (n + (k + 1))) lo { data := #[] } x y z) ∧ (aliveL (l.take (n + (k + 1))) lo { data := #[] } x y z).length ≤ lim.toNat) := by
            rw [← Nat.add_assoc, alive_no HKL.out (by rw [HA.out, Bool.false_and]), ← HMS.out]
            exact ⟨H4.out.2.2.2, HLEN.out⟩
          go_wp2_with fail
          go_roundw
          case rel => exact ⟨k + 1, by omega, by go_num, ⟨H4.out.1, H4.out.2.1⟩, HN⟩
          case measure => simp [intOf]; omega
        by_cases hlim : lim ≤ (p : Int)
        · have d5 : decide (lim ≤ (p : Int)) = true := decide_eq_true hlim
          have HQ : Hid (pgL (aliveL l lo { data := #[] } x y z) lim = ms ∧ pgK (aliveL l lo { data := #[] } x y z) lim = s ∧ pgM (aliveL l lo { data := #[] } x y z) lim = true) := by
            have h5 := page_more (lo := lo) (hi := { data := #[] }) (x := x) (y := y) (z := z) (lim := lim) HKL.out (by rw [HA.out, HIN.out]; rfl) (by rw [← HMS.out]; exact HLEN.out) (by rw [← HMS.out, HPP.out]; exact hlim)
            rw [← HMS.out, HKV.out.1] at h5
            exact h5
          go_upto_region 11 with (fail)
          refine wp_region_calm (PjRel w w.heap.size x y z hh s (.slice ao' m' cap') (.slice aoL p capL) ms) (by kernel_rfl) (by kernel_rfl) (H4.out.next (Below.refl _ _).drew) ?_
          repeat ((with_reducible refine wpQuiet_step (fun K hK => ?_)); go_simp; first | (refine hK _ ?_; clear hK K) | (apply Exists.intro; refine ⟨fun wc hwc => ?_, hK _ ?_⟩; (focus (first | (fail) | (((obtain ⟨z0, z1⟩ := hwc.2.2.1.cell; clear hwc)); go_simp; done) | (((obtain ⟨z0, z1⟩ := hwc.2.2.1.cell; clear hwc)); go_simp; exact rfl))); clear hK K))
          refine wpQuiet_nil ?_
          intro wc hwc
          have H5 := Lib.hid hwc
          clear hwc
          go_wp2_with fail
          go_ret3
          exact ⟨.slice aoL p capL, by rw [HQ.out.2.1, HQ.out.2.2]; first | done | rfl, by rw [HQ.out.1]; exact H5.out.2.2.2.itms, H5.out.1⟩
        · have d5 : decide (lim ≤ (p : Int)) = false := decide_eq_false hlim
          obtain ⟨z0, z1⟩ := H4.out.2.2.1.cell
          have hown : w4.ownsRow w.heap.size 62 2 (.slice aoL p capL) p (itmsC ms) := by have := H4.out.2.2.2; unfold OwnsM at this; rw [HPP.out] at this; exact this
          have hbel := H4.out.1
          have hsz := hbel.size
          have hp64 : p ≤ 64 := HP64.out
          go_wp2_with (at_builtin; refine wpList_append_own _ rfl _ _ 42 rfl w.heap.size 62 i0 _ 2 32 Tryd.underlying42 hii hz0 hz1 hz2 rfl (by decide) _ _ _ rfl (hown.alloc _) ⟨w4.heap.size, 0, none⟩ 1 1 (itmC (s, t)) rfl rfl (itm_new w4 (s, t)) (itmC_one _) (by unfold maxLen; omega) (by omega) (by simp; omega) ?_; intro v' w5 hown1 hgrow1 _)
          have hal : Below w4.heap.size w4 (w4.alloc (.cells #[.string s, .string t] 62)) := (Below.refl _ _).alloc (Nat.le_refl _) _
          have hb1 := (hbel.alloc (by omega) _).grown hgrow1 (by simp; omega) (fun k hk => (hown.lt k hk).1)
          have hbx : Box w5 w.heap.size x y z := by
            have h1 := H4.out.2.1.over hal
            exact (hgrow1.block _ h1.lt (fun e => by
              obtain ⟨cs, hcs⟩ := (OwnsM.block H4.out.2.2.2 w.heap.size e.symm).2
              have h2 := H4.out.2.1
              unfold Box at h2
              rw [hcs] at h2
              injection h2 with h2
              injection h2 with _ h2
              exact absurd h2 (by decide))).trans h1
          rw [itmsC_snoc] at hown1
          have HN : Hid (OwnsM w5 w.heap.size v' (aliveL (l.take (n + (k + 1))) lo { data := #[] } x y z) ∧ (aliveL (l.take (n + (k + 1))) lo { data := #[] } x y z).length ≤ lim.toNat) := by
            rw [← Nat.add_assoc, alive_yes HKL.out (by rw [HA.out, HIN.out]; rfl), ← HMS.out, HKV.out.1, HKV.out.2]
            refine ⟨?_, by rw [List.length_append, List.length_singleton, HPP.out]; omega⟩
            unfold OwnsM
            rw [List.length_append, List.length_singleton, HPP.out]
            exact hown1
          exact ⟨⟨k + 1, by omega, by go_num, ⟨hb1, hbx⟩, HN⟩, by simp [intOf]; omega⟩
      · have d1 : (hi.toList == ({ data := #[] } : ByteArray).toList) = false := beq_eq_false_iff_ne.2 fun h => h0 (by rw [list_inj h]; rfl)
        have d2 : ¬ hi.toList = ({ data := #[] } : ByteArray).toList := fun h => h0 (by rw [list_inj h]; rfl)
        have e0 : ({ data := #[] } : ByteArray).toList = [] := by rw [ByteArray.toList_eq]
        have d3 : (hi.toList == []) = false := by rw [← e0]; exact d1
        have d4 : ¬ hi.toList = [] := by rw [← e0]; exact d2
        clear e0
        have d6 : ¬ hi = { data := #[] } := fun h => h0 (by rw [h]; rfl)
        have H0 := Lib.hid h0
        obtain ⟨q, hq⟩ : ∃ q, q = Ky.compare s hi := ⟨_, rfl⟩
        rw [← hq] at HCMP
        have HQQ := Lib.hid hq
        clear hq h0
        obtain ⟨z0, z1⟩ := H3.out.2.2.1.cell
        by_cases hq0 : 0 ≤ q
        · have dq : decide (0 ≤ q) = true := decide_eq_true hq0
          have HQ0 := Lib.hid hq0
          clear hq0
          go_wp2_with fail
          refine (HCMP.out _ H3.out.1).mono ?_
          rintro e w4 ⟨rfl, hb4⟩
          have H4 := Lib.hid (H3.out.next hb4)
          clear hb4 H3 z0 z1 HV HCMP
          have HQ : Hid (Itms w4 (.slice aoL p capL) (pgL (aliveL l lo hi x y z) lim) ∧ pgK (aliveL l lo hi x y z) lim = { data := #[] } ∧ pgM (aliveL l lo hi x y z) lim = false ∧ Below w.heap.size w w4) := by
            have e : aliveL l lo hi x y z = ms := by rw [HMS.out]; exact alive_past HRI.out (n := n) HKL.out H0.out (by rw [HKV.out.1, ← HQQ.out]; exact HQ0.out) x y z
            obtain ⟨e1, e2, e3⟩ := pg_all (al := aliveL l lo hi x y z) (lim := lim) (by rw [e]; exact HLEN.out)
            exact ⟨by rw [e1, e]; exact H4.out.2.2.2.itms, e2, e3, H4.out.1⟩
          go_wp2_with fail
          go_ret3
          exact ⟨(.slice aoL p capL), by rw [HQ.out.2.1, HQ.out.2.2.1]; first | done | rfl, HQ.out.1, HQ.out.2.2.2⟩
        · have dq : decide (0 ≤ q) = false := decide_eq_false hq0
          have HIN : Hid (inR s lo hi = true) := by
            show _ = _
            rw [HINF.out, ← HQQ.out, decide_eq_true (by omega : q < 0), Bool.or_true]
          clear hq0
          go_wp2_with fail
          refine (HCMP.out _ H3.out.1).mono ?_
          rintro e w9 ⟨rfl, hb9⟩
          have H9 := Lib.hid (H3.out.next hb9)
          clear hb9 H3 z0 z1 HCMP
          have H3 := H9
          clear H9
          obtain ⟨z0, z1⟩ := H3.out.2.2.1.cell
          obtain ⟨y0, y1, y2⟩ := H3.out.2.1.cell
          go_wp2_with fail
          refine (HV.out _ H3.out.1).mono ?_
          rintro e w4 ⟨rfl, hb4⟩
          have H4 := Lib.hid (H3.out.next hb4)
          clear hb4 H3 z0 z1 y0 y1 y2 HV
          cases d
          · have HN : Hid (OwnsM w4 w.heap.size (.slice aoL p capL) (aliveL (l.take (n + (k + 1))) lo hi x y z) ∧ (aliveL (l.take (n + (k + 1))) lo hi x y z).length ≤ lim.toNat) := by
              rw [← Nat.add_assoc, alive_no HKL.out (by rw [HA.out, Bool.false_and]), ← HMS.out]
              exact ⟨H4.out.2.2.2, HLEN.out⟩
            go_wp2_with fail
            go_roundw
            case rel => exact ⟨k + 1, by omega, by go_num, ⟨H4.out.1, H4.out.2.1⟩, HN⟩
            case measure => simp [intOf]; omega
          by_cases hlim : lim ≤ (p : Int)
          · have d5 : decide (lim ≤ (p : Int)) = true := decide_eq_true hlim
            have HQ : Hid (pgL (aliveL l lo hi x y z) lim = ms ∧ pgK (aliveL l lo hi x y z) lim = s ∧ pgM (aliveL l lo hi x y z) lim = true) := by
              have h5 := page_more (lo := lo) (hi := hi) (x := x) (y := y) (z := z) (lim := lim) HKL.out (by rw [HA.out, HIN.out]; rfl) (by rw [← HMS.out]; exact HLEN.out) (by rw [← HMS.out, HPP.out]; exact hlim)
              rw [← HMS.out, HKV.out.1] at h5
              exact h5
            go_upto_region 11 with (fail)
            refine wp_region_calm (PjRel w w.heap.size x y z hh s (.slice ao' m' cap') (.slice aoL p capL) ms) (by kernel_rfl) (by kernel_rfl) (H4.out.next (Below.refl _ _).drew) ?_
            repeat ((with_reducible refine wpQuiet_step (fun K hK => ?_)); go_simp; first | (refine hK _ ?_; clear hK K) | (apply Exists.intro; refine ⟨fun wc hwc => ?_, hK _ ?_⟩; (focus (first | (fail) | (((obtain ⟨z0, z1⟩ := hwc.2.2.1.cell; clear hwc)); go_simp; done) | (((obtain ⟨z0, z1⟩ := hwc.2.2.1.cell; clear hwc)); go_simp; exact rfl))); clear hK K))
            refine wpQuiet_nil ?_
            intro wc hwc
            have H5 := Lib.hid hwc
            clear hwc
            go_wp2_with fail
            go_ret3
            exact ⟨.slice aoL p capL, by rw [HQ.out.2.1, HQ.out.2.2]; first | done | rfl, by rw [HQ.out.1]; exact H5.out.2.2.2.itms, H5.out.1⟩
          · have d5 : decide (lim ≤ (p : Int)) = false := decide_eq_false hlim
            obtain ⟨z0, z1⟩ := H4.out.2.2.1.cell
            have hown : w4.ownsRow w.heap.size 62 2 (.slice aoL p capL) p (itmsC ms) := by have := H4.out.2.2.2; unfold OwnsM at this; rw [HPP.out] at this; exact this
            have hbel := H4.out.1
            have hsz := hbel.size
            have hp64 : p ≤ 64 := HP64.out
            go_wp2_with (at_builtin; refine wpList_append_own _ rfl _ _ 42 rfl w.heap.size 62 i0 _ 2 32 Tryd.underlying42 hii hz0 hz1 hz2 rfl (by decide) _ _ _ rfl (hown.alloc _) ⟨w4.heap.size, 0, none⟩ 1 1 (itmC (s, t)) rfl rfl (itm_new w4 (s, t)) (itmC_one _) (by unfold maxLen; omega) (by omega) (by simp; omega) ?_; intro v' w5 hown1 hgrow1 _)
            have hal : Below w4.heap.size w4 (w4.alloc (.cells #[.string s, .string t] 62)) := (Below.refl _ _).alloc (Nat.le_refl _) _
            have hb1 := (hbel.alloc (by omega) _).grown hgrow1 (by simp; omega) (fun k hk => (hown.lt k hk).1)
            have hbx : Box w5 w.heap.size x y z := by
              have h1 := H4.out.2.1.over hal
              exact (hgrow1.block _ h1.lt (fun e => by
                obtain ⟨cs, hcs⟩ := (OwnsM.block H4.out.2.2.2 w.heap.size e.symm).2
                have h2 := H4.out.2.1
                unfold Box at h2
                rw [hcs] at h2
                injection h2 with h2
                injection h2 with _ h2
                exact absurd h2 (by decide))).trans h1
            rw [itmsC_snoc] at hown1
            have HN : Hid (OwnsM w5 w.heap.size v' (aliveL (l.take (n + (k + 1))) lo hi x y z) ∧ (aliveL (l.take (n + (k + 1))) lo hi x y z).length ≤ lim.toNat) := by
              rw [← Nat.add_assoc, alive_yes HKL.out (by rw [HA.out, HIN.out]; rfl), ← HMS.out, HKV.out.1, HKV.out.2]
              refine ⟨?_, by rw [List.length_append, List.length_singleton, HPP.out]; omega⟩
              unfold OwnsM
              rw [List.length_append, List.length_singleton, HPP.out]
              exact hown1
            exact ⟨⟨k + 1, by omega, by go_num, ⟨hb1, hbx⟩, HN⟩, by simp [intOf]; omega⟩
    · obtain rfl : k = r := by omega
      obtain ⟨aoL, capL, hlv⟩ := itms_slice hown.out.1.itms
      have HQ : Hid (Itms wr u13 (pgL (aliveL l lo hi x y z) lim) ∧ pgK (aliveL l lo hi x y z) lim = { data := #[] } ∧ pgM (aliveL l lo hi x y z) lim = false ∧ Below w.heap.size w wr) := by
        have e : aliveL l lo hi x y z = aliveL (l.take (n + k)) lo hi x y z := by rw [List.take_of_length_le (by rw [HL.out]; omega)]
        obtain ⟨e1, e2, e3⟩ := pg_all (al := aliveL l lo hi x y z) (lim := lim) (by rw [e]; exact hown.out.2)
        exact ⟨by rw [e1, e]; exact hown.out.1.itms, e2, e3, hbel.out.1⟩
      go_wp2_with fail
      go_ret3
      exact ⟨u13, by rw [HQ.out.2.1, HQ.out.2.2.1]; first | done | rfl, HQ.out.1, HQ.out.2.2.2⟩

theorem fIPage : FIPage := by
  intro w v l lo hi x y z lim hT h hlim
  have HR : ∀ r, rightI l = r → Hid (∀ W, Below w.heap.size w W → Calls Tryd.prog 16 #[v] W fun e w' => e = .returned (.bool r) ∧ Below W.heap.size W w') := fun r hr => by
    show ∀ W, _ → _
    intro W hW
    rw [← hr]
    exact iRight_any (hT.next hW) (h.next hW)
  have hnil : pgL [] lim = [] ∧ pgK [] lim = { data := #[] } ∧ pgM [] lim = false := pg_all (Nat.zero_le _)
  cases hr : rightI l
  · have e : alI l lo hi x y z = [] := by unfold alI; rw [hr]; rfl
    rw [e, hnil.1, hnil.2.1, hnil.2.2]
    refine (iPage_bad w v lo hi x y z lim (HR false hr)).mono ?_
    rintro e w' ⟨rfl, hb⟩
    exact ⟨_, rfl, itms_nil _, hb⟩
  · have e : alI l lo hi x y z = aliveL l lo hi x y z := by unfold alI; rw [hr]; rfl
    obtain ⟨n, hn⟩ := pos_ex hr lo
    have HR' := HR true hr
    have HF : Hid (∀ W, Below w.heap.size w W → Calls Tryd.prog 45 #[v, .string lo] W fun e w' => e = .returned (.int .i64 n) ∧ Below W.heap.size W w') := fun W hW => preceding_any (hT.next hW) (h.next hW) (rightI_spec hr).1 hn
    rw [e]
    obtain ⟨ao, m, cap, es, rfl, hl, hle, hmx, hm, hrow, hlead⟩ := h.opened
    have hmx2 : cap ≤ 9223372036854775807 := Nat.le_trans hmx (by decide)
    have hnm : n ≤ m := by rw [← hl]; exact hn.1
    rcases Nat.lt_or_ge n m with hlt | hge
    · obtain ⟨b, off, rfl, hb, hcl⟩ := hrow (by omega)
      exact iPage_row w b off m cap n es l lo hi x y z lim hT hl hlt hle hmx2 hb hcl hlead hr hn hlim HR' HF
    · have hnm2 : n = m := by omega
      have e2 : aliveL l lo hi x y z = [] := by
        have := alive_ahead (hi := hi) hn x y z
        rwa [List.take_of_length_le (by omega)] at this
      rw [e2, hnil.1, hnil.2.1, hnil.2.2]
      have hao : (ao = none ∧ m = 0) ∨ (m = 0 ∧ ∃ ad, ao = some ad) ∨ ∃ b0 off, ao = some ⟨b0, off, none⟩ := by
        rcases Nat.eq_zero_or_pos m with rfl | hp
        · cases ao with
          | none => exact .inl ⟨rfl, rfl⟩
          | some ad => exact .inr (.inl ⟨rfl, ad, rfl⟩)
        · obtain ⟨b0, off, rfl, _⟩ := hrow hp
          exact .inr (.inr ⟨b0, off, rfl⟩)
      refine (iPage_empty w ao m cap n lo hi x y z lim hnm2 hle hmx2 hao HR' HF).mono ?_
      rintro e w' ⟨rfl, hb⟩
      exact ⟨_, rfl, itms_nil _, hb⟩

end Go.Proofs.YtkmmifonandkoaaDoor

/-
  The contract of chain.Prune.
-/
set_option linter.unusedVariables false
namespace Go.Proofs.YtkmmifonandkoaaDoor
open Go.RowKit

/-- The rest of a row. -/
theorem Vers.rest {w : World} {b off n cap k : Nat} {l : List Ver} (hl : l.length = n) (h1 : n ≤ cap) (h2 : cap ≤ maxLen) (hb : b < w.heap.size) (hcl : ∀ i, i < n → VerAt w b (off + i * 5) (vat l i)) (hk : k ≤ n) (ao : Option Addr) (c : Nat) (hc : n - k ≤ c) (hc2 : c ≤ maxLen) (hao : k < n → ao = some ⟨b, off + k * 5, none⟩) : Vers w (.slice ao (n - k) c) (l.drop k) :=
  ⟨ao, c, by rw [List.length_drop, hl], by rw [List.length_drop, hl]; omega, hc2, fun hp => ⟨b, off + k * 5, hao (by rw [List.length_drop] at hp; omega), hb, fun i hi => by
    rw [List.length_drop] at hi
    rw [vat_drop, show off + k * 5 + i * 5 = off + (k + i) * 5 by omega]
    exact hcl (k + i) (by omega)⟩⟩

set_option maxRecDepth 100000 in
set_option maxHeartbeats 1000000 in
theorem Prune_row (w : World) (x y z : Int) (b off len cap n : Nat) (g : Bool) (l : List Ver) (k : Nat) (hl : l.length = len) (h64 : len ≤ 64) (hle : len ≤ cap) (hmx : cap ≤ maxLen) (hb : b < w.heap.size) (hcl : ∀ i, i < len → VerAt w b (off + i * 5) (vat l i))
    (hr : rightC l = true) (hn : IsCnt l x y z n) (hk : (n = 0 ∧ k = 0) ∨ (0 < n ∧ (vat l (n - 1)).2.2.2.1 = true ∧ k = n) ∨ (0 < n ∧ (vat l (n - 1)).2.2.2.1 = false ∧ k = n - 1)) :
    Calls Tryd.prog 49 #[.slice (some ⟨b, off, none⟩) len cap, (Go.Value.agg #[Go.Value.int Go.IntKind.i64 x, Go.Value.int Go.IntKind.i64 y, Go.Value.int Go.IntKind.i64 z])] w fun e w' => ∃ v', e = .returned v' ∧ OwnsV w' w.heap.size v' (l.drop k) ∧ Below w.heap.size w w' := by
  have HVS : ∀ W, Below w.heap.size w W → Vers W (.slice (some ⟨b, off, none⟩) len cap) l := fun W hW => ⟨_, cap, by rw [hl], by omega, hmx, fun hp =>
    ⟨b, off, rfl, Nat.lt_of_lt_of_le hb hW.size, fun i hi => (hcl i (by omega)).next hW hb⟩⟩
  have HR : Hid (∀ W, Below w.heap.size w W → Calls Tryd.prog 55 #[.slice (some ⟨b, off, none⟩) len cap] W fun e w' => e = .returned (.bool true) ∧ Below W.heap.size W w') := by
    intro W hW
    rw [← hr]
    exact CRight_any (HVS W hW)
  have HU : Hid (∀ W, Below w.heap.size w W → Calls Tryd.prog 65 #[.slice (some ⟨b, off, none⟩) len cap, (Go.Value.agg #[Go.Value.int Go.IntKind.i64 x, Go.Value.int Go.IntKind.i64 y, Go.Value.int Go.IntKind.i64 z])] W fun e w' => e = .returned (.int .i64 n) ∧ Below W.heap.size W w') := by
    intro W hW
    exact upTo_any (HVS W hW) (rightC_spec hr).1 hn
  have hnl : n ≤ len := by rw [← hl]; exact hn.1
  have hkl : k ≤ len := by omega
  have HCLO : Hid (∀ W (ao : Option Addr) c, Below w.heap.size w W → len - k ≤ c → c ≤ maxLen → (k < len → ao = some ⟨b, off + k * 5, none⟩) → Calls Tryd.prog 60 #[.slice ao (len - k) c] W fun e w' => ∃ v', e = .returned v' ∧ OwnsV w' W.heap.size v' (l.drop k) ∧ Below W.heap.size W w') := by
    intro W ao c hW hc hc2 hao
    exact Clone_any (Vers.rest hl hle hmx (Nat.lt_of_lt_of_le hb hW.size) (fun i hi => (hcl i hi).next hW hb) hkl ao c hc hc2 hao) (by rw [List.length_drop]; omega)
  have HCELL : Hid (∀ W i, Below w.heap.size w W → i < len → W.cell? ⟨b, off + i * 5 + 3, none⟩ = some (.bool (vat l i).2.2.2.1)) := fun W i hW hi => ((hcl i hi).next hW hb).2.2.2.1
  have HLE := Lib.hid hle
  have HMX := Lib.hid hmx
  have HB0 : Hid (Below w.heap.size w (w.alloc (.cells #[.int .i64 x, .int .i64 y, .int .i64 z] 24))) := (Below.refl _ _).alloc (Nat.le_refl _) _
  have HX0 : Hid (Box (w.alloc (.cells #[.int .i64 x, .int .i64 y, .int .i64 z] 24)) w.heap.size x y z) := Box.new w x y z
  have HK := Lib.hid hk
  have hlc : len ≤ cap := hle
  clear HVS hl hle hmx hcl hr hn hk
  go_enter Tryd.func49, Tryd.ntmps49
  go_wp2_with fail
  refine (HR.out _ HB0.out).mono ?_
  rintro e w1 ⟨rfl, hb1⟩
  have H1 : Hid (Below w.heap.size w w1 ∧ Box w1 w.heap.size x y z) := ⟨HB0.out.trans (hb1.mono HB0.out.size), HX0.out.over hb1⟩
  clear hb1 HB0 HX0
  obtain ⟨x0, x1, x2⟩ := H1.out.2.cell
  go_wp2_with fail
  refine (HU.out _ H1.out.1).mono ?_
  rintro e w2 ⟨rfl, hb2⟩
  have H2 : Hid (Below w.heap.size w w2) := H1.out.1.trans (hb2.mono H1.out.1.size)
  clear hb2 H1 x0 x1 x2 HU HR
  rcases HK.out with ⟨rfl, rfl⟩ | ⟨h0, hg, hk⟩ | ⟨h0, hg, hk⟩
  · go_wp2_with fail
    refine (HCLO.out _ _ _ H2.out (by have := HLE.out; omega) HMX.out (fun _ => rfl)).mono ?_
    rintro e w3 ⟨v', rfl, ho, hb3⟩
    have HO : Hid (OwnsV w3 w.heap.size v' (l.drop 0) ∧ Below w.heap.size w w3) := ⟨ho.mono H2.out.size, H2.out.trans (hb3.mono H2.out.size)⟩
    clear ho hb3
    go_wp2_with fail
    go_ret
    exact ⟨v', rfl, HO.out⟩
  · obtain ⟨m, hm⟩ : ∃ m, n = m + 1 := ⟨n - 1, by omega⟩
    subst hm
    subst hk
    have hc3 := HCELL.out w2 m H2.out (by omega)
    rw [Nat.add_sub_cancel] at hg
    rw [hg] at hc3
    have q1 := IntWalk.i64_in (m : Int) (by omega)
    have q2 : m < len := by omega
    have q3 : (m : Int) + 1 - 1 = (m : Int) := by omega
    have q4 : m + 1 ≤ len := by omega
    have q5 : (m : Int) + 1 ≤ (len : Int) := by omega
    have q6 : ((m : Int) + 1).toNat = m + 1 := by omega
    have q7 : 0 ≤ (m : Int) + 1 := by omega
    clear hg h0
    go_wp2_with fail
    all_goals
      refine (HCLO.out _ _ _ H2.out (by have := HLE.out; omega) (by have := HMX.out; unfold maxLen at *; omega) (fun h => by first | rfl | (exfalso; have := HLE.out; omega))).mono ?_
      rintro e w3 ⟨v', rfl, ho, hb3⟩
      have HO : Hid (OwnsV w3 w.heap.size v' (l.drop (m + 1)) ∧ Below w.heap.size w w3) := ⟨ho.mono H2.out.size, H2.out.trans (hb3.mono H2.out.size)⟩
      clear ho hb3
      go_wp2_with fail
      go_ret
      exact ⟨v', rfl, HO.out⟩
  · obtain ⟨m, hm⟩ : ∃ m, n = m + 1 := ⟨n - 1, by omega⟩
    subst hm
    obtain rfl : k = m := by omega
    clear hk
    have hc3 := HCELL.out w2 k H2.out (by omega)
    rw [Nat.add_sub_cancel] at hg
    rw [hg] at hc3
    have q1 := IntWalk.i64_in (k : Int) (by omega)
    have q2 : k < len := by omega
    have q3 : (k : Int) + 1 - 1 = (k : Int) := by omega
    have q4 : k ≤ len := by omega
    clear hg h0
    go_wp2_with fail
    all_goals
      refine (HCLO.out _ _ _ H2.out (by have := HLE.out; omega) (by have := HMX.out; unfold maxLen at *; omega) (fun h => by first | rfl | (exfalso; have := HLE.out; omega))).mono ?_
      rintro e w3 ⟨v', rfl, ho, hb3⟩
      have HO : Hid (OwnsV w3 w.heap.size v' (l.drop k) ∧ Below w.heap.size w w3) := ⟨ho.mono H2.out.size, H2.out.trans (hb3.mono H2.out.size)⟩
      clear ho hb3
      go_wp2_with fail
      go_ret
      exact ⟨v', rfl, HO.out⟩

set_option maxRecDepth 100000 in
set_option maxHeartbeats 400000 in
theorem Prune_nil (w : World) (x y z : Int) (ao : Option Addr) (cap : Nat)
    (HR : Hid (∀ W, Calls Tryd.prog 55 #[.slice ao 0 cap] W fun e w' => e = .returned (.bool true) ∧ Below W.heap.size W w'))
    (HU : Hid (∀ W, Calls Tryd.prog 65 #[.slice ao 0 cap, (Go.Value.agg #[Go.Value.int Go.IntKind.i64 x, Go.Value.int Go.IntKind.i64 y, Go.Value.int Go.IntKind.i64 z])] W fun e w' => e = .returned (.int .i64 0) ∧ Below W.heap.size W w'))
    (HC : Hid (∀ W (ao : Option Addr) c, c ≤ maxLen → Calls Tryd.prog 60 #[.slice ao 0 c] W fun e w' => ∃ v', e = .returned v' ∧ OwnsV w' W.heap.size v' [] ∧ Below W.heap.size W w'))
    (HB0 : Hid (Below w.heap.size w (w.alloc (.cells #[.int .i64 x, .int .i64 y, .int .i64 z] 24))))
    (HX0 : Hid (Box (w.alloc (.cells #[.int .i64 x, .int .i64 y, .int .i64 z] 24)) w.heap.size x y z)) (HM : Hid (cap ≤ maxLen)) :
    Calls Tryd.prog 49 #[.slice ao 0 cap, (Go.Value.agg #[Go.Value.int Go.IntKind.i64 x, Go.Value.int Go.IntKind.i64 y, Go.Value.int Go.IntKind.i64 z])] w fun e w' => ∃ v', e = .returned v' ∧ OwnsV w' w.heap.size v' [] ∧ Below w.heap.size w w' := by
  cases ao
  all_goals
    go_enter Tryd.func49, Tryd.ntmps49
    go_wp2_with fail
    refine (HR.out _).mono ?_
    rintro e w1 ⟨rfl, hb1⟩
    have H1 : Hid (Below w.heap.size w w1 ∧ Box w1 w.heap.size x y z) := ⟨HB0.out.trans (hb1.mono HB0.out.size), HX0.out.over hb1⟩
    clear hb1 HB0 HX0
    obtain ⟨x0, x1, x2⟩ := H1.out.2.cell
    go_wp2_with fail
    refine (HU.out _).mono ?_
    rintro e w2 ⟨rfl, hb2⟩
    have H2 : Hid (Below w.heap.size w w2) := H1.out.1.trans (hb2.mono H1.out.1.size)
    clear hb2 H1 x0 x1 x2 HU HR
    go_wp2_with fail
    all_goals
      refine (HC.out _ _ _ (by have := HM.out; unfold maxLen at *; omega)).mono ?_
      rintro e w3 ⟨v', rfl, ho, hb3⟩
      have HO : Hid (OwnsV w3 w.heap.size v' [] ∧ Below w.heap.size w w3) := ⟨ho.mono H2.out.size, H2.out.trans (hb3.mono H2.out.size)⟩
      clear ho hb3
      go_wp2_with fail
      go_ret
      exact ⟨v', rfl, HO.out⟩

theorem CPrune_any {w : World} {v : Value} {l : List Ver} {x y z : Int} {k : Nat} (h : Vers w v l) (hr : rightC l = true) (hk : IsCut l x y z k) :
    Calls Tryd.prog 49 #[v, (Go.Value.agg #[Go.Value.int Go.IntKind.i64 x, Go.Value.int Go.IntKind.i64 y, Go.Value.int Go.IntKind.i64 z])] w fun e w' => ∃ v', e = .returned v' ∧ OwnsV w' w.heap.size v' (l.drop k) ∧ Below w.heap.size w w' := by
  obtain ⟨n, hn, hk⟩ := hk
  obtain ⟨ao, cap, rfl, h1, h2, h3⟩ := h
  by_cases hp : 0 < l.length
  · obtain ⟨b, off, rfl, hb, hcl⟩ := h3 hp
    exact Prune_row w x y z b off _ cap n false l k rfl (rightC_spec hr).1 h1 h2 hb hcl hr hn hk
  · have hl : l = [] := List.length_eq_zero_iff.1 (by omega)
    subst hl
    have hn0 : n = 0 := by have := hn.1; simpa using this
    subst hn0
    obtain rfl : k = 0 := by omega
    have HV : ∀ W, Vers W (.slice ao 0 cap) [] := fun W => ⟨ao, cap, rfl, h1, h2, fun hp => absurd hp (by simp)⟩
    have HR : Hid (∀ W, Calls Tryd.prog 55 #[.slice ao 0 cap] W fun e w' => e = .returned (.bool true) ∧ Below W.heap.size W w') := fun W => by
      rw [← hr]; exact CRight_any (HV W)
    have HU : Hid (∀ W, Calls Tryd.prog 65 #[.slice ao 0 cap, (Go.Value.agg #[Go.Value.int Go.IntKind.i64 x, Go.Value.int Go.IntKind.i64 y, Go.Value.int Go.IntKind.i64 z])] W fun e w' => e = .returned (.int .i64 0) ∧ Below W.heap.size W w') := fun W => upTo_any (HV W) (by simp) hn
    have HC : Hid (∀ W (ao : Option Addr) c, c ≤ maxLen → Calls Tryd.prog 60 #[.slice ao 0 c] W fun e w' => ∃ v', e = .returned v' ∧ OwnsV w' W.heap.size v' [] ∧ Below W.heap.size W w') := fun W ao c hc => Clone_any ⟨ao, c, rfl, Nat.zero_le _, hc, fun hp => absurd hp (by simp)⟩ (by simp)
    have HB0 : Hid (Below w.heap.size w (w.alloc (.cells #[.int .i64 x, .int .i64 y, .int .i64 z] 24))) := (Below.refl _ _).alloc (Nat.le_refl _) _
    have HX0 : Hid (Box (w.alloc (.cells #[.int .i64 x, .int .i64 y, .int .i64 z] 24)) w.heap.size x y z) := Box.new w x y z
    have HM := Lib.hid h2
    clear h1 h2 h3 hp hr hn hk HV
    exact Prune_nil w x y z ao cap HR HU HC HB0 HX0 HM

set_option maxRecDepth 100000 in
set_option maxHeartbeats 400000 in
theorem CPrune_bad {w : World} {v : Value} {l : List Ver} (h : Vers w v l) (hr : rightC l = false) (x y z : Int) :
    Calls Tryd.prog 49 #[v, (Go.Value.agg #[Go.Value.int Go.IntKind.i64 x, Go.Value.int Go.IntKind.i64 y, Go.Value.int Go.IntKind.i64 z])] w fun e w' => e = .returned (.slice none 0 0) ∧ Below w.heap.size w w' := by
  have HR : Hid (∀ W, Below w.heap.size w W → Calls Tryd.prog 55 #[v] W fun e w' => e = .returned (.bool false) ∧ Below W.heap.size W w') := fun W hW => by rw [← hr]; exact CRight_any (h.next hW)
  have HB0 : Hid (Below w.heap.size w (w.alloc (.cells #[.int .i64 x, .int .i64 y, .int .i64 z] 24))) := (Below.refl _ _).alloc (Nat.le_refl _) _
  clear h hr
  go_enter Tryd.func49, Tryd.ntmps49
  go_wp2_with fail
  refine (HR.out _ HB0.out).mono ?_
  rintro e w1 ⟨rfl, hb1⟩
  go_wp2_with fail
  go_ret
  exact ⟨rfl, HB0.out.trans (hb1.mono HB0.out.size)⟩

end Go.Proofs.YtkmmifonandkoaaDoor

/-
  The contract of index.Prune.
-/
set_option linter.unusedVariables false
namespace Go.Proofs.YtkmmifonandkoaaDoor
open Go.RowKit

/-- What a round of Prune knows: the mark's box, the entry's block, the row of one's own. -/
def PsRel (w : World) (hs : Nat) (x y z : Int) (h : Nat) (s : ByteArray) (u : Value) (lv : Value) (fs : List EntV) (m : List Ent) (W : World) : Prop :=
  Below w.heap.size w W ∧ Box W hs x y z ∧ EBox W h s u ∧ OwnsE W w.heap.size lv fs ∧ LeadsX w.heap.size W fs m
theorem PsRel.next {w W W' : World} {hs h : Nat} {x y z : Int} {s : ByteArray} {u lv : Value} {fs : List EntV} {m : List Ent} (H : PsRel w hs x y z h s u lv fs m W) (hb : Below W.heap.size W W') : PsRel w hs x y z h s u lv fs m W' := by
  obtain ⟨h1, h2, h3, h4, h5⟩ := H
  exact ⟨h1.trans (hb.mono h1.size), h2.over hb, h3.over hb, h4.next hb, h5.next hb⟩

set_option maxRecDepth 100000 in
set_option maxHeartbeats 1000000 in
theorem iPrune_bad (w : World) (v : Value) (x y z : Int) (HR : Hid (∀ W, Below w.heap.size w W → Calls Tryd.prog 16 #[v] W fun e w' => e = .returned (.bool false) ∧ Below W.heap.size W w')) :
    Calls Tryd.prog 24 #[v, (Go.Value.agg #[Go.Value.int Go.IntKind.i64 x, Go.Value.int Go.IntKind.i64 y, Go.Value.int Go.IntKind.i64 z])] w fun e w' => e = .returned (.slice none 0 0) ∧ Below w.heap.size w w' := by
  have H0 : Hid (Below w.heap.size w (w.alloc (.cells #[.int .i64 x, .int .i64 y, .int .i64 z] 24))) := (Below.refl _ _).alloc (Nat.le_refl _) _
  go_enter Tryd.func24, Tryd.ntmps24
  go_wp2_with fail
  refine (HR.out _ H0.out).mono ?_
  rintro e w1 ⟨rfl, hb1⟩
  go_wp2_with fail
  go_ret
  exact ⟨rfl, H0.out.trans (hb1.mono H0.out.size)⟩

set_option maxRecDepth 100000 in
set_option maxHeartbeats 2000000 in
theorem iPrune_any {w : World} {v : Value} {l : List Ent} (hT : UtfAt w) (h : Ents w v l) (x y z : Int) (hr : rightI l = true) :
    Calls Tryd.prog 24 #[v, (Go.Value.agg #[Go.Value.int Go.IntKind.i64 x, Go.Value.int Go.IntKind.i64 y, Go.Value.int Go.IntKind.i64 z])] w fun e w' => ∃ v', e = .returned v' ∧ Ents w' v' (pruneI l x y z) ∧ Below w.heap.size w w' := by
  have HRR : Hid (∀ W, Below w.heap.size w W → Calls Tryd.prog 16 #[v] W fun e w' => e = .returned (.bool true) ∧ Below W.heap.size W w') := fun W hW => by
    rw [← hr]
    exact iRight_any (hT.next hW) (h.next hW)
  obtain ⟨ao, n, cap, es, rfl, hl, hle, hmx, hn, hrow, hlead⟩ := h.opened
  obtain ⟨i0, hii, hz0, hz1, hz2⟩ := info_parts info_ent
  have HL := Lib.hid hl
  have HR := Lib.hid hrow
  have HE := Lib.hid hlead
  have HRI := Lib.hid hr
  have H64 : Hid (l.length ≤ 64) := (rightI_spec hr).1
  clear hl hrow hlead hle hmx h hr hT
  have H0 : Hid (Below w.heap.size w (w.alloc (.cells #[.int .i64 x, .int .i64 y, .int .i64 z] 24)) ∧ Box (w.alloc (.cells #[.int .i64 x, .int .i64 y, .int .i64 z] 24)) w.heap.size x y z) := ⟨(Below.refl _ _).alloc (Nat.le_refl _) _, Box.new w x y z⟩
  go_enter Tryd.func24, Tryd.ntmps24
  go_wp2_with fail
  refine (HRR.out _ H0.out.1).mono ?_
  rintro e w1 ⟨rfl, hb1⟩
  have H1 : Hid (Below w.heap.size w w1 ∧ Box w1 w.heap.size x y z) := ⟨H0.out.1.trans (hb1.mono H0.out.1.size), H0.out.2.over hb1⟩
  clear hb1 H0 HRR
  go_wp2_with fail
  go_loopw [5, 14] (fun lv i wr => ∃ k : Nat, k ≤ n ∧ i = .int .i64 k ∧ Hid (Below w.heap.size w wr ∧ Box wr w.heap.size x y z) ∧ Hid (∃ fs, OwnsE wr w.heap.size lv fs ∧ LeadsX w.heap.size wr fs (pruneI (l.take k) x y z))) (fun _ i _ => n - (intOf i).toNat)
  case atStart => exact ⟨0, Nat.zero_le _, rfl, H1.out, [], OwnsE.nil _ _, LeadsX.nil _ _⟩
  case round =>
    obtain ⟨k, hk, rfl, hbel, hown⟩ := hrel
    by_cases hlt : k < n
    · obtain ⟨b, off, rfl, hb, hcl⟩ := HR.out (by omega)
      have hkl : k < l.length := by rw [HL.out]; exact hlt
      obtain ⟨hkey, hvers⟩ := HE.out.2 k hkl
      obtain ⟨s, hs⟩ : ∃ s, s = (lat l k).1 := ⟨_, rfl⟩
      obtain ⟨u, hu⟩ : ∃ u, u = (eat es k).2 := ⟨_, rfl⟩
      obtain ⟨c, hc⟩ : ∃ c, c = prC x y z (lat l k).2 := ⟨_, rfl⟩
      rw [← hu] at hvers
      obtain ⟨ao', cap', hv⟩ := vers_slice' hvers
      obtain ⟨m', hm'⟩ : ∃ m', m' = (lat l k).2.length := ⟨_, rfl⟩
      rw [← hm'] at hv
      have HP : Hid (∀ W, Below w.heap.size w W → Calls Tryd.prog 49 #[u, (Go.Value.agg #[Go.Value.int Go.IntKind.i64 x, Go.Value.int Go.IntKind.i64 y, Go.Value.int Go.IntKind.i64 z])] W fun e w' => ∃ v', e = .returned v' ∧ OwnsV w' W.heap.size v' c ∧ Below W.heap.size W w') := fun W hW => by
        rw [hc]
        rcases pr_is (lat l k).2 x y z with ⟨e, _⟩ | ⟨_, j, hj, e⟩
        · rw [(ent_spec HRI.out hkl).2.2.1] at e; cases e
        · rw [e]
          exact CPrune_any (hvers.next hW) (ent_spec HRI.out hkl).2.2.1 hj
      have HK : Hid (EntAt wr b (off + k * 2) (s, u)) := by
        have := (hcl k hlt).next hbel.out.1 hb
        unfold EntAt at this ⊢
        rw [hs, hu, ← hkey]; exact this
      subst hv
      obtain ⟨fs, hfs, hld⟩ := hown.out
      obtain ⟨ms, hms⟩ : ∃ ms, ms = pruneI (l.take k) x y z := ⟨_, rfl⟩
      rw [← hms] at hld
      have H2 : Hid (PsRel w w.heap.size x y z wr.heap.size s (.slice ao' m' cap') u5 fs ms (wr.alloc (.cells #[.string s, .slice ao' m' cap'] 60))) := by
        have hal : Below wr.heap.size wr (wr.alloc (.cells #[.string s, .slice ao' m' cap'] 60)) := (Below.refl _ _).alloc (Nat.le_refl _) _
        exact ⟨hbel.out.1.trans (hal.mono hbel.out.1.size), hbel.out.2.over hal, EBox.new _ _ _, hfs.next hal, hld.next hal⟩
      have HKC : Hid ((lat l k).1 = s ∧ prC x y z (lat l k).2 = c) := ⟨hs.symm, hc.symm⟩
      have HKL := Lib.hid hkl
      have HMS := Lib.hid hms
      have HLEN : Hid (fs.length ≤ 64) := by
        have h1 := pruneI_len (l.take k) x y z
        rw [List.length_take, ← hms, ← hld.1] at h1
        show _ ≤ _
        have := H64.out
        omega
      obtain ⟨k0, k1⟩ := HK.out
      dsimp only at k0 k1
      have q0 : k < n := hlt
      clear hcl hkey hvers hs hu hc hm' hkl hms hbel hown hfs hld
      go_upto_region 7 with (fail)
      clear k0 k1 HK
      generalize wr.alloc (.cells #[.string s, .slice ao' m' cap'] 60) = w2 at H2 ⊢
      generalize wr.heap.size = hh at H2 ⊢
      obtain ⟨z0, z1⟩ := H2.out.2.2.1.cell
      obtain ⟨y0, y1, y2⟩ := H2.out.2.1.cell
      go_wp2_with fail
      refine (HP.out _ H2.out.1).mono ?_
      rintro e w3 ⟨v1, rfl, ho1, hb1⟩
      have HW : Hid (PsRel w w.heap.size x y z hh s (.slice ao' m' cap') u5 fs ms w3 ∧ VersX w.heap.size w3 v1 c) := ⟨H2.out.next hb1, ho1.x⟩
      clear ho1 hb1 H2 z0 z1 y0 y1 y2 HP
      obtain ⟨ao7, cap7, rfl⟩ := vers_slice' HW.out.2.1
      obtain ⟨m, hm⟩ : ∃ m, c.length = m := ⟨_, rfl⟩
      have HM := Lib.hid hm
      rw [hm] at HW ⊢
      clear hm
      by_cases hm0 : m = 0
      · subst hm0
        have HN : Hid (∃ fs, OwnsE w3 w.heap.size u5 fs ∧ LeadsX w.heap.size w3 fs (pruneI (l.take (k + 1)) x y z)) := by
          refine ⟨fs, HW.out.1.2.2.2.1, ?_⟩
          rw [pruneI_no HKL.out (by rw [HKC.out.2, HM.out]; omega), ← HMS.out]
          exact HW.out.1.2.2.2.2
        go_wp2_with fail
        go_roundw
        case rel => exact ⟨k + 1, by omega, by go_num, ⟨HW.out.1.1, HW.out.1.2.1⟩, HN⟩
        case measure => simp [intOf]; omega
      · have d0 : decide (0 < (m : Int)) = true := decide_eq_true (by omega)
        obtain ⟨x0, x1⟩ := HW.out.1.2.2.1.cell
        have hown : w3.ownsRow w.heap.size 60 2 u5 fs.length (entsC fs) := HW.out.1.2.2.2.1
        have hbel := HW.out.1.1
        have hsz := hbel.size
        have hln := HLEN.out
        go_wp2_with (at_builtin; refine wpList_append_own _ rfl _ _ 22 rfl w.heap.size 60 i0 _ 2 40 Tryd.underlying22 hii hz0 hz1 hz2 rfl (by decide) _ _ _ rfl (hown.alloc _) ⟨w3.heap.size, 0, none⟩ 1 1 (entC (s, .slice ao7 m cap7)) rfl rfl (ent_new w3 (s, .slice ao7 m cap7)) (entC_one rfl) (by unfold maxLen; omega) (by omega) (by simp; omega) ?_; intro v' w4 hown1 hgrow1 _)
        have hal : Below w3.heap.size w3 (w3.alloc (.cells #[.string s, .slice ao7 m cap7] 60)) := (Below.refl _ _).alloc (Nat.le_refl _) _
        have hb1 := (hbel.alloc (by omega) _).grown hgrow1 (by simp; omega) (fun k hk => (hown.lt k hk).1)
        have hbx : Box w4 w.heap.size x y z := by
          have h1 := HW.out.1.2.1.over hal
          exact (hgrow1.block _ h1.lt (fun e => by
            have := (OwnsE.block (HW.out.1.2.2.2.1) w.heap.size e.symm).2
            obtain ⟨cs, hcs⟩ := this
            have h2 := HW.out.1.2.1
            unfold Box at h2
            rw [hcs] at h2
            injection h2 with h2
            injection h2 with _ h2
            exact absurd h2 (by decide))).trans h1
        rw [entsC_snoc] at hown1
        have HN : Hid (∃ fs, OwnsE w4 w.heap.size v' fs ∧ LeadsX w.heap.size w4 fs (pruneI (l.take (k + 1)) x y z)) := by
          refine ⟨fs ++ [(s, .slice ao7 m cap7)], ?_, ?_⟩
          · unfold OwnsE
            rw [List.length_append, List.length_singleton]
            exact hown1
          · rw [pruneI_yes HKL.out (by rw [HKC.out.2, HM.out]; omega), ← HMS.out, HKC.out.1, HKC.out.2]
            exact ((HW.out.1.2.2.2.2.next hal).snoc (HW.out.2.next hal)).grown (OwnsE.next HW.out.1.2.2.2.1 hal) hgrow1
        exact ⟨⟨k + 1, by omega, by go_num, ⟨hb1, hbx⟩, HN⟩, by simp [intOf]; omega⟩
    · obtain rfl : k = n := by omega
      have HN : Hid (Ents wr u5 (pruneI l x y z)) := by
        obtain ⟨fs, h1, h2⟩ := hown.out
        rw [List.take_of_length_le (by rw [HL.out]; exact Nat.le_refl _)] at h2
        exact own_ents h1 h2
      go_wp2_with fail
      go_ret
      exact ⟨u5, rfl, HN.out, hbel.out.1⟩

theorem fIPrune : FIPrune := by
  intro w v l x y z hT h
  cases hr : rightI l
  · unfold prI
    rw [hr]
    refine (iPrune_bad w v x y z ?_).mono ?_
    · show ∀ W, _ → _
      intro W hW
      rw [← hr]
      exact iRight_any (hT.next hW) (h.next hW)
    · rintro e w' ⟨rfl, hb⟩
      exact ⟨_, rfl, ents_nil _, hb⟩
  · unfold prI
    rw [hr]
    exact iPrune_any hT h x y z hr

end Go.Proofs.YtkmmifonandkoaaDoor

/-
  A region that draws its order, walked once by an invariant: what is done (d), what the done operations gave (f), and the world. One obligation an operation; no enumeration of orders.
-/
set_option linter.unusedVariables false
namespace Go.Proofs.YtkmmifonandkoaaDoor
open Go.RowKit

namespace Rg
def upd {α : Type} (d : Nat → α) (i : Nat) (v : α) : Nat → α := fun j => if j = i then v else d j
theorem upd_same {α : Type} (d : Nat → α) (i : Nat) (v : α) : upd d i v i = v := if_pos rfl
theorem upd_other {α : Type} (d : Nat → α) {i j : Nat} (v : α) (h : j ≠ i) : upd d i v j = d j := if_neg h
/-- The frame once the operations of which d says so are done, with the values f. -/
def fill : List Oper → Nat → (Nat → Bool) → (Nat → Value) → Act → Act
  | [], _, _, _, a => a
  | o :: r, i, d, f, a => fill r (i + 1) d f (if d i then a.put o.dst (f i) else a)
/-- The frame once all are done. -/
def fillAll : List Oper → Nat → (Nat → Value) → Act → Act
  | [], _, _, a => a
  | o :: r, i, f, a => fillAll r (i + 1) f (a.put o.dst (f i))
def apartL (o : Oper) (r : List Oper) : Bool := o.dst.isNone || r.all fun p => p.dst != o.dst
def distinct : List Oper → Bool
  | [] => true
  | o :: r => apartL o r && distinct r
theorem put_none (a : Act) (v : Value) : a.put none v = a := rfl
theorem put_comm (a : Act) {p q : Option Tmp} (x y : Value) (h : p = none ∨ q = none ∨ p ≠ q) : (a.put p x).put q y = (a.put q y).put p x := by
  cases p with
  | none => rfl
  | some s =>
    cases q with
    | none => rfl
    | some t =>
      have hne : s ≠ t := by
        rcases h with h | h | h
        · cases h
        · cases h
        · exact fun e => h (by rw [e])
      show Act.mk _ _ = Act.mk _ _
      simp only [Act.put]
      rw [Array.setIfInBounds_comm _ _ hne]
theorem fill_put {l : List Oper} {t : Option Tmp} (ht : t = none ∨ ∀ o ∈ l, o.dst ≠ t) : ∀ (i : Nat) (d : Nat → Bool) (f : Nat → Value) (a : Act) (v : Value), (fill l i d f a).put t v = fill l i d f (a.put t v) := by
  induction l with
  | nil => intro i d f a v; rfl
  | cons o r ih =>
    intro i d f a v
    have ht' : t = none ∨ ∀ p ∈ r, p.dst ≠ t := ht.imp id fun h p hp => h p (List.mem_cons_of_mem _ hp)
    simp only [fill]
    rw [ih ht']
    congr 1
    cases d i
    · rfl
    · simp only [if_true]
      refine put_comm a _ _ ?_
      rcases ht with h | h
      · exact .inr (.inl h)
      · exact .inr (.inr (h o List.mem_cons_self))
theorem fill_same {l : List Oper} : ∀ (i : Nat) {d d' : Nat → Bool} {f f' : Nat → Value} (a : Act), (∀ j, i ≤ j → d j = d' j ∧ f j = f' j) → fill l i d f a = fill l i d' f' a := by
  induction l with
  | nil => intro i d d' f f' a _; rfl
  | cons o r ih =>
    intro i d d' f f' a h
    simp only [fill]
    rw [(h i (Nat.le_refl _)).1, (h i (Nat.le_refl _)).2, ih (i + 1) _ fun j hj => h j (by omega)]
theorem fill_done {l : List Oper} : ∀ (i : Nat) {d : Nat → Bool} {f : Nat → Value} {a : Act} (k : Nat) (o : Oper) (v : Value), distinct l = true → l[k]? = some o → d (i + k) = false →
    (fill l i d f a).put o.dst v = fill l i (upd d (i + k) true) (upd f (i + k) v) a := by
  induction l with
  | nil => intro i d f a k o v _ h; cases h
  | cons p r ih =>
    intro i d f a k o v hd hk hf
    simp only [distinct, Bool.and_eq_true] at hd
    cases k with
    | zero =>
      simp only [List.getElem?_cons_zero, Option.some.injEq] at hk
      subst hk
      have hap : p.dst = none ∨ ∀ q ∈ r, q.dst ≠ p.dst := by
        have := hd.1
        simp only [apartL, Bool.or_eq_true, Option.isNone_iff_eq_none, List.all_eq_true, bne_iff_ne] at this
        exact this
      simp only [fill, Nat.add_zero] at hf ⊢
      rw [hf, upd_same, upd_same, fill_put hap]
      simp only [if_true]
      exact fill_same (i + 1) _ fun j hj => ⟨(upd_other d true (by omega)).symm, (upd_other f v (by omega)).symm⟩
    | succ k =>
      simp only [List.getElem?_cons_succ] at hk
      have h1 := ih (i + 1) (d := d) (f := f) (a := if d i then a.put p.dst (f i) else a) k o v hd.2 hk (by rwa [show i + 1 + k = i + (k + 1) by omega])
      simp only [fill]
      rw [h1, show i + 1 + k = i + (k + 1) by omega, upd_other d true (by omega : i ≠ i + (k + 1)), upd_other f v (by omega : i ≠ i + (k + 1))]
theorem fill_all {l : List Oper} : ∀ (i : Nat) {d : Nat → Bool} {f : Nat → Value} {a : Act}, (∀ j, i ≤ j → j < i + l.length → d j = true) → fill l i d f a = fillAll l i f a := by
  induction l with
  | nil => intro i d f a _; rfl
  | cons o r ih =>
    intro i d f a h
    simp only [fill, fillAll]
    rw [h i (Nat.le_refl _) (by simp), ih (i + 1) fun j h1 h2 => h j (by omega) (by simp only [List.length_cons]; omega)]
    rfl
theorem fill_none {l : List Oper} : ∀ (i : Nat) {d : Nat → Bool} {f : Nat → Value} {a : Act}, (∀ j, d j = false) → fill l i d f a = a := by
  induction l with
  | nil => intro i d f a _; rfl
  | cons o r ih =>
    intro i d f a h
    simp only [fill, h i]
    exact ih (i + 1) h
/-- What a done operation gave stands in its slot. -/
theorem fill_at {l : List Oper} : ∀ (i : Nat) {d : Nat → Bool} {f : Nat → Value} {a : Act} (k : Nat) (o : Oper) (t : Nat), distinct l = true → l[k]? = some o → o.dst = some t → d (i + k) = true → t < a.tmps.size → (fill l i d f a).eval (.tmp t) = f (i + k) := by
  have old : ∀ (l : List Oper) (t : Nat), (∀ p ∈ l, p.dst ≠ some t) → ∀ (i : Nat) (d : Nat → Bool) (f : Nat → Value) (a : Act), (fill l i d f a).tmps[t]? = a.tmps[t]? := by
    intro l t
    induction l with
    | nil => intro _ i d f a; rfl
    | cons o r ih =>
      intro h i d f a
      simp only [fill]
      rw [ih (fun p hp => h p (List.mem_cons_of_mem _ hp))]
      cases d i
      · rfl
      · simp only [if_true]
        cases hd : o.dst with
        | none => rfl
        | some s =>
          have hne : s ≠ t := fun e => h o List.mem_cons_self (by rw [hd, e])
          show (a.tmps.setIfInBounds s _)[t]? = _
          rw [Array.getElem?_setIfInBounds_ne hne]
  induction l with
  | nil => intro i d f a k o t _ h; cases h
  | cons p r ih =>
    intro i d f a k o t hd hk ht hdk hsz
    simp only [distinct, Bool.and_eq_true] at hd
    cases k with
    | zero =>
      simp only [List.getElem?_cons_zero, Option.some.injEq] at hk
      subst hk
      have hap : ∀ q ∈ r, q.dst ≠ some t := by
        have := hd.1
        rw [← ht]
        simp only [apartL, Bool.or_eq_true, Option.isNone_iff_eq_none, List.all_eq_true, bne_iff_ne] at this
        rcases this with h | h
        · rw [h] at ht; cases ht
        · exact h
      simp only [fill, Nat.add_zero] at hdk ⊢
      rw [hdk]
      simp only [if_true, Act.eval, Array.getD_eq_getD_getElem?]
      rw [old r t hap]
      show ((a.put p.dst (f i)).tmps[t]?).getD undef = f i
      rw [ht]
      show ((a.tmps.setIfInBounds t (f i))[t]?).getD undef = f i
      rw [Array.getElem?_setIfInBounds_self_of_lt hsz]
      rfl
    | succ k =>
      simp only [List.getElem?_cons_succ] at hk
      simp only [fill]
      rw [show i + (k + 1) = i + 1 + k by omega] at hdk ⊢
      refine ih (i + 1) k o t hd.2 hk ht hdk ?_
      cases d i
      · exact hsz
      · simp only [if_true]
        cases p.dst with
        | none => exact hsz
        | some s => show t < (a.tmps.setIfInBounds s _).size; rw [Array.size_setIfInBounds]; exact hsz
/-- Slots of others are as they were. -/
theorem fill_old {l : List Oper} {t : Nat} (h : (l.all fun p => p.dst != some t) = true) : ∀ (i : Nat) {d : Nat → Bool} {f : Nat → Value} {a : Act}, (fill l i d f a).eval (.tmp t) = a.eval (.tmp t) := by
  simp only [List.all_eq_true, bne_iff_ne] at h
  induction l with
  | nil => intro i d f a; rfl
  | cons o r ih =>
    intro i d f a
    simp only [fill]
    rw [ih (fun p hp => h p (List.mem_cons_of_mem _ hp))]
    cases d i
    · rfl
    · simp only [if_true]
      cases hd : o.dst with
      | none => rfl
      | some s =>
        have hne : s ≠ t := fun e => h o List.mem_cons_self (by rw [hd, e])
        show (a.tmps.setIfInBounds s _).getD t undef = a.tmps.getD t undef
        simp only [Array.getD_eq_getD_getElem?]
        rw [Array.getElem?_setIfInBounds_ne hne]
/-- How many of the first n are not done. -/
def left (d : Nat → Bool) : Nat → Nat
  | 0 => 0
  | n + 1 => left d n + (if d n then 0 else 1)
theorem left_upd (d : Nat → Bool) (i : Nat) (h : d i = false) : ∀ n, left (upd d i true) n + (if i < n then 1 else 0) = left d n := by
  intro n
  induction n with
  | zero => rfl
  | succ n ih =>
    simp only [left]
    by_cases hn : n = i
    · subst hn
      rw [upd_same, h]
      rw [if_neg (Nat.lt_irrefl _)] at ih
      simp only [if_true, Nat.lt_succ_self]
      simpa using ih
    · rw [upd_other d true hn]
      by_cases hi : i < n
      · rw [if_pos hi] at ih
        rw [if_pos (show i < n + 1 by omega)]
        omega
      · rw [if_neg hi] at ih
        rw [if_neg (show ¬ i < n + 1 by omega)]
        omega
theorem left_zero {d : Nat → Bool} : ∀ {n}, left d n = 0 → ∀ j, j < n → d j = true := by
  intro n
  induction n with
  | zero => intro _ j hj; exact absurd hj (Nat.not_lt_zero _)
  | succ n ih =>
    intro h j hj
    simp only [left] at h
    by_cases hjn : j = n
    · subst hjn
      cases hd : d j
      · rw [hd] at h; simp at h
      · rfl
    · exact ih (by omega) j (by omega)
/-- Each waits only for such as have a lower rank. -/
def orderedBy (rk : Nat → Nat) (n : Nat) : List Oper → Nat → Bool
  | [], _ => true
  | o :: r, i => (o.after.all fun e => !Region.binds .any e || (decide (e.on < n) && decide (rk e.on < rk i))) && orderedBy rk n r (i + 1)
theorem ordered_at {rk : Nat → Nat} {n : Nat} {l : List Oper} : ∀ (i : Nat) (k : Nat) (o : Oper), orderedBy rk n l i = true → l[k]? = some o → ∀ e ∈ o.after, Region.binds .any e = true → e.on < n ∧ rk e.on < rk (i + k) := by
  induction l with
  | nil => intro i k o _ h; cases h
  | cons p r ih =>
    intro i k o h hk e he hbi
    simp only [orderedBy, Bool.and_eq_true] at h
    cases k with
    | zero =>
      simp only [List.getElem?_cons_zero, Option.some.injEq] at hk
      subst hk
      have := Array.all_eq_true_iff_forall_mem.1 h.1 e he
      simpa [hbi] using this
    | succ k =>
      simp only [List.getElem?_cons_succ] at hk
      have := ih (i + 1) k o h.2 hk e he hbi
      rwa [show i + 1 + k = i + (k + 1) by omega] at this
/-- The step of one operation. -/
def Step (P : Program) (Q : Exit → Act → World → Prop) (l : List Oper) (a : Act) (I : (Nat → Bool) → (Nat → Value) → World → Prop) (i : Nat) (o : Oper) : Prop :=
  ∀ (d : Nat → Bool) (f : Nat → Value) (b : Act) (w : World), b = fill l 0 d f a → d i = false → (∀ e ∈ o.after, Region.binds .any e = true → d e.on = true) → I d f w →
    if Region.wanted o (yielded l.toArray b.tmps) = true then o.wp P b w (fun b' w' => ∃ v, b' = b.put o.dst v ∧ I (upd d i true) (upd f i v) w') Q else I (upd d i true) (upd f i undef) w
def Steps (P : Program) (Q : Exit → Act → World → Prop) (l : List Oper) (a : Act) (I : (Nat → Bool) → (Nat → Value) → World → Prop) : List Oper → Nat → Prop
  | [], _ => True
  | o :: r, i => Step P Q l a I i o ∧ Steps P Q l a I r (i + 1)
theorem steps_at {P : Program} {Q : Exit → Act → World → Prop} {l : List Oper} {a : Act} {I : (Nat → Bool) → (Nat → Value) → World → Prop} {r : List Oper} : ∀ {i : Nat}, Steps P Q l a I r i → ∀ (k : Nat) (o : Oper), r[k]? = some o → Step P Q l a I (i + k) o := by
  induction r with
  | nil => intro i _ k o h; cases h
  | cons p r ih =>
    intro i h k o hk
    cases k with
    | zero =>
      simp only [List.getElem?_cons_zero, Option.some.injEq] at hk
      subst hk
      exact h.1
    | succ k =>
      simp only [List.getElem?_cons_succ] at hk
      have := ih h.2 k o hk
      rwa [show i + 1 + k = i + (k + 1) by omega] at this

theorem any_inv {P : Program} {Q : Exit → Act → World → Prop} {l : List Oper} {a : Act} {I : (Nat → Bool) → (Nat → Value) → World → Prop} (rk : Nat → Nat) (hd : distinct l = true) (ho : orderedBy rk l.length l 0 = true)
    (hs : Steps P Q l a I l 0) (hend : ∀ d f w, I d f w → (∀ j, j < l.length → d j = true) → Q .normal (fillAll l 0 f a) w) :
    ∀ (fuel : Nat) (listed : Array Bool) (f : Nat → Value) (w : World), listed.size = l.length → left (fun j => listed.getD j false) l.length ≤ fuel → I (fun j => listed.getD j false) f w →
      wpAny P .any l.toArray Q fuel listed (fill l 0 (fun j => listed.getD j false) f a) w := by
  have done : ∀ (listed : Array Bool) (f : Nat → Value) (w : World), listed.size = l.length → Region.ready .any l.toArray listed = [] → I (fun j => listed.getD j false) f w → Q .normal (fill l 0 (fun j => listed.getD j false) f a) w := by
    intro listed f w hsz hr hI
    have hall : ∀ j, j < l.length → listed.getD j false = true := by
      have key : ∀ m j, rk j = m → j < l.length → listed.getD j false = true := by
        intro m
        induction m using Nat.strongRecOn with
        | ind m ih =>
          intro j hm hj
          cases hb : listed.getD j false
          · exfalso
            have hmem : j ∈ Region.ready .any l.toArray listed := by
              unfold Region.ready
              rw [List.mem_filter]
              refine ⟨by simpa using hj, ?_⟩
              have h1 : listed.getD j true = false := by
                have hj2 : j < listed.size := by omega
                simp [Array.getD, hj2] at hb ⊢
                exact hb
              have h2 : l.toArray[j]? = some l[j] := by simp [hj]
              rw [h1, h2]
              simp only [Bool.not_false, Bool.true_and, Option.map_some, Option.getD_some]
              rw [Array.all_eq_true_iff_forall_mem]
              intro e hee
              cases hbi : Region.binds .any e
              · rfl
              · have h3 := ordered_at 0 j l[j] ho (by simp [hj]) e hee hbi
                rw [Nat.zero_add, hm] at h3
                rw [ih (rk e.on) h3.2 e.on rfl h3.1]
                rfl
            rw [hr] at hmem
            cases hmem
          · rfl
      exact fun j => key _ j rfl
    rw [fill_all 0 fun j _ h2 => hall j (by omega)]
    exact hend _ f w hI hall
  intro fuel
  induction fuel with
  | zero =>
    intro listed f w hsz hl hI
    have hall := left_zero (Nat.le_zero.1 hl)
    have hr : Region.ready .any l.toArray listed = [] := by
      unfold Region.ready
      rw [List.filter_eq_nil_iff]
      intro j hj
      have hj2 : j < l.length := by simpa using hj
      have h1 := hall j hj2
      have h2 : listed.getD j true = true := by
        have hj3 : j < listed.size := by omega
        simp [Array.getD, hj3] at h1 ⊢
        exact h1
      rw [h2]
      simp
    exact ⟨hr, done listed f w hsz hr hI⟩
  | succ fuel ih =>
    intro listed f w hsz hl hI
    refine ⟨fun hr => done listed f w hsz hr hI, fun i hi => ?_⟩
    have hmem := hi
    unfold Region.ready at hmem
    rw [List.mem_filter] at hmem
    obtain ⟨h1, h2⟩ := hmem
    have hil : i < l.length := by simpa using h1
    have hoi : l[i]? = some l[i] := by simp [hil]
    have hoa : l.toArray[i]? = some l[i] := by simp [hil]
    rw [hoa] at h2
    simp only [Option.map_some, Option.getD_some, Bool.and_eq_true, Bool.not_eq_true'] at h2
    have hdi : listed.getD i false = false := by
      have hj3 : i < listed.size := by omega
      have h3 := h2.1
      simp [Array.getD, hj3] at h3 ⊢
      exact h3
    have haft : ∀ e ∈ l[i].after, Region.binds .any e = true → listed.getD e.on false = true := by
      intro e hee h4
      have h3 := Array.all_eq_true_iff_forall_mem.1 h2.2 e hee
      rw [h4] at h3
      simpa using h3
    have hst := steps_at hs i l[i] hoi (fun j => listed.getD j false) f _ w rfl (by rw [Nat.zero_add]; exact hdi) haft hI
    have hset : (fun j => (listed.setIfInBounds i true).getD j false) = upd (fun j => listed.getD j false) i true := by
      funext j
      unfold upd
      by_cases hji : j = i
      · subst hji
        rw [if_pos rfl]
        simp [Array.getD_eq_getD_getElem?, Array.getElem?_setIfInBounds_self_of_lt (show j < listed.size by omega)]
      · rw [if_neg hji]
        simp only [Array.getD_eq_getD_getElem?]
        rw [Array.getElem?_setIfInBounds_ne (Ne.symm hji)]
    have hnext : ∀ v w', I (upd (fun j => listed.getD j false) i true) (upd f i v) w' → wpAny P .any l.toArray Q fuel (listed.setIfInBounds i true) ((fill l 0 (fun j => listed.getD j false) f a).put l[i].dst v) w' := by
      intro v w' hI'
      have h5 := fill_done 0 (d := fun j => listed.getD j false) (f := f) (a := a) i l[i] v hd hoi (by rw [Nat.zero_add]; exact hdi)
      rw [h5, Nat.zero_add, ← hset]
      refine ih (listed.setIfInBounds i true) (upd f i v) w' (by rw [Array.size_setIfInBounds]; exact hsz) ?_ (by rw [hset]; exact hI')
      rw [hset]
      have h6 := left_upd (fun j => listed.getD j false) i hdi l.length
      rw [if_pos hil] at h6
      omega
    unfold wpOp
    rw [hoa]
    rw [Nat.zero_add] at hst
    dsimp only at hst ⊢
    split at hst
    · rename_i hw
      rw [if_pos hw]
      refine .inl (Oper.wp_mono ?_ hst)
      rintro b' w' ⟨v, rfl, hI'⟩
      exact hnext v w' hI'
    · rename_i hw
      rw [if_neg hw]
      exact hnext undef w hst

/-- **The law.** -/
theorem region_inv {P : Program} {id : Nat} {Q : Exit → Act → World → Prop} {a : Act} {w : World} {l : List Oper} (rk : Nat → Nat) (hm : P.follows .mixedOrders = true) (hd : distinct l = true) (ho : orderedBy rk l.length l 0 = true)
    (I : (Nat → Bool) → (Nat → Value) → World → Prop) (h0 : I (fun _ => false) (fun _ => undef) w.drew) (hs : Steps P Q l a I l 0)
    (hend : ∀ d f w', I d f w' → (∀ j, j < l.length → d j = true) → Q .normal (fillAll l 0 f a) w') : (Code.region id l.toArray true).wp P Q a w := by
  refine wp_region_any hm ?_
  have hrep : (fun j => (Array.replicate l.toArray.size false).getD j false) = fun _ => false := by
    funext j
    simp [Array.getD_eq_getD_getElem?, Array.getElem?_replicate]
    split <;> rfl
  have h := any_inv rk hd ho hs hend l.toArray.size (Array.replicate l.toArray.size false) (fun _ => undef) w.drew (by simp) ?_ (by rw [hrep]; exact h0)
  · rw [hrep, fill_none 0 fun _ => rfl] at h
    exact h
  · have hle : ∀ (d : Nat → Bool) n, left d n ≤ n := by
      intro d n
      induction n with
      | zero => exact Nat.le_refl _
      | succ n ih => simp only [left]; split <;> omega
    simpa using hle _ l.length
end Rg

end Go.Proofs.YtkmmifonandkoaaDoor

/-
  The steps of operations, for the law on regions by an invariant.
-/
set_option linter.unusedVariables false
namespace Go.Proofs.YtkmmifonandkoaaDoor
open Go.RowKit

namespace Rg
variable {P : Program} {Q : Exit → Act → World → Prop} {o : Oper} {b : Act} {w : World} {ops : Array Oper} {J : Value → World → Prop} {E : Prop}
theorem by_wp (hg : o.guard = none) (h : o.wp P b w (fun b' w' => ∃ v, b' = b.put o.dst v ∧ J v w') Q) :
    if Region.wanted o (yielded ops b.tmps) = true then o.wp P b w (fun b' w' => ∃ v, b' = b.put o.dst v ∧ J v w') Q else E := by
  rw [if_pos (by simp [Region.wanted, hg])]; exact h
theorem by_run (hg : o.guard = none) (v : Value) (w' : World) (hrun : (execOp b.eval o).run P w = .ok (.value v) w') (h : J v w') :
    if Region.wanted o (yielded ops b.tmps) = true then o.wp P b w (fun b' w' => ∃ v, b' = b.put o.dst v ∧ J v w') Q else E := by
  refine by_wp hg ?_
  unfold Oper.wp
  rw [hrun, Oper.upon_value]
  exact ⟨v, rfl, h⟩
theorem by_call (hg : o.guard = none) (g : FuncId) (args : Array Value) (hrun : (execOp b.eval o).run P w = .ok (.enter g args) w) (h : Calls P g args w fun e w' => ∃ v, e = .returned v ∧ J v w') :
    if Region.wanted o (yielded ops b.tmps) = true then o.wp P b w (fun b' w' => ∃ v, b' = b.put o.dst v ∧ J v w') Q else E := by
  refine by_wp hg ?_
  unfold Oper.wp
  rw [hrun, Oper.upon_enter]
  refine h.mono fun e w' hh => ?_
  obtain ⟨v, rfl, hj⟩ := hh
  exact ⟨v, rfl, hj⟩
theorem by_move (hg : o.guard = none) (x : Operand) (ho : o.op = .move x) (v : Value) (hv : b.eval x = v) (h : J v w) :
    if Region.wanted o (yielded ops b.tmps) = true then o.wp P b w (fun b' w' => ∃ v, b' = b.put o.dst v ∧ J v w') Q else E :=
  by_wp hg (by unfold Oper.wp execOp; rw [ho]; exact ⟨_, rfl, by rw [hv]; exact h⟩)
theorem by_assign (hg : o.guard = none) (x : Operand) (ho : o.op = .assign x) (v : Value) (hv : b.eval x = v) (h : J v w) :
    if Region.wanted o (yielded ops b.tmps) = true then o.wp P b w (fun b' w' => ∃ v, b' = b.put o.dst v ∧ J v w') Q else E :=
  by_wp hg (by unfold Oper.wp execOp; rw [ho]; exact ⟨_, rfl, by rw [hv]; exact h⟩)
theorem by_load (hg : o.guard = none) (ty : TypeId) (x : Operand) (ho : o.op = .load ty x) (g : Nat) (hx : b.eval x = .pointer (some ⟨g, 0, none⟩)) (t : TypeId) (cs : Array Value) (fr : Nat × Nat) (d : TypeDesc) (hgg : w.heap[g]? = some (.cells cs t fr))
    (hu : P.underlying ty = some d) (hd : (match d with | .struct _ | .array _ _ => true | _ => false) = true) (hi : (P.info? ty).map (·.size) = some cs.size) (h : J (.agg cs) w) :
    if Region.wanted o (yielded ops b.tmps) = true then o.wp P b w (fun b' w' => ∃ v, b' = b.put o.dst v ∧ J v w') Q else E :=
  by_wp hg (wp_load_row ty x ho g hx t cs fr d hgg hu hd hi ⟨_, rfl, h⟩)
theorem by_store (hg : o.guard = none) (ty : TypeId) (x y : Operand) (ho : o.op = .store ty x y) (g : Nat) (cells : Array Value) (hx : b.eval x = .pointer (some ⟨g, 0, none⟩)) (hy : b.eval y = .agg cells)
    (t : TypeId) (old : Array Value) (hgg : w.heap[g]? = some (.cells old t (0, 0))) (hi : (P.info? ty).map (·.size) = some cells.size) (hold : old.size = cells.size) (h1 : cells.all (·.oneCell') = true) (h : J undef (w.setRow g cells)) :
    if Region.wanted o (yielded ops b.tmps) = true then o.wp P b w (fun b' w' => ∃ v, b' = b.put o.dst v ∧ J v w') Q else E :=
  by_wp hg (wp_store_row ty x y ho g cells hx hy t old hgg hi hold h1 ⟨_, rfl, h⟩)
/-- What a done operation gave, in its slot. -/
theorem eval_at {l : List Oper} {d : Nat → Bool} {f : Nat → Value} {a : Act} (hb : b = fill l 0 d f a) (k : Nat) (p : Oper) (t : Nat) (hd : distinct l = true) (hk : l[k]? = some p) (ht : p.dst = some t) (hdk : d k = true) (hsz : t < a.tmps.size) : b.eval (.tmp t) = f k := by
  have h := fill_at 0 (d := d) (f := f) (a := a) k p t hd hk ht (by rw [Nat.zero_add]; exact hdk) hsz
  rw [Nat.zero_add] at h
  rw [hb]; exact h
theorem eval_old {l : List Oper} {d : Nat → Bool} {f : Nat → Value} {a : Act} (hb : b = fill l 0 d f a) (t : Nat) (ht : (l.all fun p => p.dst != some t) = true) : b.eval (.tmp t) = a.eval (.tmp t) := by
  rw [hb]; exact fill_old ht 0
/-- What grows by an append to nothing leaves all that was. -/
theorem grown_below {w w' : World} {v : Value} (hv : v.ownBlock = none) (hg : w.grownBy w' v.ownBlock) : Below w.heap.size w w' := ⟨hg.os, hg.tape, hg.output, hg.size, fun k hk => hg.block k hk (by rw [hv]; simp)⟩
end Rg

end Go.Proofs.YtkmmifonandkoaaDoor

/-
  The contract of index.copied.
-/
set_option linter.unusedVariables false
namespace Go.Proofs.YtkmmifonandkoaaDoor
open Go.RowKit

/-- What a round of copied knows: the entry's block, the row of one's own. -/
def CpRel (w : World) (h : Nat) (s : ByteArray) (u : Value) (lv : Value) (fs : List EntV) (m : List Ent) (W : World) : Prop :=
  Below w.heap.size w W ∧ EBox W h s u ∧ OwnsE W w.heap.size lv fs ∧ LeadsX w.heap.size W fs m ∧ ∀ g, lv.ownBlock = some g → g < h
theorem CpRel.next {w W W' : World} {h : Nat} {s : ByteArray} {u lv : Value} {fs : List EntV} {m : List Ent} (H : CpRel w h s u lv fs m W) (hb : Below W.heap.size W W') : CpRel w h s u lv fs m W' := by
  obtain ⟨h1, h2, h3, h4, h5⟩ := H
  exact ⟨h1.trans (hb.mono h1.size), h2.over hb, h3.next hb, h4.next hb, h5⟩
theorem CpRel.alloc {w W : World} {h : Nat} {s : ByteArray} {u lv : Value} {fs : List EntV} {m : List Ent} (H : CpRel w h s u lv fs m W) (o : Obj) : CpRel w h s u lv fs m (W.alloc o) := H.next ((Below.refl _ _).alloc (Nat.le_refl _) o)
/-- The entry's cells. -/
def CpC (h : Nat) (s : ByteArray) (u : Value) (W : World) : Prop := W.cell? ⟨h, 0, none⟩ = some (.string s) ∧ W.cell? ⟨h, 1, none⟩ = some u
theorem CpRel.c {w W : World} {h : Nat} {s : ByteArray} {u lv : Value} {fs : List EntV} {m : List Ent} (H : CpRel w h s u lv fs m W) : CpC h s u W := H.2.1.cell
theorem CpRel.grown {w W W' : World} {h : Nat} {s : ByteArray} {u lv : Value} {fs : List EntV} {m : List Ent} (H : CpRel w h s u lv fs m W) (hg : W.grownBy W' lv.ownBlock) : CpC h s u W' := by
  have hlt := H.2.1.lt
  have hb := hg.block h hlt (fun e => by have := H.2.2.2.2 h e.symm; omega)
  exact ⟨(World.cell?_of_block hb).trans H.c.1, (World.cell?_of_block hb).trans H.c.2⟩

set_option maxRecDepth 100000 in
set_option maxHeartbeats 2000000 in
theorem copied_any {w : World} {v : Value} {l : List Ent} (h : Ents w v l) (h64 : l.length ≤ 64) (hcs : ∀ i, i < l.length → (lat l i).2.length ≤ 64) :
    Calls Tryd.prog 35 #[v] w fun e w' => ∃ v', e = .returned v' ∧ Ents w' v' l ∧ Below w.heap.size w w' := by
  obtain ⟨ao, n, cap, es, rfl, hl, hle, hmx, hn, hrow, hlead⟩ := h.opened
  obtain ⟨i0, hii, hz0, hz1, hz2⟩ := info_parts info_ent
  have HL := Lib.hid hl
  have HR := Lib.hid hrow
  have HE := Lib.hid hlead
  have HCS := Lib.hid hcs
  have hn64 : n ≤ 64 := by omega
  clear hl hrow hlead hle hmx h hcs h64
  go_enter Tryd.func35, Tryd.ntmps35
  go_wp2_with (at_make; refine wpList_make_own _ rfl _ _ 22 rfl w.heap.size 60 i0 _ 2 Tryd.underlying22 hii hz0 hz1 .i64 .i64 _ n rfl rfl rfl (by rw [hz2]; omega) (by unfold maxLen; omega) (Nat.le_refl _) ?_; intro w0 hown0 hgrow0)
  have H0 : Hid (OwnsE w0 w.heap.size (.slice (some ⟨w.heap.size, 0, none⟩) 0 n) [] ∧ Below w.heap.size w w0) := ⟨hown0, (Below.refl _ _).grown hgrow0 (Nat.le_refl _) (by simp)⟩
  clear hown0 hgrow0
  go_loopw [3, 11] (fun lv i wr => ∃ k : Nat, k ≤ n ∧ i = .int .i64 k ∧ Hid (Below w.heap.size w wr) ∧ Hid (∃ fs, OwnsE wr w.heap.size lv fs ∧ LeadsX w.heap.size wr fs (l.take k))) (fun _ i _ => n - (intOf i).toNat)
  case atStart => exact ⟨0, Nat.zero_le _, rfl, H0.out.2, [], H0.out.1, LeadsX.nil _ _⟩
  case round =>
    obtain ⟨k, hk, rfl, hbel, hown⟩ := hrel
    by_cases hlt : k < n
    · obtain ⟨b, off, rfl, hb, hcl⟩ := HR.out (by omega)
      have hkl : k < l.length := by rw [HL.out]; exact hlt
      obtain ⟨hkey, hvers⟩ := HE.out.2 k hkl
      obtain ⟨s, hs⟩ : ∃ s, s = (lat l k).1 := ⟨_, rfl⟩
      obtain ⟨c, hc⟩ : ∃ c, c = (lat l k).2 := ⟨_, rfl⟩
      rw [← hc] at hvers
      have hc64 : c.length ≤ 64 := by rw [hc]; exact HCS.out k hkl
      obtain ⟨ao', cap', hv⟩ := vers_slice' hvers
      obtain ⟨m, hm⟩ : ∃ m, m = c.length := ⟨_, rfl⟩
      rw [← hm] at hv
      rw [hv] at hvers
      have HK : Hid (EntAt wr b (off + k * 2) (s, .slice ao' m cap')) := by
        have := (hcl k hlt).next hbel.out hb
        unfold EntAt at this ⊢
        rw [hs, ← hkey, ← hv]; exact this
      have HCL : Hid (∀ W, Below w.heap.size w W → Calls Tryd.prog 60 #[.slice ao' m cap'] W fun e w' => ∃ v', e = .returned v' ∧ OwnsV w' W.heap.size v' c ∧ Below W.heap.size W w') := fun W hW => Clone_any (hvers.next hW) hc64
      have HKK : Hid (lat l k = (s, c)) := by show _ = _; rw [hs, hc]
      have HKL := Lib.hid hkl
      obtain ⟨fs, hfs, hld⟩ := hown.out
      obtain ⟨ms, hms⟩ : ∃ ms, ms = l.take k := ⟨_, rfl⟩
      rw [← hms] at hld
      have HMS : Hid (l.take (k + 1) = ms ++ [(s, c)]) := by show _ = _; rw [take_lat hkl, ← hms, HKK.out]
      have HLEN : Hid (fs.length ≤ 64) := by
        show _ ≤ _
        rw [hld.1, hms, List.length_take]
        omega
      have H1 : Hid (CpRel w wr.heap.size s (.slice ao' m cap') u3 fs ms (wr.alloc (.cells #[.string s, .slice ao' m cap'] 60))) := by
        have hal : Below wr.heap.size wr (wr.alloc (.cells #[.string s, .slice ao' m cap'] 60)) := (Below.refl _ _).alloc (Nat.le_refl _) _
        refine ⟨hbel.out.trans (hal.mono hbel.out.size), EBox.new _ _ _, hfs.next hal, hld.next hal, fun g hg => ?_⟩
        obtain ⟨_, cs, hgc⟩ := hfs.block g hg
        rcases Nat.lt_or_ge g wr.heap.size with h1 | h1
        · exact h1
        · rw [Array.getElem?_eq_none h1] at hgc; cases hgc
      obtain ⟨k0, k1⟩ := HK.out
      dsimp only at k0 k1
      have q4 : k < n := hlt
      clear hkey hvers hs hc hv hm hcl hkl hms hfs hld hown hbel hc64
      go_upto_region 5 with (fail)
      clear k0 k1 HK
      generalize wr.alloc (.cells #[.string s, .slice ao' m cap'] 60) = w2 at H1 ⊢
      generalize wr.heap.size = hh at H1 ⊢
      have HR0 : CpRel w hh s (.slice ao' m cap') u3 fs ms w2.drew := H1.out.next ((Below.refl _ _).drew)
      have HS0 := HR0.c
      have hln := HLEN.out
      have HR0H := Lib.hid HR0
      clear HR0
      go_region_held3 (fun W => W.cell? ⟨hh, 0, none⟩ = some (.string s) ∧ W.cell? ⟨hh, 1, none⟩ = some (.slice ao' m cap')) ((show CpC hh s (.slice ao' m cap') _; first | (with_reducible exact hs3) | (with_reducible exact hs2) | (with_reducible exact hs1) | (with_reducible exact HS0))) ((first | (go_at_call 60; refine (HCL.out _ HR0H.out.1).mono ?_; rintro e w1 ⟨v1, rfl, ho1, hb1⟩; have hr1 := Lib.hid (HR0H.out.next hb1); have hs1 : CpC hh s (.slice ao' m cap') w1 := hr1.out.c; have hx1 : Hid (VersX w.heap.size w1 v1 c) := ho1.x; clear ho1 hb1; obtain ⟨ao7, cap7, rfl⟩ := vers_slice' hx1.out.1; have hs2 : CpC hh s (.slice ao' m cap') (w1.alloc (.cells #[.string s, .slice ao7 c.length cap7] 60)) := (hr1.out.alloc _).c) | (have hown1 : w1.ownsRow w.heap.size 60 2 u3 fs.length (entsC fs) := hr1.out.2.2.1; have hsz1 := hr1.out.1.size; refine step_append_lies _ (by rfl) _ _ 22 (by rfl) w.heap.size 60 i0 _ 2 40 Tryd.underlying22 hii hz0 hz1 hz2 rfl (by decide) _ _ _ (by rfl) (hown1.alloc _) ⟨w1.heap.size, 0, none⟩ 1 1 (entC (s, .slice ao7 c.length cap7)) (by rfl) (by rfl) (ent_new w1 (s, .slice ao7 c.length cap7)) (entC_one rfl) (by decide) (by unfold maxLen; omega) (by omega) (by simp; omega) (w1.heap.size + 1) (by simp) ?_; intro gg cap8 w3 hown3 hgrow3 hat3 hlt3; have hs3 : CpC hh s (.slice ao' m cap') w3 := (hr1.out.alloc _).grown hgrow3)))
      all_goals
        go_wp2_with fail
        have hal : Below w1.heap.size w1 (w1.alloc (.cells #[.string s, .slice ao7 c.length cap7] 60)) := (Below.refl _ _).alloc (Nat.le_refl _) _
        have hown1 : w1.ownsRow w.heap.size 60 2 u3 fs.length (entsC fs) := hr1.out.2.2.1
        have hsz1 := hr1.out.1.size
        have hb3 := (hr1.out.1.alloc hsz1 _).grown hgrow3 (by simp; omega) (fun k hk => (hown1.lt k hk).1)
        rw [entsC_snoc] at hown3
        refine ⟨⟨k + 1, by omega, by go_num, hb3, fs ++ [(s, .slice ao7 c.length cap7)], ?_, ?_⟩, by simp [intOf]; omega⟩
        · unfold OwnsE
          rw [List.length_append, List.length_singleton]
          exact hown3
        · rw [HMS.out]
          exact ((hr1.out.2.2.2.1.next hal).snoc (hx1.out.next hal)).grown (OwnsE.next hr1.out.2.2.1 hal) hgrow3
    · obtain rfl : k = n := by omega
      have HN : Hid (Ents wr u3 l) := by
        obtain ⟨fs, h1, h2⟩ := hown.out
        rw [List.take_of_length_le (by rw [HL.out]; exact Nat.le_refl _)] at h2
        exact own_ents h1 h2
      go_wp2_with fail
      go_ret
      exact ⟨u3, rfl, HN.out, hbel.out⟩

end Go.Proofs.YtkmmifonandkoaaDoor

/-
  The contract of index.Cut.
-/
set_option linter.unusedVariables false
namespace Go.Proofs.YtkmmifonandkoaaDoor
open Go.RowKit

set_option maxRecDepth 100000 in
set_option maxHeartbeats 1000000 in
theorem iCut_bad (w : World) (v : Value) (a : ByteArray) (HR : Hid (∀ W, Below w.heap.size w W → Calls Tryd.prog 16 #[v] W fun e w' => e = .returned (.bool false) ∧ Below W.heap.size W w')) :
    Calls Tryd.prog 26 #[v, .string a] w fun e w' => e = .returned (.tuple #[.slice none 0 0, .slice none 0 0]) ∧ Below w.heap.size w w' := by
  go_enter Tryd.func26, Tryd.ntmps26
  go_wp2_with fail
  refine (HR.out _ (Below.refl _ _)).mono ?_
  rintro e w1 ⟨rfl, hb1⟩
  go_wp2_with fail
  go_ret2
  exact ⟨rfl, hb1⟩

set_option maxRecDepth 100000 in
set_option maxHeartbeats 1000000 in
theorem iCut_row (w : World) (ao : Option Addr) (m cap : Nat) (a : ByteArray) (n : Nat) (hnm : n ≤ m) (hmc : m ≤ cap) (hcm : cap ≤ 9223372036854775807) (l1 l2 : List Ent)
    (hao : (ao = none ∧ m = 0) ∨ (m = 0 ∧ ∃ ad, ao = some ad) ∨ ∃ b off, ao = some ⟨b, off, none⟩)
    (HR : Hid (∀ W, Below w.heap.size w W → Calls Tryd.prog 16 #[.slice ao m cap] W fun e w' => e = .returned (.bool true) ∧ Below W.heap.size W w'))
    (HF : Hid (∀ W, Below w.heap.size w W → Calls Tryd.prog 45 #[.slice ao m cap, .string a] W fun e w' => e = .returned (.int .i64 n) ∧ Below W.heap.size W w'))
    (H1 : Hid (∀ W (p : Option Addr) (c : Nat), Below w.heap.size w W → n ≤ c → c ≤ cap → (0 < n → p = ao) → Calls Tryd.prog 35 #[.slice p n c] W fun e w' => ∃ v', e = .returned v' ∧ Ents w' v' l1 ∧ Below W.heap.size W w'))
    (H2 : Hid (∀ W (p : Option Addr) (c : Nat), Below w.heap.size w W → m - n ≤ c → c ≤ cap → (n < m → ∀ b off, ao = some ⟨b, off, none⟩ → p = some ⟨b, off + n * 2, none⟩) → Calls Tryd.prog 35 #[.slice p (m - n) c] W fun e w' => ∃ v', e = .returned v' ∧ Ents w' v' l2 ∧ Below W.heap.size W w')) :
    Calls Tryd.prog 26 #[.slice ao m cap, .string a] w fun e w' => ∃ v1 v2, e = .returned (.tuple #[v1, v2]) ∧ Ents w' v1 l1 ∧ Ents w' v2 l2 ∧ Below w.heap.size w w' := by
  rcases hao with ⟨rfl, rfl⟩ | ⟨rfl, ad, rfl⟩ | ⟨b, off, rfl⟩
  · obtain rfl : n = 0 := by omega
    have HX : Hid (0 ≤ cap ∧ cap ≤ cap ∧ 0 ≤ cap) := ⟨by omega, by omega, by omega⟩
    rw [Nat.sub_self] at H2
    go_enter Tryd.func26, Tryd.ntmps26
    go_wp2_with fail
    refine (HR.out _ (Below.refl _ _)).mono ?_
    rintro e w1 ⟨rfl, hb1⟩
    have HB1 := Lib.hid hb1
    clear hb1
    go_wp2_with fail
    refine (HF.out _ HB1.out).mono ?_
    rintro e w2 ⟨rfl, hb2⟩
    have HB2 : Hid (Below w.heap.size w w2) := HB1.out.trans (hb2.mono HB1.out.size)
    clear hb2 HB1 HR HF
    go_upto_region 4 with (fail)
    have HD2 : Hid (Below w.heap.size w w2.drew) := HB2.out.drew
    go_region_held3 (fun _ => True) (trivial) (first
      | (have hd3 := H3.out.2; go_at_call 35; refine (H2.out _ _ _ hd3 HX.out.1 HX.out.2.1 ?_).mono ?_; (intro h; omega); rintro e w4 ⟨v4, rfl, he4, hb4⟩; have H4 : Hid (Ents w4 v4 l2 ∧ Ents w4 v3 l1 ∧ Below w.heap.size w w4) := ⟨he4, H3.out.1.next hb4, H3.out.2.trans (hb4.mono H3.out.2.size)⟩; clear he4 hb4 hd3)
      | (go_at_call 35; refine (H1.out _ _ _ HD2.out HX.out.2.2 (Nat.le_refl _) (by intro h; omega)).mono ?_; rintro e w3 ⟨v3, rfl, he3, hb3⟩; have H3 : Hid (Ents w3 v3 l1 ∧ Below w.heap.size w w3) := ⟨he3, HD2.out.trans (hb3.mono HD2.out.size)⟩; clear he3 hb3))
    all_goals
      go_wp2_with fail
      go_ret2
      exact ⟨_, _, rfl, H4.out.2.1, H4.out.1, H4.out.2.2⟩
  · obtain rfl : n = 0 := by omega
    have HX : Hid (0 ≤ cap ∧ cap ≤ cap ∧ 0 ≤ cap) := ⟨by omega, by omega, by omega⟩
    rw [Nat.sub_self] at H2
    go_enter Tryd.func26, Tryd.ntmps26
    go_wp2_with fail
    refine (HR.out _ (Below.refl _ _)).mono ?_
    rintro e w1 ⟨rfl, hb1⟩
    have HB1 := Lib.hid hb1
    clear hb1
    go_wp2_with fail
    refine (HF.out _ HB1.out).mono ?_
    rintro e w2 ⟨rfl, hb2⟩
    have HB2 : Hid (Below w.heap.size w w2) := HB1.out.trans (hb2.mono HB1.out.size)
    clear hb2 HB1 HR HF
    go_upto_region 4 with (fail)
    have HD2 : Hid (Below w.heap.size w w2.drew) := HB2.out.drew
    go_region_held3 (fun _ => True) (trivial) (first
      | (have hd3 := H3.out.2; go_at_call 35; refine (H2.out _ _ _ hd3 HX.out.1 HX.out.2.1 ?_).mono ?_; (intro h; omega); rintro e w4 ⟨v4, rfl, he4, hb4⟩; have H4 : Hid (Ents w4 v4 l2 ∧ Ents w4 v3 l1 ∧ Below w.heap.size w w4) := ⟨he4, H3.out.1.next hb4, H3.out.2.trans (hb4.mono H3.out.2.size)⟩; clear he4 hb4 hd3)
      | (go_at_call 35; refine (H1.out _ _ _ HD2.out HX.out.2.2 (Nat.le_refl _) (by intro h; omega)).mono ?_; rintro e w3 ⟨v3, rfl, he3, hb3⟩; have H3 : Hid (Ents w3 v3 l1 ∧ Below w.heap.size w w3) := ⟨he3, HD2.out.trans (hb3.mono HD2.out.size)⟩; clear he3 hb3))
    all_goals
      go_wp2_with fail
      go_ret2
      exact ⟨_, _, rfl, H4.out.2.1, H4.out.1, H4.out.2.2⟩
  · rcases Nat.lt_or_ge n cap with hc | hc
    · have q1 : n ≤ cap := by omega
      have q2 : ¬ n = cap := by omega
      have q3 : ¬ cap ≤ n := by omega
      have q4 : ¬ cap - n = 0 := by omega
      go_enter Tryd.func26, Tryd.ntmps26
      go_wp2_with fail
      refine (HR.out _ (Below.refl _ _)).mono ?_
      rintro e w1 ⟨rfl, hb1⟩
      have HB1 := Lib.hid hb1
      clear hb1
      go_wp2_with fail
      refine (HF.out _ HB1.out).mono ?_
      rintro e w2 ⟨rfl, hb2⟩
      have HB2 : Hid (Below w.heap.size w w2) := HB1.out.trans (hb2.mono HB1.out.size)
      clear hb2 HB1 HR HF
      go_upto_region 4 with (fail)
      have HD2 : Hid (Below w.heap.size w w2.drew) := HB2.out.drew
      obtain ⟨r, hr⟩ : ∃ r, m - n = r := ⟨_, rfl⟩
      obtain ⟨c2, hc2⟩ : ∃ c2, cap - n = c2 := ⟨_, rfl⟩
      have HX : Hid (r ≤ c2 ∧ c2 ≤ cap ∧ n ≤ cap) := ⟨by omega, by omega, by omega⟩
      rw [hr] at H2
      go_region_held3 (fun _ => True) (trivial) (first
        | (have hd3 := H3.out.2; go_at_call 35; refine (H2.out _ _ _ hd3 HX.out.1 HX.out.2.1 ?_).mono ?_; (intro h b0 off0 e0; cases e0; rfl); rintro e w4 ⟨v4, rfl, he4, hb4⟩; have H4 : Hid (Ents w4 v4 l2 ∧ Ents w4 v3 l1 ∧ Below w.heap.size w w4) := ⟨he4, H3.out.1.next hb4, H3.out.2.trans (hb4.mono H3.out.2.size)⟩; clear he4 hb4 hd3)
        | (go_at_call 35; refine (H1.out _ _ _ HD2.out HX.out.2.2 (Nat.le_refl _) (fun _ => rfl)).mono ?_; rintro e w3 ⟨v3, rfl, he3, hb3⟩; have H3 : Hid (Ents w3 v3 l1 ∧ Below w.heap.size w w3) := ⟨he3, HD2.out.trans (hb3.mono HD2.out.size)⟩; clear he3 hb3))
      all_goals
        go_wp2_with fail
        go_ret2
        exact ⟨_, _, rfl, H4.out.2.1, H4.out.1, H4.out.2.2⟩
    · obtain rfl : n = cap := by omega
      obtain rfl : n = m := by omega
      have HX : Hid (0 ≤ 0 ∧ 0 ≤ n ∧ n ≤ n) := ⟨by omega, by omega, by omega⟩
      rw [Nat.sub_self] at H2
      go_enter Tryd.func26, Tryd.ntmps26
      go_wp2_with fail
      refine (HR.out _ (Below.refl _ _)).mono ?_
      rintro e w1 ⟨rfl, hb1⟩
      have HB1 := Lib.hid hb1
      clear hb1
      go_wp2_with fail
      refine (HF.out _ HB1.out).mono ?_
      rintro e w2 ⟨rfl, hb2⟩
      have HB2 : Hid (Below w.heap.size w w2) := HB1.out.trans (hb2.mono HB1.out.size)
      clear hb2 HB1 HR HF
      go_upto_region 4 with (fail)
      have HD2 : Hid (Below w.heap.size w w2.drew) := HB2.out.drew
      go_region_held3 (fun _ => True) (trivial) (first
        | (have hd3 := H3.out.2; go_at_call 35; refine (H2.out _ _ _ hd3 HX.out.1 HX.out.2.1 ?_).mono ?_; (intro h; omega); rintro e w4 ⟨v4, rfl, he4, hb4⟩; have H4 : Hid (Ents w4 v4 l2 ∧ Ents w4 v3 l1 ∧ Below w.heap.size w w4) := ⟨he4, H3.out.1.next hb4, H3.out.2.trans (hb4.mono H3.out.2.size)⟩; clear he4 hb4 hd3)
        | (go_at_call 35; refine (H1.out _ _ _ HD2.out HX.out.2.2 (Nat.le_refl _) (fun _ => rfl)).mono ?_; rintro e w3 ⟨v3, rfl, he3, hb3⟩; have H3 : Hid (Ents w3 v3 l1 ∧ Below w.heap.size w w3) := ⟨he3, HD2.out.trans (hb3.mono HD2.out.size)⟩; clear he3 hb3))
      all_goals
        go_wp2_with fail
        go_ret2
        exact ⟨_, _, rfl, H4.out.2.1, H4.out.1, H4.out.2.2⟩

theorem fICut : FICut := by
  intro w v l a n hT h hn
  have HR : ∀ r, rightI l = r → Hid (∀ W, Below w.heap.size w W → Calls Tryd.prog 16 #[v] W fun e w' => e = .returned (.bool r) ∧ Below W.heap.size W w') := fun r hr => by
    show ∀ W, _ → _
    intro W hW
    rw [← hr]
    exact iRight_any (hT.next hW) (h.next hW)
  cases hr : rightI l
  · unfold cutL cutR
    rw [hr]
    refine (iCut_bad w v a (HR false hr)).mono ?_
    rintro e w' ⟨rfl, hb⟩
    exact ⟨_, _, rfl, ents_nil _, ents_nil _, hb⟩
  · unfold cutL cutR
    rw [hr]
    have hn := hn hr
    have HR' := HR true hr
    have HF : Hid (∀ W, Below w.heap.size w W → Calls Tryd.prog 45 #[v, .string a] W fun e w' => e = .returned (.int .i64 n) ∧ Below W.heap.size W w') := fun W hW => preceding_any (hT.next hW) (h.next hW) (rightI_spec hr).1 hn
    have h64 := (rightI_spec hr).1
    have hcs : ∀ i, i < l.length → (lat l i).2.length ≤ 64 := fun i hi => (rightC_spec (ent_spec hr hi).2.2.1).1
    clear HR hT
    obtain ⟨ao, m, cap, es, rfl, hl, hle, hmx, hm, hrow, hlead⟩ := h.opened
    have hnm : n ≤ m := by rw [← hl]; exact hn.1
    have hmx2 : cap ≤ 9223372036854775807 := Nat.le_trans hmx (by decide)
    refine iCut_row w ao m cap a n hnm hle hmx2 (l.take n) (l.drop n) ?_ HR' HF ?_ ?_
    · rcases Nat.eq_zero_or_pos m with rfl | hp
      · cases ao with
        | none => exact .inl ⟨rfl, rfl⟩
        | some ad => exact .inr (.inl ⟨rfl, ad, rfl⟩)
      · obtain ⟨b, off, rfl, _⟩ := hrow hp
        exact .inr (.inr ⟨b, off, rfl⟩)
    · show ∀ W, _
      intro W p c hW h1 h2 h3
      have hE : Ents W (.slice p n c) (l.take n) := by
        rcases Nat.eq_zero_or_pos m with rfl | hp
        · obtain rfl : n = 0 := by omega
          rw [List.take_zero]
          exact ents_none W p (by omega)
        · obtain ⟨b, off, rfl, hb, hcl⟩ := hrow hp
          exact Ents.front hl (fun _ => Nat.lt_of_lt_of_le hb hW.size) (fun i hi => (hcl i hi).next hW hb) (hlead.next hW) hnm h1 (by omega) p h3
      refine copied_any hE (by rw [List.length_take]; omega) fun i hi => ?_
      rw [List.length_take] at hi
      rw [lat_take' l (by omega)]
      exact hcs i (by omega)
    · show ∀ W, _
      intro W p c hW h1 h2 h3
      have hE : Ents W (.slice p (m - n) c) (l.drop n) := by
        rcases Nat.eq_zero_or_pos m with rfl | hp
        · have e : l.drop n = [] := List.drop_eq_nil_of_le (by omega)
          rw [e, Nat.zero_sub]
          exact ents_none W p (by omega)
        · obtain ⟨b, off, rfl, hb, hcl⟩ := hrow hp
          exact Ents.rest hl (fun _ => Nat.lt_of_lt_of_le hb hW.size) (fun i hi => (hcl i hi).next hW hb) (hlead.next hW) hnm h1 (by omega) p (fun h => h3 h b off rfl)
      refine copied_any hE (by rw [List.length_drop]; omega) fun i hi => ?_
      rw [List.length_drop] at hi
      rw [lat_drop']
      exact hcs (n + i) (by omega)

end Go.Proofs.YtkmmifonandkoaaDoor

/-
  The contracts of slices.Grow at no entries, and of slices.Concat at a few slices of entries.
-/
set_option linter.unusedVariables false
namespace Go.Proofs.YtkmmifonandkoaaDoor
open Go.RowKit

set_option maxRecDepth 100000 in
set_option maxHeartbeats 1000000 in
theorem GrowE_some (w : World) (n : Nat) (h0 : 0 < n) (hn : n ≤ 1000) :
    Calls Tryd.prog 59 #[.slice none 0 0, .int .i64 n] w fun e w' => ∃ v, e = .returned v ∧ OwnsE w' w.heap.size v [] ∧ Below w.heap.size w w' := by
  obtain ⟨i0, hi, hz0, hz1, hz2⟩ := info_parts info_ent
  have hrz : ∀ ty, ∃ G, n ≤ G ∧ G ≤ maxLen ∧ ∃ cs : Array Value, cs.size = G * 2 ∧ (Builtin.append_ #[22, 3] ty #[.slice none 0 0, .int .i64 n]).run Tryd.prog w = .ok (.slice (some ⟨w.heap.size, 0, none⟩) n G) (w.drew.alloc (.cells cs 60)) := fun ty => by
    have h := Lib.run_append_grow_zeros (P := Tryd.prog) w 22 3 ty 60 i0 _ .i64 .i64 Tryd.underlying22 Tryd.underlying3 hi hz0 none 0 0 [] (run_firstCells_none w.drew _ 0 0 0) n h0 (by rw [hz1]; decide) (by omega) (by omega)
      (by rw [hz2]; omega) (by rw [hz2]; exact growslice_fits (by omega) (by omega))
    rw [Nat.zero_add] at h
    have h1 := grownCap_ge w n 0 60
    have h2 := grownCap_le_maxLen w n 0 60 (by unfold maxLen; omega)
    refine ⟨_, h1, h2, _, ?_, h⟩
    generalize grownCap w n 0 60 = G at h1
    simp [Builtin.zeroCells, Value.cells]
    omega
  have q1 := IntWalk.i64_in (n : Int) (by omega)
  have q2 : decide (0 < (n : Int)) = true := decide_eq_true (by omega)
  have q3 : decide ((n : Int) < 0) = false := decide_eq_false (by omega)
  obtain ⟨G, hG, hGm, cs, hcs, hrun⟩ := hrz 22
  have hG2 : G ≤ 9223372036854775807 := Nat.le_trans hGm (by decide)
  have HR := Lib.hid hrun
  have HO : Hid (OwnsE (w.drew.alloc (.cells cs 60)) w.heap.size (.slice (some ⟨w.heap.size, 0, none⟩) 0 G) []) := World.ownsRow_made (base := w.heap.size) w.drew cs G (Nat.le_refl _) hGm hcs
  have HB : Hid (Below w.heap.size w (w.drew.alloc (.cells cs 60))) := ((Below.refl _ w).drew).alloc (Nat.le_refl _) _
  clear hrz hrun hcs hGm
  go_enter Tryd.func59, Tryd.ntmps59
  go_wp2_with (at_builtin; refine Lib.wpList_append_run _ rfl _ _ _ _ rfl _ _ rfl rfl _ _ HR.out ?_)
  go_ret
  exact ⟨_, rfl, HO.out, HB.out⟩

set_option maxRecDepth 100000 in
set_option maxHeartbeats 400000 in
theorem GrowE_zero (w : World) :
    Calls Tryd.prog 59 #[.slice none 0 0, .int .i64 (0 : Nat)] w fun e w' => ∃ v, e = .returned v ∧ OwnsE w' w.heap.size v [] ∧ Below w.heap.size w w' := by
  go_enter Tryd.func59, Tryd.ntmps59
  go_wp2_with fail
  go_ret
  exact ⟨_, rfl, OwnsE.nil _ _, Below.refl _ _⟩
theorem GrowE_any (w : World) (n : Nat) (hn : n ≤ 1000) :
    Calls Tryd.prog 59 #[.slice none 0 0, .int .i64 n] w fun e w' => ∃ v, e = .returned v ∧ OwnsE w' w.heap.size v [] ∧ Below w.heap.size w w' := by
  rcases Nat.eq_zero_or_pos n with rfl | h
  · exact GrowE_zero w
  · exact GrowE_some w n h hn

/-! ### Concat -/
def szTo (N : Nat → Nat) : Nat → Nat
  | 0 => 0
  | k + 1 => szTo N k + N k
def lsTo (L : Nat → List EntV) : Nat → List EntV
  | 0 => []
  | k + 1 => lsTo L k ++ L k
theorem szTo_le (N : Nat → Nat) {k m : Nat} (h : k ≤ m) : szTo N k ≤ szTo N m := by
  induction m with
  | zero => rw [Nat.le_zero.1 h]; exact Nat.le_refl _
  | succ m ih =>
    rcases Nat.lt_or_ge k (m + 1) with h1 | h1
    · exact Nat.le_trans (ih (by omega)) (by show szTo N m ≤ szTo N m + N m; omega)
    · rw [show k = m + 1 by omega]; exact Nat.le_refl _
theorem lsTo_len {L : Nat → List EntV} {N : Nat → Nat} {m : Nat} (h : ∀ i, i < m → (L i).length = N i) : ∀ k, k ≤ m → (lsTo L k).length = szTo N k := by
  intro k
  induction k with
  | zero => intro _; rfl
  | succ k ih => intro hk; show (lsTo L k ++ L k).length = szTo N k + N k; rw [List.length_append, ih (by omega), h k (by omega)]
theorem entsV_len {w : World} {ao : Option Addr} {n c : Nat} {l : List EntV} (h : EntsV w (.slice ao n c) l) : l.length = n := by
  obtain ⟨_, _, e, _⟩ := h
  injection e with _ e _
  exact e.symm

set_option maxRecDepth 100000 in
set_option maxHeartbeats 1000000 in
theorem ConcatE_row (w : World) (h m : Nat) (A : Nat → Option Addr) (N C : Nat → Nat) (L : Nat → List EntV) (hm : m ≤ 8) (hsz : szTo N m ≤ 1000) (hh : h < w.heap.size)
    (hc : ∀ i, i < m → w.cell? ⟨h, i, none⟩ = some (.slice (A i) (N i) (C i))) (hv : ∀ i, i < m → EntsV w (.slice (A i) (N i) (C i)) (L i)) (hone : ∀ i, i < m → ∀ j, j < (L i).length → (eat (L i) j).2.oneCell' = true) :
    Calls Tryd.prog 34 #[.slice (some ⟨h, 0, none⟩) m m] w fun e w' => ∃ v, e = .returned v ∧ OwnsE w' w.heap.size v (lsTo L m) ∧ Below w.heap.size w w' := by
  have HC : Hid (∀ W, Below w.heap.size w W → ∀ i, i < m → W.cell? ⟨h, i, none⟩ = some (.slice (A i) (N i) (C i))) := fun W hW i hi => (hW.cell (p := ⟨h, i, none⟩) hh).trans (hc i hi)
  have HV : Hid (∀ i, i < m → EntsV w (.slice (A i) (N i) (C i)) (L i)) := hv
  have HONE := Lib.hid hone
  have HLN : Hid (∀ i, i < m → (L i).length = N i) := fun i hi => entsV_len (hv i hi)
  have HSZ := Lib.hid hsz
  clear hc hv hone hsz hh
  go_enter Tryd.func34, Tryd.ntmps34
  go_wp2_with fail
  go_loop [3, 11] (fun u i => ∃ k z : Nat, k ≤ m ∧ i = .int .i64 k ∧ u = .int .i64 z ∧ Hid (szTo N k = z)) (fun _ i => m - (intOf i).toNat)
  case atStart => exact ⟨0, 0, by omega, rfl, rfl, rfl⟩
  case round =>
    obtain ⟨k, z, hk, rfl, rfl, hz⟩ := hrel
    by_cases hlt : k < m
    · have x0 := HC.out w (Below.refl _ _) k hlt
      have hb := szTo_le N (show k + 1 ≤ m by omega)
      have hb2 := HSZ.out
      have hzz : szTo N (k + 1) = z + N k := by rw [← hz.out]; rfl
      obtain ⟨a, ha⟩ : ∃ a, a = A k := ⟨_, rfl⟩
      obtain ⟨p, hp⟩ : ∃ p, p = N k := ⟨_, rfl⟩
      obtain ⟨c, hc⟩ : ∃ c, c = C k := ⟨_, rfl⟩
      rw [← ha, ← hp, ← hc] at x0
      rw [← hp] at hzz
      have hbd : z + p ≤ 1000 := by omega
      have HZZ := Lib.hid hzz
      clear ha hp hc hzz hb hb2
      have q1 := IntWalk.i64_in ((z : Int) + (p : Int)) (by omega)
      have q2 : decide ((z : Int) + (p : Int) < 0) = false := decide_eq_false (by omega)
      go_wp2_with fail
      go_round
      case rel => exact ⟨k + 1, z + p, by omega, by go_num, by simp, HZZ.out⟩
      case measure => simp [intOf]; omega
    · obtain rfl : k = m := by omega
      have HG : Hid (∀ W, Calls Tryd.prog 59 #[.slice none 0 0, .int .i64 (z : Nat)] W fun e w' => ∃ v, e = .returned v ∧ OwnsE w' W.heap.size v [] ∧ Below W.heap.size W w') := fun W => GrowE_any W z (by rw [← hz.out]; exact HSZ.out)
      go_wp2_with fail
      refine (HG.out _).mono ?_
      rintro e w1 ⟨v1, rfl, ho1, hb1⟩
      have H1 : Hid (OwnsE w1 w.heap.size v1 [] ∧ Below w.heap.size w w1) := ⟨ho1, hb1⟩
      clear ho1 hb1
      go_wp2_with fail
      go_loopw [6, 27] (fun u i wr => ∃ j : Nat, j ≤ k ∧ i = .int .i64 j ∧ Hid (OwnsE wr w.heap.size u (lsTo L j)) ∧ Hid (Below w.heap.size w wr)) (fun _ i _ => k - (intOf i).toNat)
      case atStart => exact ⟨0, by omega, rfl, H1.out.1, H1.out.2⟩
      case round =>
        obtain ⟨j, hj, rfl, hown, hbel⟩ := hrel
        by_cases hlt : j < k
        · have x0 := HC.out wr hbel.out j hlt
          have HV1 : Hid (EntsV wr (.slice (A j) (N j) (C j)) (L j)) := (HV.out j hlt).next hbel.out
          have HLL : Hid ((lsTo L j).length + (L j).length ≤ 1000000) := by
            have h1 := lsTo_len HLN.out j (by omega)
            have h2 := HLN.out j hlt
            have h3 := szTo_le N (show j + 1 ≤ k by omega)
            have h4 : szTo N (j + 1) = szTo N j + N j := rfl
            have h5 := HSZ.out
            show _ ≤ _
            omega
          have HO1 : Hid (∀ i, i < (L j).length → (eat (L j) i).2.oneCell' = true) := HONE.out j hlt
          obtain ⟨ls, hls⟩ : ∃ ls, ls = lsTo L j := ⟨_, rfl⟩
          obtain ⟨l1, hl1⟩ : ∃ l1, l1 = L j := ⟨_, rfl⟩
          have HN : Hid (lsTo L (j + 1) = ls ++ l1) := by show _ = _; rw [hls, hl1]; rfl
          rw [← hls] at hown HLL
          rw [← hl1] at HLL HV1 HO1
          generalize A j = a at x0 HV1
          generalize N j = p at x0 HV1
          generalize C j = c at x0 HV1
          clear hls hl1
          go_wp2_with (at_builtin; refine wpList_append_ents rfl _ _ rfl w.heap.size _ _ ls l1 rfl hown.out rfl HV1.out HO1.out HLL.out hbel.out.size ?_; intro v' w2 ho2 hg2; have HO : Hid (OwnsE w2 w.heap.size v' (lsTo L (j + 1)) ∧ Below w.heap.size w w2) := ⟨by rw [HN.out]; exact ho2, hbel.out.grown hg2 hbel.out.size (fun i hi => (OwnsE.block hown.out i hi).1)⟩; clear ho2 hg2)
          exact ⟨⟨j + 1, by omega, by go_num, HO.out.1, HO.out.2⟩, by simp [intOf]; omega⟩
        · obtain rfl : j = k := by omega
          go_wp2_with fail
          go_ret
          exact ⟨_, rfl, hown.out, hbel.out⟩

end Go.Proofs.YtkmmifonandkoaaDoor

/-
  The contract of index.Join.
-/
set_option linter.unusedVariables false
namespace Go.Proofs.YtkmmifonandkoaaDoor
open Go.RowKit

theorem leads_one {w : World} {es : List EntV} {l : List Ent} (h : Leads w es l) : ∀ j, j < es.length → (eat es j).2.oneCell' = true := fun j hj => vers_one (h.2 j (by rw [← h.1]; exact hj)).2
theorem Concat2 (W : World) (h : Nat) (a1 a2 : Option Addr) (n1 n2 c1 c2 : Nat) (l1 l2 : List Ent) (h1 : Ents W (.slice a1 n1 c1) l1) (h2 : Ents W (.slice a2 n2 c2) l2) (hs : n1 + n2 ≤ 1000) (hh : h < W.heap.size)
    (x0 : W.cell? ⟨h, 0, none⟩ = some (.slice a1 n1 c1)) (x1 : W.cell? ⟨h, 1, none⟩ = some (.slice a2 n2 c2)) :
    Calls Tryd.prog 34 #[.slice (some ⟨h, 0, none⟩) 2 2] W fun e w' => ∃ v, e = .returned v ∧ Ents w' v (l1 ++ l2) ∧ Below W.heap.size W w' := by
  obtain ⟨e1, q1, d1⟩ := h1
  obtain ⟨e2, q2, d2⟩ := h2
  have key := ConcatE_row W h 2 (fun i => [a1, a2].getD i none) (fun i => [n1, n2].getD i 0) (fun i => [c1, c2].getD i 0) (fun i => [e1, e2].getD i []) (by decide) (by simpa [szTo] using hs) hh
    (fun i hi => by
      have : i = 0 ∨ i = 1 := by omega
      rcases this with rfl | rfl
      · exact x0
      · exact x1)
    (fun i hi => by
      have : i = 0 ∨ i = 1 := by omega
      rcases this with rfl | rfl
      · exact q1
      · exact q2)
    (fun i hi => by
      have : i = 0 ∨ i = 1 := by omega
      rcases this with rfl | rfl
      · exact leads_one d1
      · exact leads_one d2)
  refine key.mono ?_
  rintro e w' ⟨v, rfl, ho, hb⟩
  have e0 : lsTo (fun i => [e1, e2].getD i []) 2 = e1 ++ e2 := by simp [lsTo]
  rw [e0] at ho
  exact ⟨v, rfl, own_ents ho ((d1.old.next hb).app (d2.old.next hb)), hb⟩
theorem Concat3 (W : World) (h : Nat) (a1 a2 a3 : Option Addr) (n1 n2 n3 c1 c2 c3 : Nat) (l1 l2 l3 : List Ent) (h1 : Ents W (.slice a1 n1 c1) l1) (h2 : Ents W (.slice a2 n2 c2) l2) (h3 : Ents W (.slice a3 n3 c3) l3) (hs : n1 + n2 + n3 ≤ 1000) (hh : h < W.heap.size)
    (x0 : W.cell? ⟨h, 0, none⟩ = some (.slice a1 n1 c1)) (x1 : W.cell? ⟨h, 1, none⟩ = some (.slice a2 n2 c2)) (x2 : W.cell? ⟨h, 2, none⟩ = some (.slice a3 n3 c3)) :
    Calls Tryd.prog 34 #[.slice (some ⟨h, 0, none⟩) 3 3] W fun e w' => ∃ v, e = .returned v ∧ Ents w' v (l1 ++ l2 ++ l3) ∧ Below W.heap.size W w' := by
  obtain ⟨e1, q1, d1⟩ := h1
  obtain ⟨e2, q2, d2⟩ := h2
  obtain ⟨e3, q3, d3⟩ := h3
  have key := ConcatE_row W h 3 (fun i => [a1, a2, a3].getD i none) (fun i => [n1, n2, n3].getD i 0) (fun i => [c1, c2, c3].getD i 0) (fun i => [e1, e2, e3].getD i []) (by decide) (by simpa [szTo] using hs) hh
    (fun i hi => by
      have : i = 0 ∨ i = 1 ∨ i = 2 := by omega
      rcases this with rfl | rfl | rfl
      · exact x0
      · exact x1
      · exact x2)
    (fun i hi => by
      have : i = 0 ∨ i = 1 ∨ i = 2 := by omega
      rcases this with rfl | rfl | rfl
      · exact q1
      · exact q2
      · exact q3)
    (fun i hi => by
      have : i = 0 ∨ i = 1 ∨ i = 2 := by omega
      rcases this with rfl | rfl | rfl
      · exact leads_one d1
      · exact leads_one d2
      · exact leads_one d3)
  refine key.mono ?_
  rintro e w' ⟨v, rfl, ho, hb⟩
  have e0 : lsTo (fun i => [e1, e2, e3].getD i []) 3 = e1 ++ e2 ++ e3 := by simp [lsTo]
  rw [e0] at ho
  exact ⟨v, rfl, own_ents ho (((d1.old.next hb).app (d2.old.next hb)).app (d3.old.next hb)), hb⟩

/-! ### Join -/
theorem apart_fol {a b : List Ent} (ha : rightI a = true) (hb : rightI b = true) : apartB a b = (decide (b.length = 0) || folI a (lat b 0).1) := by
  rcases Nat.eq_zero_or_pos b.length with h | h
  · rw [decide_eq_true h, Bool.true_or]
    unfold apartB
    exact decide_eq_true fun i hi k hk => by omega
  rw [decide_eq_false (by omega), Bool.false_or]
  unfold folI
  rcases Nat.eq_zero_or_pos a.length with h2 | h2
  · rw [decide_eq_true h2, Bool.true_or]
    unfold apartB
    exact decide_eq_true fun i hi k hk => by omega
  rw [decide_eq_false (by omega), Bool.false_or]
  unfold apartB ltB
  refine decide_eq_decide.2 ⟨fun h3 => h3 _ (by omega) 0 h, fun h3 i hi k hk => ?_⟩
  have h4 : Ky.compare (lat a i).1 (lat b 0).1 < 0 := by
    rcases Nat.lt_or_ge i (a.length - 1) with h5 | h5
    · exact lt_le (key_lt ha h5 (by omega)) (Int.le_of_lt h3)
    · rw [show i = a.length - 1 by omega]; exact h3
  rcases Nat.eq_zero_or_pos k with rfl | h5
  · exact h4
  · exact lt_le h4 (Int.le_of_lt (key_lt hb h5 hk))

set_option maxRecDepth 100000 in
set_option maxHeartbeats 1000000 in
theorem iJoin_bad (w : World) (va vb : Value) (r1 r2 : Bool) (hbad : r1 = false ∨ r2 = false) (HA : Hid (∀ W, Below w.heap.size w W → Calls Tryd.prog 16 #[va] W fun e w' => e = .returned (.bool r1) ∧ Below W.heap.size W w'))
    (HB : Hid (∀ W, Below w.heap.size w W → Calls Tryd.prog 16 #[vb] W fun e w' => e = .returned (.bool r2) ∧ Below W.heap.size W w')) :
    Calls Tryd.prog 28 #[va, vb] w fun e w' => e = .returned (.tuple #[.slice none 0 0, .int .i64 1]) ∧ Below w.heap.size w w' := by
  cases r1
  · clear hbad
    go_enter Tryd.func28, Tryd.ntmps28
    go_wp2_with fail
    refine (HA.out _ (Below.refl _ _)).mono ?_
    rintro e w1 ⟨rfl, hb1⟩
    go_wp2_with fail
    go_ret2
    exact ⟨rfl, hb1⟩
  · obtain rfl : r2 = false := by rcases hbad with h | h; cases h; exact h
    clear hbad
    go_enter Tryd.func28, Tryd.ntmps28
    go_wp2_with fail
    refine (HA.out _ (Below.refl _ _)).mono ?_
    rintro e w1 ⟨rfl, hb1⟩
    go_wp2_with fail
    refine (HB.out _ hb1).mono ?_
    rintro e w2 ⟨rfl, hb2⟩
    have hb := hb1.trans (hb2.mono hb1.size)
    go_wp2_with fail
    go_ret2
    exact ⟨rfl, hb⟩

set_option maxRecDepth 100000 in
set_option maxHeartbeats 1000000 in
theorem iJoin_nine (w : World) (va : Value) (b off nb cb : Nat) (s : ByteArray) (hnb : 0 < nb) (HA : Hid (∀ W, Below w.heap.size w W → Calls Tryd.prog 16 #[va] W fun e w' => e = .returned (.bool true) ∧ Below W.heap.size W w'))
    (HB : Hid (∀ W, Below w.heap.size w W → Calls Tryd.prog 16 #[.slice (some ⟨b, off, none⟩) nb cb] W fun e w' => e = .returned (.bool true) ∧ Below W.heap.size W w'))
    (HX : Hid (∀ W, Below w.heap.size w W → W.cell? ⟨b, off, none⟩ = some (.string s))) (HF : Hid (∀ W, Below w.heap.size w W → Calls Tryd.prog 42 #[.string s, va] W fun e w' => e = .returned (.bool false) ∧ Below W.heap.size W w')) :
    Calls Tryd.prog 28 #[va, .slice (some ⟨b, off, none⟩) nb cb] w fun e w' => e = .returned (.tuple #[.slice none 0 0, .int .i64 9]) ∧ Below w.heap.size w w' := by
  have d1 : decide (0 < (nb : Int)) = true := decide_eq_true (by omega)
  go_enter Tryd.func28, Tryd.ntmps28
  go_wp2_with fail
  refine (HA.out _ (Below.refl _ _)).mono ?_
  rintro e w1 ⟨rfl, hb1⟩
  have HB1 := Lib.hid hb1
  clear hb1
  go_wp2_with fail
  refine (HB.out _ HB1.out).mono ?_
  rintro e w2 ⟨rfl, hb2⟩
  have HB2 : Hid (Below w.heap.size w w2) := HB1.out.trans (hb2.mono HB1.out.size)
  clear hb2 HB1
  have x0 := HX.out _ HB2.out
  go_wp2_with fail
  refine (HF.out _ HB2.out).mono ?_
  rintro e w3 ⟨rfl, hb3⟩
  have HB3 : Hid (Below w.heap.size w w3) := HB2.out.trans (hb3.mono HB2.out.size)
  clear hb3 HB2 x0
  go_wp2_with fail
  go_ret2
  exact ⟨rfl, HB3.out⟩

set_option maxRecDepth 100000 in
set_option maxHeartbeats 1000000 in
theorem iJoin_rest (w : World) (aa ab : Option Addr) (na nb ca cb : Nat) (a b m : List Ent) (er : Int) (hna : na ≤ 64) (hnb : nb ≤ 64) (hm : (64 < na + nb ∧ m = [] ∧ er = 6) ∨ (na + nb ≤ 64 ∧ m = a ++ b ∧ er = 0))
    (HA : Hid (∀ W, Below w.heap.size w W → Calls Tryd.prog 16 #[.slice aa na ca] W fun e w' => e = .returned (.bool true) ∧ Below W.heap.size W w'))
    (HB : Hid (∀ W, Below w.heap.size w W → Calls Tryd.prog 16 #[.slice ab nb cb] W fun e w' => e = .returned (.bool true) ∧ Below W.heap.size W w'))
    (hab : nb = 0 ∨ ∃ bb off, ab = some ⟨bb, off, none⟩ ∧ ∃ s, (∀ W, Below w.heap.size w W → W.cell? ⟨bb, off, none⟩ = some (.string s)) ∧ ∀ W, Below w.heap.size w W → Calls Tryd.prog 42 #[.string s, .slice aa na ca] W fun e w' => e = .returned (.bool true) ∧ Below W.heap.size W w')
    (HCA : Hid (∀ W, Below w.heap.size w W → Calls Tryd.prog 35 #[.slice aa na ca] W fun e w' => ∃ v', e = .returned v' ∧ Ents w' v' a ∧ Below W.heap.size W w'))
    (HCB : Hid (∀ W, Below w.heap.size w W → Calls Tryd.prog 35 #[.slice ab nb cb] W fun e w' => ∃ v', e = .returned v' ∧ Ents w' v' b ∧ Below W.heap.size W w')) (HL : Hid (a.length = na ∧ b.length = nb)) :
    Calls Tryd.prog 28 #[.slice aa na ca, .slice ab nb cb] w fun e' w' => ∃ v', e' = .returned (.tuple #[v', .int .i64 er]) ∧ Ents w' v' m ∧ Below w.heap.size w w' := by
  have q1 := IntWalk.i64_in ((na : Int) + (nb : Int)) (by omega)
  rcases hab with rfl | ⟨bb, off, rfl, s, hx, hf⟩
  · go_enter Tryd.func28, Tryd.ntmps28
    go_wp2_with fail
    refine (HA.out _ (Below.refl _ _)).mono ?_
    rintro e w1 ⟨rfl, hb1⟩
    have HB1 := Lib.hid hb1
    clear hb1
    go_wp2_with fail
    refine (HB.out _ HB1.out).mono ?_
    rintro e w2 ⟨rfl, hb2⟩
    have HB2 : Hid (Below w.heap.size w w2) := HB1.out.trans (hb2.mono HB1.out.size)
    clear hb2 HB1 HA HB
    rcases hm with ⟨h1, rfl, rfl⟩ | ⟨h1, rfl, rfl⟩
    · omega
    · have d2 : decide (64 < (na : Int) + (0 : Int)) = false := decide_eq_false (by omega)
      go_wp2_with fail
      refine (HCA.out _ HB2.out).mono ?_
      rintro e w4 ⟨v4, rfl, he4, hb4⟩
      obtain ⟨p4, k4, rfl⟩ := ents_slice he4
      have H4 : Hid (Ents w4 (.slice p4 a.length k4) a ∧ Below w.heap.size w w4) := ⟨he4, HB2.out.trans (hb4.mono HB2.out.size)⟩
      clear he4 hb4 HB2
      go_wp2_with fail
      refine (HCB.out _ H4.out.2).mono ?_
      rintro e w5 ⟨v5, rfl, he5, hb5⟩
      obtain ⟨p5, k5, rfl⟩ := ents_slice he5
      have H5 : Hid (Ents w5 (.slice p4 a.length k4) a ∧ Ents w5 (.slice p5 b.length k5) b ∧ Below w.heap.size w w5) := ⟨H4.out.1.next hb5, he5, H4.out.2.trans (hb5.mono H4.out.2.size)⟩
      clear he5 hb5 H4
      have HC : Hid (Calls Tryd.prog 34 #[.slice (some ⟨w5.heap.size, 0, none⟩) 2 2] (w5.alloc (.cells #[.slice p4 a.length k4, .slice p5 b.length k5] 22)) fun e w' => ∃ v, e = .returned v ∧ Ents w' v (a ++ b) ∧ Below w.heap.size w w') := by
        have hal : Below w5.heap.size w5 (w5.alloc (.cells #[.slice p4 a.length k4, .slice p5 b.length k5] 22)) := (Below.refl _ _).alloc (Nat.le_refl _) _
        refine (Concat2 _ w5.heap.size p4 p5 _ _ k4 k5 a b (H5.out.1.next hal) (H5.out.2.1.next hal) (by have := HL.out; omega) (by simp) (by simp) (by simp)).mono ?_
        rintro e w' ⟨v, rfl, hv, hb⟩
        have h5 := H5.out.2.2.trans (hal.mono H5.out.2.2.size)
        exact ⟨v, rfl, hv, h5.trans (hb.mono h5.size)⟩
      clear H5
      go_wp2_with fail
      refine HC.out.mono ?_
      rintro e w6 ⟨v6, rfl, hv6, hb6⟩
      have H6 : Hid (Ents w6 v6 (a ++ b) ∧ Below w.heap.size w w6) := ⟨hv6, hb6⟩
      clear hv6 hb6 HC
      go_wp2_with fail
      go_ret2
      exact ⟨v6, rfl, H6.out⟩
  · rcases Nat.eq_zero_or_pos nb with rfl | hp
    · go_enter Tryd.func28, Tryd.ntmps28
      go_wp2_with fail
      refine (HA.out _ (Below.refl _ _)).mono ?_
      rintro e w1 ⟨rfl, hb1⟩
      have HB1 := Lib.hid hb1
      clear hb1
      go_wp2_with fail
      refine (HB.out _ HB1.out).mono ?_
      rintro e w2 ⟨rfl, hb2⟩
      have HB2 : Hid (Below w.heap.size w w2) := HB1.out.trans (hb2.mono HB1.out.size)
      clear hb2 HB1 HA HB
      rcases hm with ⟨h1, rfl, rfl⟩ | ⟨h1, rfl, rfl⟩
      · omega
      · have d2 : decide (64 < (na : Int) + (0 : Int)) = false := decide_eq_false (by omega)
        go_wp2_with fail
        refine (HCA.out _ HB2.out).mono ?_
        rintro e w4 ⟨v4, rfl, he4, hb4⟩
        obtain ⟨p4, k4, rfl⟩ := ents_slice he4
        have H4 : Hid (Ents w4 (.slice p4 a.length k4) a ∧ Below w.heap.size w w4) := ⟨he4, HB2.out.trans (hb4.mono HB2.out.size)⟩
        clear he4 hb4 HB2
        go_wp2_with fail
        refine (HCB.out _ H4.out.2).mono ?_
        rintro e w5 ⟨v5, rfl, he5, hb5⟩
        obtain ⟨p5, k5, rfl⟩ := ents_slice he5
        have H5 : Hid (Ents w5 (.slice p4 a.length k4) a ∧ Ents w5 (.slice p5 b.length k5) b ∧ Below w.heap.size w w5) := ⟨H4.out.1.next hb5, he5, H4.out.2.trans (hb5.mono H4.out.2.size)⟩
        clear he5 hb5 H4
        have HC : Hid (Calls Tryd.prog 34 #[.slice (some ⟨w5.heap.size, 0, none⟩) 2 2] (w5.alloc (.cells #[.slice p4 a.length k4, .slice p5 b.length k5] 22)) fun e w' => ∃ v, e = .returned v ∧ Ents w' v (a ++ b) ∧ Below w.heap.size w w') := by
          have hal : Below w5.heap.size w5 (w5.alloc (.cells #[.slice p4 a.length k4, .slice p5 b.length k5] 22)) := (Below.refl _ _).alloc (Nat.le_refl _) _
          refine (Concat2 _ w5.heap.size p4 p5 _ _ k4 k5 a b (H5.out.1.next hal) (H5.out.2.1.next hal) (by have := HL.out; omega) (by simp) (by simp) (by simp)).mono ?_
          rintro e w' ⟨v, rfl, hv, hb⟩
          have h5 := H5.out.2.2.trans (hal.mono H5.out.2.2.size)
          exact ⟨v, rfl, hv, h5.trans (hb.mono h5.size)⟩
        clear H5
        go_wp2_with fail
        refine HC.out.mono ?_
        rintro e w6 ⟨v6, rfl, hv6, hb6⟩
        have H6 : Hid (Ents w6 v6 (a ++ b) ∧ Below w.heap.size w w6) := ⟨hv6, hb6⟩
        clear hv6 hb6 HC
        go_wp2_with fail
        go_ret2
        exact ⟨v6, rfl, H6.out⟩
    · have d1 : decide (0 < (nb : Int)) = true := decide_eq_true (by omega)
      have HX := Lib.hid hx
      have HF := Lib.hid hf
      clear hx hf
      go_enter Tryd.func28, Tryd.ntmps28
      go_wp2_with fail
      refine (HA.out _ (Below.refl _ _)).mono ?_
      rintro e w1 ⟨rfl, hb1⟩
      have HB1 := Lib.hid hb1
      clear hb1
      go_wp2_with fail
      refine (HB.out _ HB1.out).mono ?_
      rintro e w2 ⟨rfl, hb2⟩
      have HB2 : Hid (Below w.heap.size w w2) := HB1.out.trans (hb2.mono HB1.out.size)
      clear hb2 HB1 HA HB
      have x0 := HX.out _ HB2.out
      go_wp2_with fail
      refine (HF.out _ HB2.out).mono ?_
      rintro e w3 ⟨rfl, hb3⟩
      have HB3 : Hid (Below w.heap.size w w3) := HB2.out.trans (hb3.mono HB2.out.size)
      clear hb3 x0 HB2
      rcases hm with ⟨h1, rfl, rfl⟩ | ⟨h1, rfl, rfl⟩
      · have d2 : decide (64 < (na : Int) + (nb : Int)) = true := decide_eq_true (by omega)
        go_wp2_with fail
        go_ret2
        exact ⟨_, rfl, ents_nil _, HB3.out⟩
      · have d2 : decide (64 < (na : Int) + (nb : Int)) = false := decide_eq_false (by omega)
        go_wp2_with fail
        refine (HCA.out _ HB3.out).mono ?_
        rintro e w4 ⟨v4, rfl, he4, hb4⟩
        obtain ⟨p4, k4, rfl⟩ := ents_slice he4
        have H4 : Hid (Ents w4 (.slice p4 a.length k4) a ∧ Below w.heap.size w w4) := ⟨he4, HB3.out.trans (hb4.mono HB3.out.size)⟩
        clear he4 hb4 HB3
        go_wp2_with fail
        refine (HCB.out _ H4.out.2).mono ?_
        rintro e w5 ⟨v5, rfl, he5, hb5⟩
        obtain ⟨p5, k5, rfl⟩ := ents_slice he5
        have H5 : Hid (Ents w5 (.slice p4 a.length k4) a ∧ Ents w5 (.slice p5 b.length k5) b ∧ Below w.heap.size w w5) := ⟨H4.out.1.next hb5, he5, H4.out.2.trans (hb5.mono H4.out.2.size)⟩
        clear he5 hb5 H4
        have HC : Hid (Calls Tryd.prog 34 #[.slice (some ⟨w5.heap.size, 0, none⟩) 2 2] (w5.alloc (.cells #[.slice p4 a.length k4, .slice p5 b.length k5] 22)) fun e w' => ∃ v, e = .returned v ∧ Ents w' v (a ++ b) ∧ Below w.heap.size w w') := by
          have hal : Below w5.heap.size w5 (w5.alloc (.cells #[.slice p4 a.length k4, .slice p5 b.length k5] 22)) := (Below.refl _ _).alloc (Nat.le_refl _) _
          refine (Concat2 _ w5.heap.size p4 p5 _ _ k4 k5 a b (H5.out.1.next hal) (H5.out.2.1.next hal) (by have := HL.out; omega) (by simp) (by simp) (by simp)).mono ?_
          rintro e w' ⟨v, rfl, hv, hb⟩
          have h5 := H5.out.2.2.trans (hal.mono H5.out.2.2.size)
          exact ⟨v, rfl, hv, h5.trans (hb.mono h5.size)⟩
        clear H5
        go_wp2_with fail
        refine HC.out.mono ?_
        rintro e w6 ⟨v6, rfl, hv6, hb6⟩
        have H6 : Hid (Ents w6 v6 (a ++ b) ∧ Below w.heap.size w w6) := ⟨hv6, hb6⟩
        clear hv6 hb6 HC
        go_wp2_with fail
        go_ret2
        exact ⟨v6, rfl, H6.out⟩

theorem fIJoin : FIJoin := by
  intro w va vb a b m er hT hva hvb hj
  have HA : ∀ r, rightI a = r → Hid (∀ W, Below w.heap.size w W → Calls Tryd.prog 16 #[va] W fun e w' => e = .returned (.bool r) ∧ Below W.heap.size W w') := fun r hr => by
    show ∀ W, _ → _
    intro W hW
    rw [← hr]
    exact iRight_any (hT.next hW) (hva.next hW)
  have HB : ∀ r, rightI b = r → Hid (∀ W, Below w.heap.size w W → Calls Tryd.prog 16 #[vb] W fun e w' => e = .returned (.bool r) ∧ Below W.heap.size W w') := fun r hr => by
    show ∀ W, _ → _
    intro W hW
    rw [← hr]
    exact iRight_any (hT.next hW) (hvb.next hW)
  have hbad : (rightI a = false ∨ rightI b = false) → m = [] ∧ er = 1 := fun h => by
    rcases hj with ⟨_, h1, h2⟩ | ⟨h1, h2, _⟩ | ⟨h1, h2, _⟩ | ⟨h1, h2, _⟩
    · exact ⟨h1, h2⟩
    all_goals (rw [h1, h2] at h; rcases h with h | h <;> cases h)
  cases hra : rightI a
  · obtain ⟨rfl, rfl⟩ := hbad (.inl hra)
    refine (iJoin_bad w va vb false (rightI b) (.inl rfl) (HA false hra) (HB _ rfl)).mono ?_
    rintro e w' ⟨rfl, hb⟩
    exact ⟨_, rfl, ents_nil _, hb⟩
  cases hrb : rightI b
  · obtain ⟨rfl, rfl⟩ := hbad (.inr hrb)
    refine (iJoin_bad w va vb true false (.inr rfl) (HA true hra) (HB false hrb)).mono ?_
    rintro e w' ⟨rfl, hb⟩
    exact ⟨_, rfl, ents_nil _, hb⟩
  have HA' := HA true hra
  have HB' := HB true hrb
  clear HA HB hbad
  have hap := apart_fol hra hrb
  have hF : ∀ W s, Below w.heap.size w W → Calls Tryd.prog 42 #[.string s, va] W fun e w' => e = .returned (.bool (folI a s)) ∧ Below W.heap.size W w' := fun W s hW => ifollows_any (hT.next hW) (hva.next hW) s
  have HCA : Hid (∀ W, Below w.heap.size w W → Calls Tryd.prog 35 #[va] W fun e w' => ∃ v', e = .returned v' ∧ Ents w' v' a ∧ Below W.heap.size W w') := fun W hW => copied_any (hva.next hW) (rightI_spec hra).1 (fun i hi => (rightC_spec (ent_spec hra hi).2.2.1).1)
  have HCB : Hid (∀ W, Below w.heap.size w W → Calls Tryd.prog 35 #[vb] W fun e w' => ∃ v', e = .returned v' ∧ Ents w' v' b ∧ Below W.heap.size W w') := fun W hW => copied_any (hvb.next hW) (rightI_spec hrb).1 (fun i hi => (rightC_spec (ent_spec hrb hi).2.2.1).1)
  have hla := (rightI_spec hra).1
  have hlb := (rightI_spec hrb).1
  obtain ⟨ab, nb, cb, es, rfl, hl, hle, hmx, hm, hrow, hlead⟩ := hvb.opened
  obtain ⟨aa, ca, rfl⟩ := ents_slice hva
  have hcell : ∀ bb off, ab = some ⟨bb, off, none⟩ → bb < w.heap.size → (∀ i, i < nb → EntAt w bb (off + i * 2) (eat es i)) → 0 < nb → ∀ W, Below w.heap.size w W → W.cell? ⟨bb, off, none⟩ = some (.string (lat b 0).1) := fun bb off _ hb hcl hp W hW => by
    have h1 := ((hcl 0 hp).next hW hb).1
    rw [(hlead.2 0 (by omega)).1, Nat.zero_mul, Nat.add_zero] at h1
    exact h1
  have hcase : (apartB a b = false → m = [] ∧ er = 9) ∧ (apartB a b = true → (64 < a.length + b.length ∧ m = [] ∧ er = 6) ∨ (a.length + b.length ≤ 64 ∧ m = a ++ b ∧ er = 0)) := by
    rcases hj with ⟨h | h, _⟩ | ⟨_, _, h3, h4, h5⟩ | ⟨_, _, h3, h4, h5, h6⟩ | ⟨_, _, h3, h4, h5, h6⟩
    · rw [hra] at h; cases h
    · rw [hrb] at h; cases h
    · exact ⟨fun _ => ⟨h4, h5⟩, fun h => (by rw [h3] at h; cases h)⟩
    · exact ⟨fun h => (by rw [h3] at h; cases h), fun _ => .inl ⟨h4, h5, h6⟩⟩
    · exact ⟨fun h => (by rw [h3] at h; cases h), fun _ => .inr ⟨h4, h5, h6⟩⟩
  cases hfo : apartB a b
  · obtain ⟨rfl, rfl⟩ := hcase.1 hfo
    rw [hap] at hfo
    simp only [Bool.or_eq_false_iff, decide_eq_false_iff_not] at hfo
    obtain ⟨bb, off, rfl, hb, hcl⟩ := hrow (by omega)
    refine (iJoin_nine w _ bb off nb cb (lat b 0).1 (by omega) HA' HB' (hcell bb off rfl hb hcl (by omega)) ?_).mono ?_
    · show ∀ W, _ → _
      intro W hW
      rw [← hfo.2]
      exact hF W _ hW
    · rintro e w' ⟨rfl, hb⟩
      exact ⟨_, rfl, ents_nil _, hb⟩
  · have hc := hcase.2 hfo
    refine iJoin_rest w aa ab a.length nb ca cb a b m er hla (by omega) (by rw [hl] at hc; exact hc) HA' HB' ?_ HCA HCB ⟨rfl, hl⟩
    rcases Nat.eq_zero_or_pos nb with h0 | hp
    · exact .inl h0
    · rw [hap, decide_eq_false (by omega), Bool.false_or] at hfo
      obtain ⟨bb, off, rfl, hb, hcl⟩ := hrow hp
      refine .inr ⟨bb, off, rfl, (lat b 0).1, hcell bb off rfl hb hcl hp, fun W hW => ?_⟩
      rw [← hfo]
      exact hF W _ hW

end Go.Proofs.YtkmmifonandkoaaDoor

/-
  The contract of chain.Add, and the five functions of package chain in the forms that the laws ask for.
-/
set_option linter.unusedVariables false
namespace Go.Proofs.YtkmmifonandkoaaDoor
open Go.RowKit

/-- One version in a block of its own, as a slice. -/
theorem vers_lit {w : World} {g : Nat} {a b c : Int} {k : Bool} {s : ByteArray} (H : VBox w g a b c k s) : Vers w (.slice (some ⟨g, 0, none⟩) 1 1) [(a, b, c, k, s)] :=
  ⟨_, 1, rfl, Nat.le_refl _, by unfold maxLen; omega, fun _ => ⟨g, 0, rfl, H.lt, fun i hi => by
    obtain rfl : i = 0 := by simpa using hi
    exact H.cell⟩⟩

set_option maxRecDepth 100000 in
set_option maxHeartbeats 1000000 in
theorem Add_row (w : World) (ao : Option Addr) (len cap : Nat) (l : List Ver) (a b c : Int) (g : Bool) (s : ByteArray) (r o f : Bool) (hl : l.length = len) (hr : rightC l = r) (ho : oneB (a, b, c, g, s) = o) (hf : folB l (a, b, c, g, s) = f) (hv : Vers w (.slice ao len cap) l) :
    (r = false ∨ o = false → Calls Tryd.prog 33 #[.slice ao len cap, (Go.Value.agg #[Go.Value.int Go.IntKind.i64 a, Go.Value.int Go.IntKind.i64 b, Go.Value.int Go.IntKind.i64 c, Go.Value.bool g, Go.Value.string s])] w fun e w' => e = .returned (.tuple #[.slice none 0 0, .int .i64 1]) ∧ Below w.heap.size w w') ∧
    (r = true → o = true → f = false → Calls Tryd.prog 33 #[.slice ao len cap, (Go.Value.agg #[Go.Value.int Go.IntKind.i64 a, Go.Value.int Go.IntKind.i64 b, Go.Value.int Go.IntKind.i64 c, Go.Value.bool g, Go.Value.string s])] w fun e w' => e = .returned (.tuple #[.slice none 0 0, .int .i64 9]) ∧ Below w.heap.size w w') ∧
    (r = true → o = true → f = true → 64 ≤ len → Calls Tryd.prog 33 #[.slice ao len cap, (Go.Value.agg #[Go.Value.int Go.IntKind.i64 a, Go.Value.int Go.IntKind.i64 b, Go.Value.int Go.IntKind.i64 c, Go.Value.bool g, Go.Value.string s])] w fun e w' => e = .returned (.tuple #[.slice none 0 0, .int .i64 6]) ∧ Below w.heap.size w w') ∧
    (r = true → o = true → f = true → len < 64 → Calls Tryd.prog 33 #[.slice ao len cap, (Go.Value.agg #[Go.Value.int Go.IntKind.i64 a, Go.Value.int Go.IntKind.i64 b, Go.Value.int Go.IntKind.i64 c, Go.Value.bool g, Go.Value.string s])] w fun e w' => ∃ v, e = .returned (.tuple #[v, .int .i64 0]) ∧ OwnsV w' w.heap.size v (l ++ [(a, b, c, g, s)]) ∧ Below w.heap.size w w') := by
  have HR : Hid (∀ W, Below w.heap.size w W → Calls Tryd.prog 55 #[.slice ao len cap] W fun e w' => e = .returned (.bool r) ∧ Below W.heap.size W w') := fun W hW => by
    rw [← hr]; exact CRight_any (hv.next hW)
  have HO : Hid (∀ W, Calls Tryd.prog 56 #[(Go.Value.agg #[Go.Value.int Go.IntKind.i64 a, Go.Value.int Go.IntKind.i64 b, Go.Value.int Go.IntKind.i64 c, Go.Value.bool g, Go.Value.string s])] W fun e w' => e = .returned (.bool o) ∧ Below W.heap.size W w') := fun W => by
    rw [← ho]; exact rightVersion_any a b c g s W
  have HF : Hid (∀ W, Below w.heap.size w W → Calls Tryd.prog 57 #[(Go.Value.agg #[Go.Value.int Go.IntKind.i64 a, Go.Value.int Go.IntKind.i64 b, Go.Value.int Go.IntKind.i64 c, Go.Value.bool g, Go.Value.string s]), .slice ao len cap] W fun e w' => e = .returned (.bool f) ∧ Below W.heap.size W w') := fun W hW => by
    rw [← hf]; exact follows_any (hv.next hW) a b c g s
  have HCC : Hid (∀ W (h k : Nat), len < 64 → Below w.heap.size w W → h < W.heap.size → W.cell? ⟨h, 0, none⟩ = some (.slice ao len cap) → W.cell? ⟨h, 1, none⟩ = some (.slice (some ⟨k, 0, none⟩) 1 1) → VBox W k a b c g s → Calls Tryd.prog 58 #[.slice (some ⟨h, 0, none⟩) 2 2] W fun e w' => ∃ v, e = .returned v ∧ OwnsV w' W.heap.size v (l ++ [(a, b, c, g, s)]) ∧ Below W.heap.size W w') := fun W h k h64 hW hh c0 c1 hk =>
    Concat_row W h len 1 cap 1 ao _ l [(a, b, c, g, s)] hl rfl (by omega) (by omega) hh c0 c1 (hv.next hW) (vers_lit hk)
  have HV0 : Hid (VBox (w.alloc (.cells #[.int .i64 a, .int .i64 b, .int .i64 c, .bool g, .string s] 26)) w.heap.size a b c g s) := VBox.new w a b c g s
  have HB0 : Hid (Below w.heap.size w (w.alloc (.cells #[.int .i64 a, .int .i64 b, .int .i64 c, .bool g, .string s] 26))) := (Below.refl _ _).alloc (Nat.le_refl _) _
  have H64 : Hid (r = true → len ≤ 64) := fun h => by rw [← hl]; exact (rightC_spec (hr.trans h)).1
  clear hl hr ho hf hv
  refine ⟨fun h => ?_, fun h1 h2 h3 => ?_, fun h1 h2 h3 h4 => ?_, fun h1 h2 h3 h4 => ?_⟩
  · cases r
    · clear h
      go_enter Tryd.func33, Tryd.ntmps33
      go_wp2_with fail
      refine (HR.out _ HB0.out).mono ?_
      rintro e w1 ⟨rfl, hb1⟩
      go_wp2_with fail
      go_ret2
      exact ⟨rfl, HB0.out.trans (hb1.mono HB0.out.size)⟩
    · obtain rfl : o = false := by rcases h with h | h; cases h; exact h
      clear h
      go_enter Tryd.func33, Tryd.ntmps33
      go_wp2_with fail
      refine (HR.out _ HB0.out).mono ?_
      rintro e w1 ⟨rfl, hb1⟩
      have H1 : Hid (Below w.heap.size w w1 ∧ VBox w1 w.heap.size a b c g s) := ⟨HB0.out.trans (hb1.mono HB0.out.size), HV0.out.over hb1⟩
      clear hb1
      obtain ⟨x0, x1, x2, x3, x4⟩ := H1.out.2.cell
      go_wp2_with fail
      refine (HO.out _).mono ?_
      rintro e w2 ⟨rfl, hb2⟩
      go_wp2_with fail
      go_ret2
      exact ⟨rfl, H1.out.1.trans (hb2.mono H1.out.1.size)⟩
  all_goals
    subst h1
    subst h2
    subst h3
    go_enter Tryd.func33, Tryd.ntmps33
    go_wp2_with fail
    refine (HR.out _ HB0.out).mono ?_
    rintro e w1 ⟨rfl, hb1⟩
    have H1 : Hid (Below w.heap.size w w1 ∧ VBox w1 w.heap.size a b c g s) := ⟨HB0.out.trans (hb1.mono HB0.out.size), HV0.out.over hb1⟩
    clear hb1
    obtain ⟨x0, x1, x2, x3, x4⟩ := H1.out.2.cell
    go_wp2_with fail
    refine (HO.out _).mono ?_
    rintro e w2 ⟨rfl, hb2⟩
    have H2 : Hid (Below w.heap.size w w2 ∧ VBox w2 w.heap.size a b c g s) := ⟨H1.out.1.trans (hb2.mono H1.out.1.size), H1.out.2.over hb2⟩
    clear hb2 x0 x1 x2 x3 x4 H1 HV0 HB0
    obtain ⟨x0, x1, x2, x3, x4⟩ := H2.out.2.cell
    go_wp2_with fail
    refine (HF.out _ H2.out.1).mono ?_
    rintro e w3 ⟨rfl, hb3⟩
    have H3 : Hid (Below w.heap.size w w3 ∧ VBox w3 w.heap.size a b c g s) := ⟨H2.out.1.trans (hb3.mono H2.out.1.size), H2.out.2.over hb3⟩
    clear hb3 x0 x1 x2 x3 x4 H2
  · go_wp2_with fail
    go_ret2
    exact ⟨rfl, H3.out.1⟩
  · have hx := H64.out (by first | rfl | trivial)
    obtain rfl : len = 64 := by omega
    go_wp2_with fail
    go_ret2
    exact ⟨rfl, H3.out.1⟩
  · have e1 : ((len : Int) == 64) = false := beq_eq_false_iff_ne.2 (by omega)
    have e2 : ¬ len = 64 := by omega
    obtain ⟨x0, x1, x2, x3, x4⟩ := H3.out.2.cell
    have H4 : Hid (len < 64) := h4
    clear h4
    obtain ⟨W5, h5, H5⟩ : ∃ W5, ((w3.alloc (.cells #[.int .i64 a, .int .i64 b, .int .i64 c, .bool g, .string s] 26)).alloc (.cells #[.slice ao len cap, .slice (some ⟨w3.heap.size, 0, none⟩) 1 1] 39)) = W5 ∧ Hid (Below w.heap.size w W5 ∧ w3.heap.size + 1 < W5.heap.size ∧ W5.cell? ⟨w3.heap.size + 1, 0, none⟩ = some (.slice ao len cap) ∧ W5.cell? ⟨w3.heap.size + 1, 1, none⟩ = some (.slice (some ⟨w3.heap.size, 0, none⟩) 1 1) ∧ VBox W5 w3.heap.size a b c g s) :=
      ⟨_, rfl, (H3.out.1.alloc H3.out.1.size _).alloc (Nat.le_trans H3.out.1.size (by simp)) _, by simp, by simp, by simp, (VBox.new w3 a b c g s).alloc _⟩
    go_wp2_with fail
    refine (HCC.out _ _ _ H4.out H5.out.1 H5.out.2.1 H5.out.2.2.1 H5.out.2.2.2.1 H5.out.2.2.2.2).mono ?_
    rintro e w6 ⟨v, rfl, ho6, hb6⟩
    have H6 : Hid (OwnsV w6 w.heap.size v (l ++ [(a, b, c, g, s)]) ∧ Below w.heap.size w w6) := ⟨ho6.mono H5.out.1.size, H5.out.1.trans (hb6.mono H5.out.1.size)⟩
    clear ho6 hb6 h5 H5
    go_wp2_with fail
    go_ret2
    exact ⟨v, rfl, H6.out⟩

end Go.Proofs.YtkmmifonandkoaaDoor
