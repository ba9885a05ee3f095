/-
  Merged texts, in build order: VrConcat IxBox Shelf KyWalks KyRight KyCompare InOne InRight IxPut SmRefRight VrRefOne SmBefore VrRefRight VrRefEqual.
-/
import Derived.Test.YtkmmifonandkoaaDoorG03
import Derived.Lib.AppendZerosOnto
import Derived.Lib.AppendZeros
import Derived.Laws.AppendOwnNone
import Derived.Shelf.Small.Utf8
import Derived.Shelf.Small.Wraps
import Derived.Shelf.Strings.Prefix
import Derived.Shelf.Unicode.DecodeSlow
import Derived.Shelf.Unicode.DecodeAny
import Derived.Ground.Names2Prog
import Derived.Shelf.Slices.SearchI
import Derived.Test.YtkmmifonandkoaaDoorProg
import Derived.Test.YtkmmifonandkoaaDoorG01
import Derived.Test.YtkmmifonandkoaaDoorG02
import Derived.Lib.OthersKept
import Derived.Deep.DeepCutAuto

/-
  The contracts of slices.Grow at no versions, and of slices.Concat at two slices of versions.
-/
set_option linter.unusedVariables false
namespace Go.Proofs.YtkmmifonandkoaaDoor
open Go.RowKit

theorem run_append_none' {P : Program} {w : World} (base : Nat) (t ty e : TypeId) (i : TypeInfo) (size c : Nat) (ht : P.underlying t = some (.slice e)) (hi : P.info? e = some i)
    (v : Value) (n : Nat) (xs : List Value) (hown : w.ownsRow base e size v n xs) :
    (Builtin.append_ #[t, t] ty #[v, .slice none 0 c]).run P w = .ok v w := by
  rcases hown.2 with ⟨rfl, rfl⟩ | ⟨g, cap, cur, rfl, _, _, hnc, _⟩
  · simp [Builtin.append_, run_underlying ht, sizeOf, typeInfo, hi, Builtin.lenOf, Builtin.firstCells]
  · simp [Builtin.append_, run_underlying ht, sizeOf, typeInfo, hi, Builtin.lenOf, Builtin.firstCells, hnc, storeCells]

/-- Versions that lie somewhere, appended to versions that are owned. -/
theorem wpList_append_vers {w : World} {ops : Array Oper} {rest : List Oper} {o : Oper} {a : Act} {Q : Exit → Act → World → Prop} (hgd : o.guard = none) (s x : Operand)
    (ho : o.op = .call { callee := .builtin .append, args := #[s, x], argTypes := #[39, 39] }) (base : Nat) (v u : Value) (xs l : List Ver) (hs : a.eval s = v) (hown : OwnsV w base v xs) (hx : a.eval x = u) (hu : Vers w u l)
    (hlen : xs.length + l.length ≤ 1000000) (hbase : base ≤ w.heap.size)
    (h : ∀ v' w', OwnsV w' base v' (xs ++ l) → w.grownBy w' v.ownBlock → wpList Tryd.prog ops Q rest (a.put o.dst v') w') : wpList Tryd.prog ops Q (o :: rest) a w := by
  obtain ⟨i0, hi, hz0, hz1, hz2⟩ := info_parts info_ver
  have hown' : w.ownsRow base 26 5 v xs.length (versC xs) := hown
  obtain ⟨ao, cap, rfl, h1, h2, h3⟩ := hu
  have hmany : ∀ ad, ao = some ad → (∀ j u, (versC l)[j]? = some u → w.cell? (ad.add j) = some u) → wpList Tryd.prog ops Q (o :: rest) a w := by
    rintro ad rfl hn
    refine wpList_append_own w hgd s x 39 ho base 26 i0 _ 5 48 Tryd.underlying39 hi hz0 hz1 hz2 rfl (by decide) v _ _ hs hown' ad _ cap (versC l) hx (versC_len l) hn (versC_one l) (by unfold maxLen; omega) (by omega) hbase fun v' w' hown1 hg _ => h v' w' ?_ hg
    show World.ownsRow w' base _ 5 v' (xs ++ l).length (versC (xs ++ l))
    rw [List.length_append, show versC (xs ++ l) = versC xs ++ versC l by simp [versC]]
    exact hown1
  rcases Nat.eq_zero_or_pos l.length with h0 | h0
  · obtain rfl : l = [] := List.length_eq_zero_iff.1 h0
    cases ao with
    | some ad => exact hmany ad rfl (by intro j u hj; simp [versC] at hj)
    | none =>
      have h' := h v w (by rw [List.append_nil]; exact hown) ⟨rfl, rfl, rfl, Nat.le_refl _, fun _ _ _ => rfl⟩
      exact Lib.wpList_append_run w hgd s x _ _ ho v _ hs hx v w (run_append_none' base _ _ _ i0 5 cap Tryd.underlying39 hi v _ _ hown') h'
  · obtain ⟨b, off, e, hb, hcl⟩ := h3 h0
    exact hmany _ e (vers_news rfl hcl)

set_option maxRecDepth 100000 in
set_option maxHeartbeats 1000000 in
theorem Grow_any (w : World) (n : Nat) (h0 : 0 < n) (hn : n ≤ 1000) :
    Calls Tryd.prog 76 #[.slice none 0 0, .int .i64 n] w fun e w' => ∃ v, e = .returned v ∧ OwnsV w' w.heap.size v [] ∧ Below w.heap.size w w' := by
  obtain ⟨i0, hi, hz0, hz1, hz2⟩ := info_parts info_ver
  have hrz : ∀ ty, ∃ G, n ≤ G ∧ G ≤ maxLen ∧ ∃ cs : Array Value, cs.size = G * 5 ∧ (Builtin.append_ #[39, 3] ty #[.slice none 0 0, .int .i64 n]).run Tryd.prog w = .ok (.slice (some ⟨w.heap.size, 0, none⟩) n G) (w.drew.alloc (.cells cs 26)) := fun ty => by
    have h := Lib.run_append_grow_zeros (P := Tryd.prog) w 39 3 ty 26 i0 _ .i64 .i64 Tryd.underlying39 Tryd.underlying3 hi hz0 none 0 0 [] (run_firstCells_none w.drew _ 0 0 0) n h0 (by rw [hz1]; decide) (by omega) (by omega)
      (by rw [hz2]; omega) (by rw [hz2]; exact growslice_fits (by omega) (by omega))
    rw [Nat.zero_add] at h
    have h1 := grownCap_ge w n 0 26
    have h2 := grownCap_le_maxLen w n 0 26 (by unfold maxLen; omega)
    refine ⟨_, h1, h2, _, ?_, h⟩
    generalize grownCap w n 0 26 = G at h1
    simp [Builtin.zeroCells, Value.cells]
    omega
  have q1 := IntWalk.i64_in (n : Int) (by omega)
  have q2 : decide (0 < (n : Int)) = true := decide_eq_true (by omega)
  have q3 : decide ((n : Int) < 0) = false := decide_eq_false (by omega)
  obtain ⟨G, hG, hGm, cs, hcs, hrun⟩ := hrz 39
  have hG2 : G ≤ 9223372036854775807 := Nat.le_trans hGm (by decide)
  have HR := Lib.hid hrun
  have HO : Hid (OwnsV (w.drew.alloc (.cells cs 26)) w.heap.size (.slice (some ⟨w.heap.size, 0, none⟩) 0 G) []) := World.ownsRow_made (base := w.heap.size) w.drew cs G (Nat.le_refl _) hGm hcs
  have HB : Hid (Below w.heap.size w (w.drew.alloc (.cells cs 26))) := ((Below.refl _ w).drew).alloc (Nat.le_refl _) _
  clear hrz hrun hcs hGm
  go_enter Tryd.func76, Tryd.ntmps76
  go_wp2_with (at_builtin; refine Lib.wpList_append_run _ rfl _ _ _ _ rfl _ _ rfl rfl _ _ HR.out ?_)
  go_ret
  exact ⟨_, rfl, HO.out, HB.out⟩

def szAt (a b k : Nat) : Nat := if k = 0 then 0 else if k = 1 then a else a + b
def lsAt (a b : List Ver) (k : Nat) : List Ver := if k = 0 then [] else if k = 1 then a else a ++ b

set_option maxRecDepth 100000 in
set_option maxHeartbeats 1000000 in
theorem Concat_row (w : World) (h na nb ca cb : Nat) (aa ab : Option Addr) (la lb : List Ver) (hna : la.length = na) (hnb : lb.length = nb) (hsz : na + nb ≤ 1000) (h0 : 0 < na + nb) (hh : h < w.heap.size)
    (c0 : w.cell? ⟨h, 0, none⟩ = some (.slice aa na ca)) (c1 : w.cell? ⟨h, 1, none⟩ = some (.slice ab nb cb)) (hA : Vers w (.slice aa na ca) la) (hB : Vers w (.slice ab nb cb) lb) :
    Calls Tryd.prog 58 #[.slice (some ⟨h, 0, none⟩) 2 2] w fun e w' => ∃ v, e = .returned v ∧ OwnsV w' w.heap.size v (la ++ lb) ∧ Below w.heap.size w w' := by
  have HA := Lib.hid hA
  have HB := Lib.hid hB
  have HC : Hid (∀ W, Below w.heap.size w W → W.cell? ⟨h, 0, none⟩ = some (.slice aa na ca) ∧ W.cell? ⟨h, 1, none⟩ = some (.slice ab nb cb)) := fun W hW => ⟨(hW.cell (p := ⟨h, 0, none⟩) hh).trans c0, (hW.cell (p := ⟨h, 1, none⟩) hh).trans c1⟩
  have HL : Hid (la.length = na ∧ lb.length = nb) := ⟨hna, hnb⟩
  have HG : Hid (∀ W n, n = na + nb → Calls Tryd.prog 76 #[.slice none 0 0, .int .i64 (n : Nat)] W fun e w' => ∃ v, e = .returned v ∧ OwnsV w' W.heap.size v [] ∧ Below W.heap.size W w') := fun W n hn => Grow_any W n (by omega) (by omega)
  clear hA hB hna hnb hh
  go_enter Tryd.func58, Tryd.ntmps58
  go_wp2_with fail
  go_loop [3, 11] (fun u i => ∃ k : Nat, k ≤ 2 ∧ i = .int .i64 k ∧ u = .int .i64 (szAt na nb k : Nat)) (fun _ i => 2 - (intOf i).toNat)
  case atStart => exact ⟨0, by omega, rfl, rfl⟩
  case round =>
    obtain ⟨k, hk, rfl, rfl⟩ := hrel
    have hk3 : k = 0 ∨ k = 1 ∨ k = 2 := by omega
    rcases hk3 with rfl | rfl | rfl
    · have q1 := IntWalk.i64_in (na : Int) (by omega)
      have q2 : decide ((na : Int) < 0) = false := decide_eq_false (by omega)
      simp only [szAt, if_true]
      go_wp2_with fail
      go_round
      case rel => exact ⟨1, by omega, by go_num, by simp⟩
      case measure => simp [intOf]
    · have q1 := IntWalk.i64_in ((na : Int) + (nb : Int)) (by omega)
      have q2 : decide ((na : Int) + (nb : Int) < 0) = false := decide_eq_false (by omega)
      have e : szAt na nb 1 = na := rfl
      rw [e]
      go_wp2_with fail
      go_round
      case rel => exact ⟨2, by omega, by go_num, by simp [szAt]⟩
      case measure => simp [intOf]
    · have e : szAt na nb 2 = na + nb := rfl
      rw [e]
      obtain ⟨n, hn⟩ : ∃ n, n = na + nb := ⟨_, rfl⟩
      rw [← hn]
      have HN := Lib.hid hn
      clear hn e
      go_wp2_with fail
      refine (HG.out _ _ HN.out).mono ?_
      rintro e w1 ⟨v1, rfl, ho1, hb1⟩
      have H1 : Hid (OwnsV w1 w.heap.size v1 [] ∧ Below w.heap.size w w1) := ⟨ho1, hb1⟩
      clear ho1 hb1 c0 c1
      go_wp2_with fail
      go_loopw [6, 27] (fun u i wr => ∃ k : Nat, k ≤ 2 ∧ i = .int .i64 k ∧ Hid (OwnsV wr w.heap.size u (lsAt la lb k)) ∧ Hid (Below w.heap.size w wr)) (fun _ i _ => 2 - (intOf i).toNat)
      case atStart => exact ⟨0, by omega, rfl, H1.out.1, H1.out.2⟩
      case round =>
        obtain ⟨k, hk, rfl, hown, hbel⟩ := hrel
        have hk3 : k = 0 ∨ k = 1 ∨ k = 2 := by omega
        rcases hk3 with rfl | rfl | rfl
        · obtain ⟨c0, c1⟩ := HC.out wr hbel.out
          have HV : Hid (Vers wr (.slice aa na ca) la) := HA.out.next hbel.out
          have HX : Hid ([] ++ la = lsAt la lb 1) := rfl
          go_wp2_with (at_builtin; refine wpList_append_vers rfl _ _ rfl w.heap.size _ _ [] la rfl hown.out rfl HV.out (by have := HL.out; simp; omega) hbel.out.size ?_; intro v' w2 ho2 hg2; have HO : Hid (OwnsV w2 w.heap.size v' (lsAt la lb 1) ∧ Below w.heap.size w w2) := ⟨by rw [← HX.out]; exact ho2, hbel.out.grown hg2 hbel.out.size (fun k hk => (World.ownsRow.lt hown.out k hk).1)⟩; clear ho2 hg2)
          exact ⟨⟨1, by omega, by go_num, HO.out.1, HO.out.2⟩, by simp [intOf]⟩
        · obtain ⟨c0, c1⟩ := HC.out wr hbel.out
          have HV : Hid (Vers wr (.slice ab nb cb) lb) := HB.out.next hbel.out
          have HX : Hid (la ++ lb = lsAt la lb 2) := rfl
          have HO1 : Hid (OwnsV wr w.heap.size u6 la) := hown.out
          go_wp2_with (at_builtin; refine wpList_append_vers rfl _ _ rfl w.heap.size _ _ la lb rfl HO1.out rfl HV.out (by have := HL.out; omega) hbel.out.size ?_; intro v' w2 ho2 hg2; have HO : Hid (OwnsV w2 w.heap.size v' (lsAt la lb 2) ∧ Below w.heap.size w w2) := ⟨by rw [← HX.out]; exact ho2, hbel.out.grown hg2 hbel.out.size (fun k hk => (World.ownsRow.lt HO1.out k hk).1)⟩; clear ho2 hg2)
          exact ⟨⟨2, by omega, by go_num, HO.out.1, HO.out.2⟩, by simp [intOf]⟩
        · have HO : Hid (OwnsV wr w.heap.size u6 (la ++ lb)) := hown.out
          go_wp2_with fail
          go_ret
          exact ⟨_, rfl, HO.out, hbel.out⟩

end Go.Proofs.YtkmmifonandkoaaDoor

/-
  Entries and items that lie in memory: rows of cells, what they lead to, rows of one's own.
-/
set_option linter.unusedVariables false
namespace Go.Proofs.YtkmmifonandkoaaDoor
open Go.RowKit

theorem cell_block {w w' : World} {a : Addr} (h : w'.heap[a.block]? = w.heap[a.block]?) : w'.cell? a = w.cell? a := World.cell?_of_block h
/-- An entry as it lies: the key, and the chain's slice. -/
abbrev EntV := ByteArray × Value
def entv0 : EntV := ({ data := #[] }, .slice none 0 0)
def eat (l : List EntV) (i : Nat) : EntV := l.getD i entv0
def entC (e : EntV) : List Value := [.string e.1, e.2]
def entsC (l : List EntV) : List Value := l.flatMap entC
theorem entsC_len (l : List EntV) : (entsC l).length = l.length * 2 := by
  induction l with
  | nil => rfl
  | cons v l ih => simp only [entsC, List.flatMap_cons, List.length_append, List.length_cons] at *; rw [ih]; simp [entC]; omega
theorem entsC_app (l m : List EntV) : entsC l ++ entsC m = entsC (l ++ m) := by simp [entsC]
theorem entsC_snoc (l : List EntV) (v : EntV) : entsC l ++ entC v = entsC (l ++ [v]) := by simp [entsC]
theorem entsC_at (l : List EntV) : ∀ (i j : Nat), i < l.length → j < 2 → (entsC l)[i * 2 + j]? = (entC (eat l i))[j]? := by
  induction l with
  | nil => intro i j hi; exact absurd hi (Nat.not_lt_zero _)
  | cons v l ih =>
    intro i j hi hj
    have hv : (entC v).length = 2 := rfl
    cases i with
    | zero => simp only [entsC, List.flatMap_cons, Nat.zero_mul, Nat.zero_add]; rw [List.getElem?_append_left (by omega)]; rfl
    | succ i =>
      have h2 := ih i j (by simpa using hi) hj
      simp only [entsC, List.flatMap_cons] at *
      rw [List.getElem?_append_right (by omega), hv, show (i + 1) * 2 + j - 2 = i * 2 + j by omega, h2]
      simp [eat]
theorem eat_app_left (l m : List EntV) {i : Nat} (h : i < l.length) : eat (l ++ m) i = eat l i := by simp [eat, List.getD, List.getElem?_append_left h]
theorem eat_snoc (l : List EntV) (v : EntV) : eat (l ++ [v]) l.length = v := by simp [eat, List.getD]
theorem lat_app_left (l m : List Ent) {i : Nat} (h : i < l.length) : lat (l ++ m) i = lat l i := by simp [lat, List.getD, List.getElem?_append_left h]
theorem lat_app_right (l m : List Ent) (i : Nat) : lat (l ++ m) (l.length + i) = lat m i := by simp [lat, List.getD, List.getElem?_append_right]
theorem eat_app_right (l m : List EntV) (i : Nat) : eat (l ++ m) (l.length + i) = eat m i := by simp [eat, List.getD, List.getElem?_append_right]
theorem lat_snoc (l : List Ent) (v : Ent) : lat (l ++ [v]) l.length = v := by simp [lat, List.getD]
/-- The two cells of an entry in a row. -/
def EntAt (W : World) (b o : Nat) (e : EntV) : Prop := W.cell? ⟨b, o, none⟩ = some (.string e.1) ∧ W.cell? ⟨b, o + 1, none⟩ = some e.2
theorem EntAt.next {B : Nat} {w w' : World} {b o : Nat} {v : EntV} (H : EntAt w b o v) (hb : Below B w w') (h : b < B) : EntAt w' b o v := by
  unfold EntAt
  rw [hb.cell (p := ⟨b, o, none⟩) h, hb.cell (p := ⟨b, o + 1, none⟩) h]
  exact H
theorem entC_one {e : EntV} (h : e.2.oneCell' = true) : ∀ u ∈ entC e, u.oneCell' = true := by
  intro u hu
  simp only [entC, List.mem_cons, List.not_mem_nil, or_false] at hu
  rcases hu with rfl | rfl
  · rfl
  · exact h
/-- A slice value that leads to entries as they lie. -/
def EntsV (w : World) (v : Value) (l : List EntV) : Prop :=
  ∃ ao cap, v = .slice ao l.length cap ∧ l.length ≤ cap ∧ cap ≤ maxLen ∧ (0 < l.length → ∃ b off, ao = some ⟨b, off, none⟩ ∧ b < w.heap.size ∧ ∀ i, i < l.length → EntAt w b (off + i * 2) (eat l i))
theorem EntsV.next {w w' : World} {v : Value} {l : List EntV} (h : EntsV w v l) (hb : Below w.heap.size w w') : EntsV w' v l := by
  obtain ⟨ao, cap, e, h1, h2, h3⟩ := h
  refine ⟨ao, cap, e, h1, h2, fun hp => ?_⟩
  obtain ⟨b, off, e2, h4, h5⟩ := h3 hp
  exact ⟨b, off, e2, Nat.lt_of_lt_of_le h4 hb.size, fun i hi => (h5 i hi).next hb h4⟩
/-- What entries as they lie lead to. -/
def Leads (w : World) (es : List EntV) (l : List Ent) : Prop := es.length = l.length ∧ ∀ i, i < l.length → (eat es i).1 = (lat l i).1 ∧ Vers w (eat es i).2 (lat l i).2
theorem Leads.next {w w' : World} {es : List EntV} {l : List Ent} (h : Leads w es l) (hb : Below w.heap.size w w') : Leads w' es l := ⟨h.1, fun i hi => ⟨(h.2 i hi).1, (h.2 i hi).2.next hb⟩⟩
/-- A slice value that leads to entries, wherever they lie. -/
def Ents (w : World) (v : Value) (l : List Ent) : Prop := ∃ es, EntsV w v es ∧ Leads w es l
theorem Ents.next {w w' : World} {v : Value} {l : List Ent} (h : Ents w v l) (hb : Below w.heap.size w w') : Ents w' v l := by
  obtain ⟨es, h1, h2⟩ := h
  exact ⟨es, h1.next hb, h2.next hb⟩
theorem ents_nil (w : World) : Ents w (.slice none 0 0) [] := ⟨[], ⟨none, 0, rfl, Nat.le_refl _, by unfold maxLen; omega, fun hp => absurd hp (Nat.lt_irrefl _)⟩, rfl, fun i hi => absurd hi (Nat.not_lt_zero _)⟩
theorem vers_slice' {w : World} {v : Value} {l : List Ver} (h : Vers w v l) : ∃ ao cap, v = .slice ao l.length cap := by obtain ⟨ao, cap, e, _⟩ := h; exact ⟨ao, cap, e⟩
theorem vers_one {w : World} {v : Value} {l : List Ver} (h : Vers w v l) : v.oneCell' = true := by obtain ⟨ao, cap, e, _⟩ := h; rw [e]; rfl

theorem Ents.opened {w : World} {v : Value} {l : List Ent} (h : Ents w v l) : ∃ ao n cap es, v = .slice ao n cap ∧ l.length = n ∧ n ≤ cap ∧ cap ≤ maxLen ∧ n ≤ 9223372036854775807 ∧
    (0 < n → ∃ b off, ao = some ⟨b, off, none⟩ ∧ b < w.heap.size ∧ ∀ i, i < n → EntAt w b (off + i * 2) (eat es i)) ∧ Leads w es l := by
  obtain ⟨es, ⟨ao, cap, rfl, h1, h2, h3⟩, h4⟩ := h
  have : maxLen ≤ 9223372036854775807 := by decide
  exact ⟨ao, es.length, cap, es, rfl, h4.1.symm, h1, h2, by omega, h3, h4⟩

/-! ### Rows of one's own -/
def OwnsE (w : World) (base : Nat) (v : Value) (l : List EntV) : Prop := w.ownsRow base 60 2 v l.length (entsC l)
theorem OwnsE.nil (w : World) (base : Nat) : OwnsE w base (.slice none 0 0) [] := World.ownsRow_nil _ _ _ _
theorem OwnsE.next {w w' : World} {B : Nat} {v : Value} {l : List EntV} (h : OwnsE w B v l) (hb : Below w.heap.size w w') : OwnsE w' B v l := by
  obtain ⟨hl, h2⟩ := h
  refine ⟨hl, ?_⟩
  rcases h2 with h2 | ⟨g, cap, cur, e1, e2, e3, r⟩
  · exact .inl h2
  · refine .inr ⟨g, cap, cur, e1, e2, (hb.block g ?_).trans e3, r⟩
    rcases Nat.lt_or_ge g w.heap.size with h1 | h1
    · exact h1
    · rw [Array.getElem?_eq_none h1] at e3; cases e3
theorem OwnsE.mono {w : World} {B B' : Nat} {v : Value} {l : List EntV} (h : OwnsE w B v l) (hB : B' ≤ B) : OwnsE w B' v l := by
  obtain ⟨hl, h2⟩ := h
  refine ⟨hl, ?_⟩
  rcases h2 with h2 | ⟨g, cap, cur, e1, e2, r⟩
  · exact .inl h2
  · exact .inr ⟨g, cap, cur, e1, by omega, r⟩
theorem OwnsE.ents {w : World} {B : Nat} {v : Value} {l : List EntV} (h : OwnsE w B v l) : EntsV w v l := by
  have h' : w.ownsRow B 60 2 v l.length (entsC l) := h
  rcases h'.2 with ⟨e, hn⟩ | ⟨g, cap, cur, e, hB, hg, hc, hm, hsz, htk⟩
  · exact ⟨none, 0, by rw [e, hn], by omega, by unfold maxLen; omega, fun hp => by omega⟩
  · have hgl : g < w.heap.size := by
      rcases Nat.lt_or_ge g w.heap.size with h1 | h1
      · exact h1
      · rw [Array.getElem?_eq_none h1] at hg; cases hg
    refine ⟨some ⟨g, 0, none⟩, cap, e, hc, hm, fun _ => ⟨g, 0, rfl, hgl, fun i hi => ?_⟩⟩
    have key : ∀ j, j < 2 → w.cell? ⟨g, 0 + i * 2 + j, none⟩ = (entC (eat l i))[j]? := by
      intro j hj
      have h1 := entsC_at l i j hi hj
      rw [← htk, List.getElem?_take, if_pos (by omega)] at h1
      rw [← h1]
      simp [World.cell?, hg]
    exact ⟨key 0 (by omega), key 1 (by omega)⟩
theorem info_ent : (Tryd.prog.info? 60).map (fun i => (i.zero, i.size, i.bytes)) = some (some (.agg #[.string ByteArray.empty, .slice none 0 0]), 2, 40) := by kernel_rfl
/-- The block of an own row: not below the base, of entries. -/
theorem OwnsE.block {w : World} {B : Nat} {v : Value} {l : List EntV} (h : OwnsE w B v l) : ∀ k, v.ownBlock = some k → B ≤ k ∧ ∃ cs, w.heap[k]? = some (.cells cs 60 (0, 0)) := by
  intro k hk
  rcases h.2 with ⟨rfl, _⟩ | ⟨g, cap, cur, rfl, hB, hg, _⟩
  · cases hk
  · simp only [Value.ownBlock, Option.some.injEq] at hk
    subst hk
    exact ⟨hB, cur, hg⟩

/-! ### Chains that an own row's growing doesn't touch -/
def VersX (base : Nat) (w : World) (v : Value) (l : List Ver) : Prop :=
  Vers w v l ∧ (0 < l.length → ∀ a n c, v = .slice (some a) n c → a.block < base ∨ ∃ cs fz, w.heap[a.block]? = some (.cells cs 26 fz))
theorem Vers.old {w : World} {v : Value} {l : List Ver} (h : Vers w v l) : VersX w.heap.size w v l := by
  refine ⟨h, fun hp a n c e => ?_⟩
  obtain ⟨ao, cap, e1, h1, h2, h3⟩ := h
  obtain ⟨b, off, e2, h4, h5⟩ := h3 hp
  rw [e1, e2] at e
  injection e with e e3 e4
  injection e with e
  subst e
  exact .inl h4
theorem OwnsV.x {w : World} {B base : Nat} {v : Value} {l : List Ver} (h : OwnsV w B v l) : VersX base w v l := by
  refine ⟨h.vers, fun hp a n c e => ?_⟩
  rcases h.2 with ⟨rfl, h0⟩ | ⟨g, cap, cur, rfl, hB, hg, _⟩
  · cases e
  · injection e with e e3 e4
    injection e with e
    subst e
    exact .inr ⟨cur, _, hg⟩
theorem VersX.next {base : Nat} {w w' : World} {v : Value} {l : List Ver} (h : VersX base w v l) (hb : Below w.heap.size w w') : VersX base w' v l := by
  refine ⟨h.1.next hb, fun hp a n c e => ?_⟩
  rcases h.2 hp a n c e with h1 | ⟨cs, fz, h1⟩
  · exact .inl h1
  · refine .inr ⟨cs, fz, (hb.block _ ?_).trans h1⟩
    rcases Nat.lt_or_ge a.block w.heap.size with h2 | h2
    · exact h2
    · rw [Array.getElem?_eq_none h2] at h1; cases h1
theorem VersX.grown {base : Nat} {w w' : World} {v u : Value} {l : List Ver} {es : List EntV} (h : VersX base w u l) (ho : OwnsE w base v es) (hg : w.grownBy w' v.ownBlock) : VersX base w' u l := by
  obtain ⟨⟨ao, cap, e1, h1, h2, h3⟩, h4⟩ := h
  by_cases hp : 0 < l.length
  · obtain ⟨b, off, e2, h5, h6⟩ := h3 hp
    have hne : some b ≠ v.ownBlock := by
      intro he
      obtain ⟨hB, cs, hc⟩ := ho.block b he.symm
      rcases h4 hp ⟨b, off, none⟩ _ _ (by rw [e1, e2]) with h7 | ⟨cs', fz, h7⟩
      · have : b < base := h7
        omega
      · have h8 : w.heap[b]? = some (.cells cs' 26 fz) := h7
        rw [hc] at h8
        injection h8 with h8
        injection h8 with _ h9
        exact absurd h9 (by decide)
    have hbk := hg.block b h5 hne
    refine ⟨⟨ao, cap, e1, h1, h2, fun _ => ⟨b, off, e2, Nat.lt_of_lt_of_le h5 hg.size, fun i hi => ?_⟩⟩, fun _ a n c e => ?_⟩
    · obtain ⟨x0, x1, x2, x3, x4⟩ := h6 i hi
      exact ⟨(World.cell?_of_block hbk).trans x0, (World.cell?_of_block hbk).trans x1, (World.cell?_of_block hbk).trans x2, (World.cell?_of_block hbk).trans x3, (World.cell?_of_block hbk).trans x4⟩
    · have hab : a.block = b := by
        rw [e1, e2] at e
        injection e with e _ _
        injection e with e
        rw [← e]
      rcases h4 hp a n c e with h7 | ⟨cs', fz, h7⟩
      · exact .inl h7
      · exact .inr ⟨cs', fz, by rw [hab] at h7 ⊢; exact hbk.trans h7⟩
  · exact ⟨⟨ao, cap, e1, h1, h2, fun h => absurd h hp⟩, fun h => absurd h hp⟩
/-- What an own row's entries lead to, untouched by its growing. -/
def LeadsX (base : Nat) (w : World) (es : List EntV) (l : List Ent) : Prop := es.length = l.length ∧ ∀ i, i < l.length → (eat es i).1 = (lat l i).1 ∧ VersX base w (eat es i).2 (lat l i).2
theorem LeadsX.leads {base : Nat} {w : World} {es : List EntV} {l : List Ent} (h : LeadsX base w es l) : Leads w es l := ⟨h.1, fun i hi => ⟨(h.2 i hi).1, (h.2 i hi).2.1⟩⟩
theorem Leads.old {w : World} {es : List EntV} {l : List Ent} (h : Leads w es l) : LeadsX w.heap.size w es l := ⟨h.1, fun i hi => ⟨(h.2 i hi).1, (h.2 i hi).2.old⟩⟩
theorem LeadsX.nil (base : Nat) (w : World) : LeadsX base w [] [] := ⟨rfl, fun i hi => absurd hi (Nat.not_lt_zero _)⟩
theorem LeadsX.next {base : Nat} {w w' : World} {es : List EntV} {l : List Ent} (h : LeadsX base w es l) (hb : Below w.heap.size w w') : LeadsX base w' es l := ⟨h.1, fun i hi => ⟨(h.2 i hi).1, (h.2 i hi).2.next hb⟩⟩
theorem LeadsX.grown {base : Nat} {w w' : World} {v : Value} {es es' : List EntV} {l : List Ent} (h : LeadsX base w es l) (ho : OwnsE w base v es') (hg : w.grownBy w' v.ownBlock) : LeadsX base w' es l := ⟨h.1, fun i hi => ⟨(h.2 i hi).1, (h.2 i hi).2.grown ho hg⟩⟩
theorem LeadsX.snoc {base : Nat} {w : World} {es : List EntV} {l : List Ent} (h : LeadsX base w es l) {k : ByteArray} {v : Value} {c : List Ver} (hv : VersX base w v c) : LeadsX base w (es ++ [(k, v)]) (l ++ [(k, c)]) := by
  refine ⟨by simp [h.1], fun i hi => ?_⟩
  simp only [List.length_append, List.length_cons, List.length_nil] at hi
  by_cases hil : i < l.length
  · rw [eat_app_left _ _ (by rw [h.1]; exact hil), lat_app_left _ _ hil]
    exact h.2 i hil
  · obtain rfl : i = l.length := by omega
    rw [lat_snoc, ← h.1, eat_snoc]
    exact ⟨rfl, hv⟩
theorem LeadsX.app {base : Nat} {w : World} {es fs : List EntV} {l m : List Ent} (h : LeadsX base w es l) (h2 : LeadsX base w fs m) : LeadsX base w (es ++ fs) (l ++ m) := by
  refine ⟨by simp [h.1, h2.1], fun i hi => ?_⟩
  simp only [List.length_append] at hi
  by_cases hil : i < l.length
  · rw [eat_app_left _ _ (by rw [h.1]; exact hil), lat_app_left _ _ hil]
    exact h.2 i hil
  · obtain ⟨j, rfl⟩ : ∃ j, i = l.length + j := ⟨i - l.length, by omega⟩
    rw [lat_app_right, ← h.1, eat_app_right]
    exact h2.2 j (by omega)
theorem own_ents {base : Nat} {w : World} {v : Value} {es : List EntV} {l : List Ent} (h : OwnsE w base v es) (h2 : LeadsX base w es l) : Ents w v l := ⟨es, h.ents, h2.leads⟩

/-! ### Items -/
abbrev Itm := ByteArray × ByteArray
def itm0 : Itm := ({ data := #[] }, { data := #[] })
def mat (l : List Itm) (i : Nat) : Itm := l.getD i itm0
def itmC (e : Itm) : List Value := [.string e.1, .string e.2]
def itmsC (l : List Itm) : List Value := l.flatMap itmC
theorem itmsC_len (l : List Itm) : (itmsC l).length = l.length * 2 := by
  induction l with
  | nil => rfl
  | cons v l ih => simp only [itmsC, List.flatMap_cons, List.length_append, List.length_cons] at *; rw [ih]; simp [itmC]; omega
theorem itmsC_app (l m : List Itm) : itmsC l ++ itmsC m = itmsC (l ++ m) := by simp [itmsC]
theorem itmsC_snoc (l : List Itm) (v : Itm) : itmsC l ++ itmC v = itmsC (l ++ [v]) := by simp [itmsC]
theorem itmsC_at (l : List Itm) : ∀ (i j : Nat), i < l.length → j < 2 → (itmsC l)[i * 2 + j]? = (itmC (mat l i))[j]? := by
  induction l with
  | nil => intro i j hi; exact absurd hi (Nat.not_lt_zero _)
  | cons v l ih =>
    intro i j hi hj
    have hv : (itmC v).length = 2 := rfl
    cases i with
    | zero => simp only [itmsC, List.flatMap_cons, Nat.zero_mul, Nat.zero_add]; rw [List.getElem?_append_left (by omega)]; rfl
    | succ i =>
      have h2 := ih i j (by simpa using hi) hj
      simp only [itmsC, List.flatMap_cons] at *
      rw [List.getElem?_append_right (by omega), hv, show (i + 1) * 2 + j - 2 = i * 2 + j by omega, h2]
      simp [mat]
theorem itmC_one (e : Itm) : ∀ u ∈ itmC e, u.oneCell' = true := by
  intro u hu
  simp only [itmC, List.mem_cons, List.not_mem_nil, or_false] at hu
  rcases hu with rfl | rfl <;> rfl
theorem itmsC_one (l : List Itm) : ∀ u ∈ itmsC l, u.oneCell' = true := by
  intro u hu
  obtain ⟨v, _, hv⟩ := List.mem_flatMap.1 hu
  exact itmC_one v u hv
def ItmAt (W : World) (b o : Nat) (e : Itm) : Prop := W.cell? ⟨b, o, none⟩ = some (.string e.1) ∧ W.cell? ⟨b, o + 1, none⟩ = some (.string e.2)
theorem ItmAt.next {B : Nat} {w w' : World} {b o : Nat} {v : Itm} (H : ItmAt w b o v) (hb : Below B w w') (h : b < B) : ItmAt w' b o v := by
  unfold ItmAt
  rw [hb.cell (p := ⟨b, o, none⟩) h, hb.cell (p := ⟨b, o + 1, none⟩) h]
  exact H
/-- A slice value that leads to items. -/
def Itms (w : World) (v : Value) (l : List Itm) : Prop :=
  ∃ ao cap, v = .slice ao l.length cap ∧ l.length ≤ cap ∧ cap ≤ maxLen ∧ (0 < l.length → ∃ b off, ao = some ⟨b, off, none⟩ ∧ b < w.heap.size ∧ ∀ i, i < l.length → ItmAt w b (off + i * 2) (mat l i))
theorem Itms.next {w w' : World} {v : Value} {l : List Itm} (h : Itms w v l) (hb : Below w.heap.size w w') : Itms w' v l := by
  obtain ⟨ao, cap, e, h1, h2, h3⟩ := h
  refine ⟨ao, cap, e, h1, h2, fun hp => ?_⟩
  obtain ⟨b, off, e2, h4, h5⟩ := h3 hp
  exact ⟨b, off, e2, Nat.lt_of_lt_of_le h4 hb.size, fun i hi => (h5 i hi).next hb h4⟩
theorem itms_nil (w : World) : Itms w (.slice none 0 0) [] := ⟨none, 0, rfl, Nat.le_refl _, by unfold maxLen; omega, fun hp => absurd hp (Nat.lt_irrefl _)⟩
def OwnsM (w : World) (base : Nat) (v : Value) (l : List Itm) : Prop := w.ownsRow base 62 2 v l.length (itmsC l)
theorem OwnsM.nil (w : World) (base : Nat) : OwnsM w base (.slice none 0 0) [] := World.ownsRow_nil _ _ _ _
theorem OwnsM.next {w w' : World} {B : Nat} {v : Value} {l : List Itm} (h : OwnsM w B v l) (hb : Below w.heap.size w w') : OwnsM w' B v l := by
  obtain ⟨hl, h2⟩ := h
  refine ⟨hl, ?_⟩
  rcases h2 with h2 | ⟨g, cap, cur, e1, e2, e3, r⟩
  · exact .inl h2
  · refine .inr ⟨g, cap, cur, e1, e2, (hb.block g ?_).trans e3, r⟩
    rcases Nat.lt_or_ge g w.heap.size with h1 | h1
    · exact h1
    · rw [Array.getElem?_eq_none h1] at e3; cases e3
theorem OwnsM.mono {w : World} {B B' : Nat} {v : Value} {l : List Itm} (h : OwnsM w B v l) (hB : B' ≤ B) : OwnsM w B' v l := by
  obtain ⟨hl, h2⟩ := h
  refine ⟨hl, ?_⟩
  rcases h2 with h2 | ⟨g, cap, cur, e1, e2, r⟩
  · exact .inl h2
  · exact .inr ⟨g, cap, cur, e1, by omega, r⟩
theorem OwnsM.itms {w : World} {B : Nat} {v : Value} {l : List Itm} (h : OwnsM w B v l) : Itms w v l := by
  have h' : w.ownsRow B 62 2 v l.length (itmsC l) := h
  rcases h'.2 with ⟨e, hn⟩ | ⟨g, cap, cur, e, hB, hg, hc, hm, hsz, htk⟩
  · exact ⟨none, 0, by rw [e, hn], by omega, by unfold maxLen; omega, fun hp => by omega⟩
  · have hgl : g < w.heap.size := by
      rcases Nat.lt_or_ge g w.heap.size with h1 | h1
      · exact h1
      · rw [Array.getElem?_eq_none h1] at hg; cases hg
    refine ⟨some ⟨g, 0, none⟩, cap, e, hc, hm, fun _ => ⟨g, 0, rfl, hgl, fun i hi => ?_⟩⟩
    have key : ∀ j, j < 2 → w.cell? ⟨g, 0 + i * 2 + j, none⟩ = (itmC (mat l i))[j]? := by
      intro j hj
      have h1 := itmsC_at l i j hi hj
      rw [← htk, List.getElem?_take, if_pos (by omega)] at h1
      rw [← h1]
      simp [World.cell?, hg]
    exact ⟨key 0 (by omega), key 1 (by omega)⟩
theorem info_itm : (Tryd.prog.info? 62).map (fun i => (i.zero, i.size, i.bytes)) = some (some (.agg #[.string ByteArray.empty, .string ByteArray.empty]), 2, 32) := by kernel_rfl

end Go.Proofs.YtkmmifonandkoaaDoor

/-
  Contracts of functions of Go's library that this program calls: each by one application of the library's theorem.
-/
namespace Go.Proofs
open Go.Shelf
def Tryd.lays118_ren : Go.Shelf.Ren := ⟨fun | 118 => 74 | n => n, fun | 21 => 21 | 3 => 3 | 4 => 4 | n => n, fun | n => n⟩
theorem Tryd.lays118 : Go.Proofs.Lays.n118 Tryd.prog Tryd.lays118_ren := {
  mixed := by kernel_rfl
  f118 := Tryd.func74.trans (congrArg some (by kernel_rfl))
  t3 := Tryd.underlying3
  a3 := Tryd.isAgg3
  z3 := Tryd.sizeOf3
  v3 := Tryd.zeroValue3
  t4 := Tryd.underlying4
  a4 := Tryd.isAgg4
  z4 := Tryd.sizeOf4
  v4 := Tryd.zeroValue4
  t21 := Tryd.underlying21
  a21 := Tryd.isAgg21
  z21 := Tryd.sizeOf21
  v21 := Tryd.zeroValue21 }
theorem Tryd.utf8_RuneLen (r : Int) (w : World) :
    Calls Tryd.prog 74 #[.int .i32 r] w fun e w' => e = .returned (.int .i64 (Lib.runeLen r)) ∧ w' = w := Any.utf8_RuneLen Tryd.lays118 r w
def Tryd.lays215_ren : Go.Shelf.Ren := ⟨fun | 215 => 72 | n => n, fun | 3 => 3 | 4 => 4 | n => n, fun | n => n⟩
theorem Tryd.lays215 : Go.Proofs.Lays.n215 Tryd.prog Tryd.lays215_ren := {
  mixed := by kernel_rfl
  f215 := Tryd.func72.trans (congrArg some (by kernel_rfl))
  t3 := Tryd.underlying3
  a3 := Tryd.isAgg3
  z3 := Tryd.sizeOf3
  v3 := Tryd.zeroValue3
  t4 := Tryd.underlying4
  a4 := Tryd.isAgg4
  z4 := Tryd.sizeOf4
  v4 := Tryd.zeroValue4 }
open Go.RowKit in
theorem Tryd.cmp_isNaN_int (x : Int) (w : World) :
    Calls Tryd.prog 72 #[.int .i64 x] w fun e w' => e = .returned (.bool false) ∧ w' = w := Any.cmp_isNaN_int Tryd.lays215 x w
def Tryd.lays122_ren : Go.Shelf.Ren := ⟨fun | 122 => 52 | 215 => 72 | n => n, fun | 3 => 3 | 4 => 4 | n => n, fun | n => n⟩
theorem Tryd.lays122 : Go.Proofs.Lays.n122 Tryd.prog Tryd.lays122_ren := {
  mixed := by kernel_rfl
  f122 := Tryd.func52.trans (congrArg some (by kernel_rfl))
  f215 := Tryd.func72.trans (congrArg some (by kernel_rfl))
  t3 := Tryd.underlying3
  a3 := Tryd.isAgg3
  z3 := Tryd.sizeOf3
  v3 := Tryd.zeroValue3
  t4 := Tryd.underlying4
  a4 := Tryd.isAgg4
  z4 := Tryd.sizeOf4
  v4 := Tryd.zeroValue4 }
open Go.RowKit in
theorem Tryd.cmp_Compare_int (x y : Int) (w : World) :
    Calls Tryd.prog 52 #[.int .i64 x, .int .i64 y] w fun e w' => e = .returned (.int .i64 (Lib.compareInt x y)) ∧ w' = w := Any.cmp_Compare_int Tryd.lays122 x y w
def Tryd.lays206_ren : Go.Shelf.Ren := ⟨fun | 206 => 80 | n => n, fun | 9 => 9 | 4 => 4 | 3 => 3 | n => n, fun | n => n⟩
theorem Tryd.lays206 : Go.Proofs.Lays.n206 Tryd.prog Tryd.lays206_ren := {
  mixed := by kernel_rfl
  f206 := Tryd.func80.trans (congrArg some (by kernel_rfl))
  t3 := Tryd.underlying3
  a3 := Tryd.isAgg3
  z3 := Tryd.sizeOf3
  v3 := Tryd.zeroValue3
  t4 := Tryd.underlying4
  a4 := Tryd.isAgg4
  z4 := Tryd.sizeOf4
  v4 := Tryd.zeroValue4
  t9 := Tryd.underlying9
  a9 := Tryd.isAgg9
  z9 := Tryd.sizeOf9
  v9 := Tryd.zeroValue9 }
open Go.RowKit Go.Lib in
theorem Tryd.stringslite_HasPrefix (s p : ByteArray) (w : World) :
    Calls Tryd.prog 80 #[.string s, .string p] w fun e w' => e = .returned (.bool (Lib.hasPrefix s.data.toList p.data.toList)) ∧ w' = w := Any.stringslite_HasPrefix Tryd.lays206 s p w
def Tryd.lays99_ren : Go.Shelf.Ren := ⟨fun | 99 => 73 | 206 => 80 | n => n, fun | 9 => 9 | 4 => 4 | 3 => 3 | n => n, fun | n => n⟩
theorem Tryd.lays99 : Go.Proofs.Lays.n99 Tryd.prog Tryd.lays99_ren := {
  mixed := by kernel_rfl
  f99 := Tryd.func73.trans (congrArg some (by kernel_rfl))
  f206 := Tryd.func80.trans (congrArg some (by kernel_rfl))
  t3 := Tryd.underlying3
  a3 := Tryd.isAgg3
  z3 := Tryd.sizeOf3
  v3 := Tryd.zeroValue3
  t4 := Tryd.underlying4
  a4 := Tryd.isAgg4
  z4 := Tryd.sizeOf4
  v4 := Tryd.zeroValue4
  t9 := Tryd.underlying9
  a9 := Tryd.isAgg9
  z9 := Tryd.sizeOf9
  v9 := Tryd.zeroValue9 }
open Go.RowKit Go.Lib in
theorem Tryd.strings_HasPrefix (s p : ByteArray) (w : World) :
    Calls Tryd.prog 73 #[.string s, .string p] w fun e w' => e = .returned (.bool (Lib.hasPrefix s.data.toList p.data.toList)) ∧ w' = w := Any.strings_HasPrefix Tryd.lays99 s p w
def Tryd.lays260_ren : Go.Shelf.Ren := ⟨fun | 260 => 78 | n => n, fun | 9 => 9 | 21 => 21 | 3 => 3 | 4 => 4 | 5 => 5 | 119 => 110 | 0 => 0 | 46 => 107 | 139 => 113 | 138 => 112 | n => n, fun | 3 => 0 | 4 => 1 | n => n⟩
theorem Tryd.lays260 : Go.Proofs.Lays.n260 Tryd.prog Tryd.lays260_ren := {
  mixed := by kernel_rfl
  f260 := Tryd.func78.trans (congrArg some (by kernel_rfl))
  t0 := Tryd.underlying0
  a0 := Tryd.isAgg0
  z0 := Tryd.sizeOf0
  v0 := Tryd.zeroValue0
  t3 := Tryd.underlying3
  a3 := Tryd.isAgg3
  z3 := Tryd.sizeOf3
  v3 := Tryd.zeroValue3
  t4 := Tryd.underlying4
  a4 := Tryd.isAgg4
  z4 := Tryd.sizeOf4
  v4 := Tryd.zeroValue4
  t5 := Tryd.underlying5
  a5 := Tryd.isAgg5
  z5 := Tryd.sizeOf5
  v5 := Tryd.zeroValue5
  t9 := Tryd.underlying9
  a9 := Tryd.isAgg9
  z9 := Tryd.sizeOf9
  v9 := Tryd.zeroValue9
  t21 := Tryd.underlying21
  a21 := Tryd.isAgg21
  z21 := Tryd.sizeOf21
  v21 := Tryd.zeroValue21
  t46 := Tryd.underlying107
  a46 := Tryd.isAgg107
  z46 := Tryd.sizeOf107
  v46 := Tryd.zeroValue107
  t119 := Tryd.underlying110
  a119 := Tryd.isAgg110
  z119 := Tryd.sizeOf110
  t138 := Tryd.underlying112
  a138 := Tryd.isAgg112
  z138 := Tryd.sizeOf112
  v138 := Tryd.zeroValue112
  t139 := Tryd.underlying113
  a139 := Tryd.isAgg113
  z139 := Tryd.sizeOf113
  v139 := Tryd.zeroValue113
  g3 := by kernel_rfl
  g4 := by kernel_rfl }
open Go.RowKit Go.Lib in
theorem Tryd.utf8_decodeRuneInStringSlow (s : ByteArray) (w : World) (hT : Lib.Utf8Tabs 0 1 w) :
    Calls Tryd.prog 78 #[.string s] w fun e w' => e = .returned (.tuple #[.int .i32 (Lib.decodeGo s).1, .int .i64 (Lib.decodeGo s).2]) ∧ Below w.heap.size w w' := Any.utf8_decodeRuneInStringSlow Tryd.lays260 s w hT
def Tryd.lays197_ren : Go.Shelf.Ren := ⟨fun | 197 => 68 | 260 => 78 | n => n, fun | 9 => 9 | 21 => 21 | 3 => 3 | 4 => 4 | 5 => 5 | 105 => 99 | 119 => 110 | 0 => 0 | 46 => 107 | 139 => 113 | 138 => 112 | n => n, fun | 3 => 0 | 4 => 1 | n => n⟩
theorem Tryd.lays197 : Go.Proofs.Lays.n197 Tryd.prog Tryd.lays197_ren := {
  mixed := by kernel_rfl
  f197 := Tryd.func68.trans (congrArg some (by kernel_rfl))
  f260 := Tryd.func78.trans (congrArg some (by kernel_rfl))
  t0 := Tryd.underlying0
  a0 := Tryd.isAgg0
  z0 := Tryd.sizeOf0
  v0 := Tryd.zeroValue0
  t3 := Tryd.underlying3
  a3 := Tryd.isAgg3
  z3 := Tryd.sizeOf3
  v3 := Tryd.zeroValue3
  t4 := Tryd.underlying4
  a4 := Tryd.isAgg4
  z4 := Tryd.sizeOf4
  v4 := Tryd.zeroValue4
  t5 := Tryd.underlying5
  a5 := Tryd.isAgg5
  z5 := Tryd.sizeOf5
  v5 := Tryd.zeroValue5
  t9 := Tryd.underlying9
  a9 := Tryd.isAgg9
  z9 := Tryd.sizeOf9
  v9 := Tryd.zeroValue9
  t21 := Tryd.underlying21
  a21 := Tryd.isAgg21
  z21 := Tryd.sizeOf21
  v21 := Tryd.zeroValue21
  t46 := Tryd.underlying107
  a46 := Tryd.isAgg107
  z46 := Tryd.sizeOf107
  v46 := Tryd.zeroValue107
  t105 := Tryd.underlying99
  a105 := Tryd.isAgg99
  z105 := Tryd.sizeOf99
  v105 := Tryd.zeroValue99
  t119 := Tryd.underlying110
  a119 := Tryd.isAgg110
  z119 := Tryd.sizeOf110
  t138 := Tryd.underlying112
  a138 := Tryd.isAgg112
  z138 := Tryd.sizeOf112
  v138 := Tryd.zeroValue112
  t139 := Tryd.underlying113
  a139 := Tryd.isAgg113
  z139 := Tryd.sizeOf113
  v139 := Tryd.zeroValue113
  g3 := by kernel_rfl
  g4 := by kernel_rfl }
open Go.RowKit Go.Lib in
theorem Tryd.utf8_DecodeRuneInString (s : ByteArray) (w : World) (hT : Lib.Utf8Tabs 0 1 w) :
    Calls Tryd.prog 68 #[.string s] w fun e w' => e = .returned (.tuple #[.int .i32 (Lib.decodeGo s).1, .int .i64 (Lib.decodeGo s).2]) ∧ Below w.heap.size w w' := Any.utf8_DecodeRuneInString Tryd.lays197 s w hT
def Tryd.laysNm237_ren : Go.Shelf.Ren := ⟨fun | 37 => 72 | n => n, fun | 3 => 3 | 4 => 4 | n => n, fun | n => n⟩
theorem Tryd.laysNm237 : Go.Proofs.Lays2.n37 Tryd.prog Tryd.laysNm237_ren := {
  mixed := by kernel_rfl
  f37 := Tryd.func72.trans (congrArg some (by kernel_rfl))
  t3 := Tryd.underlying3
  a3 := Tryd.isAgg3
  z3 := Tryd.sizeOf3
  v3 := Tryd.zeroValue3
  t4 := Tryd.underlying4
  a4 := Tryd.isAgg4
  z4 := Tryd.sizeOf4
  v4 := Tryd.zeroValue4 }
open Go.RowKit Go.Lib in
theorem Tryd.cmp_isNaN_int2 (x : Int) (w : World) :
    Calls Tryd.prog 72 #[.int .i64 x] w fun e w' => e = .returned (.bool false) ∧ w' = w := Any.cmp_isNaN_int2 Tryd.laysNm237 x w
end Go.Proofs

/-
  Contracts of package key's small functions; a text's rest.
-/
namespace Go.Proofs.YtkmmifonandkoaaDoor
open Go.RowKit
set_option linter.unusedVariables false

set_option maxRecDepth 100000 in
set_option maxHeartbeats 400000 in
theorem plain_any (c n : Nat) (w : World) (hc : c ≤ 1114111) (hn : n ≤ 4) :
    Calls Tryd.prog 53 #[.int .i32 c, .int .i64 n] w fun e w' => e = .returned (.bool (Ky.plainB c n)) ∧ w = w' := by
  obtain ⟨R, hR⟩ : ∃ R, Ky.plainB c n = R := ⟨_, rfl⟩
  rw [hR]
  have H := Lib.hid hR
  clear hR
  by_cases h1 : c = 65533
  · subst h1
    by_cases h2 : n = 1
    · subst h2
      go_enter Tryd.func53, Tryd.ntmps53
      go_wp2
      go_ret
      rw [← H.out]
      exact ⟨rfl, rfl⟩
    · have h2' : ((n : Int) == 1) = false := by simp; omega
      go_enter Tryd.func53, Tryd.ntmps53
      go_wp2
      go_ret
      rw [← H.out]
      simp [Ky.plainB, h2]
  · have h1' : ((c : Int) == 65533) = false := by simp; omega
    go_enter Tryd.func53, Tryd.ntmps53
    go_wp2
    all_goals go_ret
    all_goals (rw [← H.out]; simp [Ky.plainB, h1]; first | omega | (rw [Bool.eq_iff_iff]; simp only [Bool.or_eq_true, Bool.and_eq_true, decide_eq_true_eq]; omega))

set_option maxRecDepth 100000 in
set_option maxHeartbeats 400000 in
theorem size_any (t : ByteArray) (c n : Nat) (w : World) (ht : 0 < t.size) (hd : Utf8.decode t 0 = (c, n)) :
    Calls Tryd.prog 54 #[.int .i32 c, .string t] w fun e w' => e = .returned (.int .i64 n) ∧ w = w' := by
  have H := Lib.hid (Ky.size_eq t c n ht hd)
  clear hd
  obtain ⟨R, hR⟩ : ∃ R, Ky.prefB t = R := ⟨_, rfl⟩
  rw [hR] at H
  have cP : ∀ W, Calls Tryd.prog 73 #[.string t, .string { data := #[239, 191, 189] }] W fun e w' => e = .returned (.bool R) ∧ w' = W := fun W => by
    rw [← hR]; exact Tryd.strings_HasPrefix t _ W
  clear hR
  have HP := Lib.hid cP
  clear cP
  by_cases h1 : c = 65533
  · subst h1
    cases R
    · go_enter Tryd.func54, Tryd.ntmps54
      go_wp2_with (go_at_call 73; refine (HP.out _).mono ?_; rintro e w1 ⟨rfl, rfl⟩)
      go_ret
      have := H.out
      simp at this
      rw [← this]
      simp
    · go_enter Tryd.func54, Tryd.ntmps54
      go_wp2_with (first | (go_at_call 73; refine (HP.out _).mono ?_; rintro e w1 ⟨rfl, rfl⟩) | (go_at_call 74; refine (Tryd.utf8_RuneLen _ _).mono ?_; rintro e w1 ⟨rfl, rfl⟩))
      go_ret
      have := H.out
      simp at this
      rw [← this]
      simp
  · have h1' : ((c : Int) == 65533) = false := by simp; omega
    go_enter Tryd.func54, Tryd.ntmps54
    go_wp2_with (go_at_call 74; refine (Tryd.utf8_RuneLen _ _).mono ?_; rintro e w1 ⟨rfl, rfl⟩)
    go_ret
    have := H.out
    simp [h1] at this
    rw [this]
    simp

/-- A text's rest from place p on, and the letter there. -/
theorem rest_facts (s t : ByteArray) (p : Nat) (hp : p < s.size) (ht : t = s.extract p s.size) :
    ∃ c m, Utf8.decode s p = (c, m) ∧ Utf8.decode t 0 = (c, m) ∧ 1 ≤ m ∧ m ≤ 4 ∧ p + m ≤ s.size ∧ c ≤ 1114111 ∧ t.size = s.size - p ∧ t.extract m t.size = s.extract (p + m) s.size := by
  have h := Ky.width s p hp
  refine ⟨(Utf8.decode s p).1, (Utf8.decode s p).2, rfl, ?_, h.1, h.2.1, h.2.2.1, h.2.2.2, ?_, ?_⟩
  · rw [ht, Ky.dec_rest s p (by omega)]
  · rw [ht, Ky.rest_size]
  · have e : t.size = s.size - p := by rw [ht, Ky.rest_size]
    rw [e, ht, Ky.rest_rest s p _ (by omega)]

theorem not_empty (s : ByteArray) (h : 0 < s.size) : s.toList.isEmpty = false := by
  rw [ByteArray.toList_eq]
  cases e : s.data.toList with
  | nil =>
    have e2 : s.size = 0 := by rw [← bytes_len, e]; rfl
    omega
  | cons _ _ => rfl

theorem is_empty (s : ByteArray) (h : s.size = 0) : s.toList.isEmpty = true := by
  rw [ByteArray.toList_eq, List.isEmpty_iff]
  exact List.eq_nil_of_length_eq_zero (by rw [bytes_len]; exact h)
theorem lt_of_iter {w : World} {k : Nat} {s : ByteArray} {p : Nat} (h : w.heap[k]? = some (.stringIter s p)) : k < w.heap.size := by
  rcases Nat.lt_or_ge k w.heap.size with h1 | h1
  · exact h1
  · rw [Array.getElem?_eq_none h1] at h; cases h

end Go.Proofs.YtkmmifonandkoaaDoor

/-
  Whether a text is a key: package key's function.
-/
namespace Go.Proofs.YtkmmifonandkoaaDoor
open Go.RowKit
set_option linter.unusedVariables false

set_option maxRecDepth 100000 in
set_option maxHeartbeats 400000 in
theorem right_any (s : ByteArray) (w : World) :
    Calls Tryd.prog 31 #[.string s] w fun e w' => e = .returned (.bool (Ky.right s)) ∧ Below w.heap.size w w' := by
  obtain ⟨R, hR⟩ : ∃ R, Ky.right s = R := ⟨_, rfl⟩
  rw [hR]
  have H := Lib.hid hR
  clear hR
  by_cases h0 : s.size = 0
  · have e : s = ByteArray.empty := by
      apply bytes_inj
      exact List.eq_nil_of_length_eq_zero (by rw [bytes_len]; exact h0)
    have hr := H.out
    have h1 : R = false := by rw [← hr]; simp [Ky.right, h0]
    subst h1
    clear H hr h0
    subst e
    go_enter Tryd.func31, Tryd.ntmps31
    go_wp2
    go_ret
    exact ⟨rfl, Below.refl _ _⟩
  have hne : s.toList.isEmpty = false := not_empty s (by omega)
  by_cases h16 : 16 < s.size
  · have h16' : (16 : Int) < s.size := by omega
    have hr := H.out
    have h1 : R = false := by rw [← hr]; simp [Ky.right, h16]
    subst h1
    clear H hr
    go_enter Tryd.func31, Tryd.ntmps31
    go_wp2
    go_ret
    exact ⟨rfl, Below.refl _ _⟩
  have h16' : ¬ (16 : Int) < s.size := by omega
  have hr := H.out
  have hA : Hid (Ky.allPl s 0 = R) := by
    show _ = _
    rw [← hr]; simp [Ky.right, h0, h16]
  clear H hr
  go_enter Tryd.func31, Tryd.ntmps31
  go_wp2
  go_loopw [3, 4] (fun _ _ wr => ∃ p : Nat, p ≤ s.size ∧ wr.heap[w.heap.size]? = some (.stringIter s p) ∧ Below w.heap.size w wr ∧ Hid (Ky.allPl s p = R)) (fun _ _ wr => s.size - wr.iterPos w.heap.size)
  case atStart => exact ⟨0, Nat.zero_le _, World.iter_heap w s 0, (Below.refl _ _).alloc (Nat.le_refl _) _, hA⟩
  case round =>
    obtain ⟨p, hp, hk, hb, hall⟩ := hrel
    by_cases hlt : p < s.size
    · obtain ⟨t, ht⟩ : ∃ t, t = s.extract p s.size := ⟨_, rfl⟩
      obtain ⟨c, m, d1, d2, m1, m4, hpm, hc, hts, hte⟩ := rest_facts s t p hlt ht
      have hnext : ∀ ty, (Instr.next (.pointer (some ⟨w.heap.size, 0, none⟩)) true ty).run Tryd.prog wr = _ := fun ty => Lib.run_next_any_at wr w.heap.size s p ty hk hlt
      have hk1 := Lib.iterAt_heap wr w.heap.size s p (p + (Utf8.decode s p).2) hk
      have hb1 : Below w.heap.size w (wr.iterAt w.heap.size s (p + (Utf8.decode s p).2)) := Lib.below_iterAt hb (Nat.le_refl _) s (p + (Utf8.decode s p).2)
      have hmu : wr.iterPos w.heap.size = p := by simp [World.iterPos, hk]
      have HS : Hid (∀ W, Calls Tryd.prog 54 #[.int .i32 c, .string (s.extract p s.size)] W fun e w' => e = .returned (.int .i64 m) ∧ W = w') := fun W => by
        rw [← ht]; exact size_any t c m W (by omega) d2
      have hst := hall.out
      rw [Ky.allPl_step s p hlt] at hst
      rw [d1] at hnext hk1 hb1 hst
      clear hall
      have HST := Lib.hid hst
      clear hst d1 d2 ht hte
      dsimp only at hnext hk1 hb1
      generalize wr.iterAt w.heap.size s (p + m) = W1 at hnext hk1 hb1
      have hple : (p : Int) ≤ s.size := by omega
      obtain ⟨B, hB⟩ : ∃ B, Ky.plainB c m = B := ⟨_, rfl⟩
      have HP : Hid (∀ W, Calls Tryd.prog 53 #[.int .i32 c, .int .i64 m] W fun e w' => e = .returned (.bool B) ∧ W = w') := fun W => by
        rw [← hB]; exact plain_any c m W hc m4
      have HB := Lib.hid hB
      clear hB
      cases B
      · have hR : R = false := by
          have := HST.out
          rw [← this]
          show (Ky.plainB c m && _) = false
          rw [HB.out]; rfl
        subst hR
        clear HST HB
        go_wp2_with (first | (go_at_call 54; refine (HS.out _).mono ?_; rintro e W2 ⟨rfl, rfl⟩) | (go_at_call 53; refine (HP.out _).mono ?_; rintro e W2 ⟨rfl, rfl⟩))
        go_ret
        exact ⟨rfl, hb1⟩
      · have hA2 : Hid (Ky.allPl s (p + m) = R) := by
          have := HST.out
          show _ = _
          rw [← this]
          show _ = (Ky.plainB c m && _)
          rw [HB.out]; rfl
        clear HST HB
        go_wp2_with (first | (go_at_call 54; refine (HS.out _).mono ?_; rintro e W2 ⟨rfl, rfl⟩) | (go_at_call 53; refine (HP.out _).mono ?_; rintro e W2 ⟨rfl, rfl⟩))
        go_roundw
        case rel => exact ⟨p + m, hpm, hk1, hb1, hA2⟩
        case measure =>
          have hmu2 : W1.iterPos w.heap.size = p + m := by simp [World.iterPos, hk1]
          rw [hmu, hmu2]; omega
    · have hnext : ∀ ty, (Instr.next (.pointer (some ⟨w.heap.size, 0, none⟩)) true ty).run Tryd.prog wr = _ := fun ty => Lib.run_next_end_at wr w.heap.size s p ty hk hlt
      have hR : R = true := by
        have := hall.out
        rw [← this, Ky.allPl_end s p hlt]
      subst hR
      clear hall
      go_wp2
      go_ret
      exact ⟨rfl, hb⟩

end Go.Proofs.YtkmmifonandkoaaDoor

/-
  The order of texts: package key's function.
-/
namespace Go.Proofs.YtkmmifonandkoaaDoor
open Go.RowKit

/-- The two tables of the library's decoder lie as its text lays them. -/
def UtfAt (w : World) : Prop := Lib.Utf8Tabs 0 1 w
theorem UtfAt.next {w w' : World} (h : UtfAt w) (hb : Below w.heap.size w w') : UtfAt w' := Utf8Tabs_below h hb

/-- What the library's decoder answers, the letter a pair of variables. -/
theorem decode_any (t : ByteArray) (c m : Nat) (W : World) (hT : UtfAt W) (ht : 0 < t.size) (h : Utf8.decode t 0 = (c, m)) :
    Calls Tryd.prog 68 #[.string t] W fun e W' => e = .returned (.tuple #[.int .i32 c, .int .i64 m]) ∧ Below W.heap.size W W' := by
  have e : Lib.decodeGo t = (c, m) := by
    unfold Lib.decodeGo
    rw [if_neg (by omega), h]
  have := Tryd.utf8_DecodeRuneInString t W hT
  rw [e] at this
  exact this

set_option maxRecDepth 100000 in
set_option maxHeartbeats 400000 in
theorem cmpRune_any (x y : Int) (w : World) :
    Calls Tryd.prog 69 #[.int .i32 x, .int .i32 y] w fun e w' => e = .returned (.int .i64 (Lib.compareInt x y)) ∧ w = w' := by
  obtain ⟨R, hR⟩ : ∃ R, Lib.compareInt x y = R := ⟨_, rfl⟩
  rw [hR]
  have H := Lib.hid hR
  clear hR
  go_enter Tryd.func69, Tryd.ntmps69
  go_wp2
  all_goals go_ret
  all_goals (refine ⟨?_, rfl⟩; rw [← H.out]; unfold Lib.compareInt; repeat' split)
  all_goals first | rfl | (exfalso; omega)

set_option maxRecDepth 100000 in
set_option maxHeartbeats 800000 in
theorem compare_any (a b : ByteArray) (w : World) (hT : UtfAt w) :
    Calls Tryd.prog 46 #[.string a, .string b] w fun e w' => e = .returned (.int .i64 (Ky.compare a b)) ∧ Below w.heap.size w w' := by
  obtain ⟨R, hR⟩ : ∃ R, Ky.compare a b = R := ⟨_, rfl⟩
  rw [hR]
  have H : Hid (Ky.cmpL (Ky.codes a 0) (Ky.codes b 0) = R) := hR
  clear hR
  have HT := Lib.hid hT
  clear hT
  have HZ := Lib.hid (Ky.rest_zero b)
  go_enter Tryd.func46, Tryd.ntmps46
  go_wp2
  go_loopw [1, 6, 7, 8] (fun v _ _ _ wr => ∃ (p q : Nat) (t : ByteArray), p ≤ a.size ∧ q ≤ b.size ∧ v = .string t ∧ wr.heap[w.heap.size]? = some (.stringIter a p) ∧ Below w.heap.size w wr ∧ Hid (t = b.extract q b.size) ∧ Hid (Ky.cmpL (Ky.codes a p) (Ky.codes b q) = R)) (fun _ _ _ _ wr => a.size - wr.iterPos w.heap.size)
  case atStart => exact ⟨0, 0, b, Nat.zero_le _, Nat.zero_le _, rfl, World.iter_heap w a 0, (Below.refl _ _).alloc (Nat.le_refl _) _, HZ.out.symm, H⟩
  case round =>
    obtain ⟨p, q, t, hp, hq, rfl, hk, hb, ht, hcm⟩ := hrel
    have hts0 : t.size = b.size - q := by rw [ht.out, Ky.rest_size]
    by_cases hlt : p < a.size
    · have hw := Ky.width a p hlt
      have hnext : ∀ ty, (Instr.next (.pointer (some ⟨w.heap.size, 0, none⟩)) true ty).run Tryd.prog wr = _ := fun ty => Lib.run_next_any_at wr w.heap.size a p ty hk hlt
      have hk1 := Lib.iterAt_heap wr w.heap.size a p (p + (Utf8.decode a p).2) hk
      have hb1 : Below w.heap.size w (wr.iterAt w.heap.size a (p + (Utf8.decode a p).2)) := Lib.below_iterAt hb (Nat.le_refl _) a (p + (Utf8.decode a p).2)
      have hmu : wr.iterPos w.heap.size = p := by simp [World.iterPos, hk]
      have hst := hcm.out
      rw [Ky.codes_step a p hlt] at hst
      clear hcm
      obtain ⟨c, hc⟩ : ∃ c, (Utf8.decode a p).1 = c := ⟨_, rfl⟩
      obtain ⟨n, hn⟩ : ∃ n, (Utf8.decode a p).2 = n := ⟨_, rfl⟩
      rw [hc, hn] at hnext hst
      rw [hn] at hk1 hb1 hw
      rw [hc] at hw
      clear hc hn
      generalize wr.iterAt w.heap.size a (p + n) = W1 at hnext hk1 hb1
      by_cases hqb : q < b.size
      · obtain ⟨d, m, d1, d2, m1, m4, hqm, hdc, hts, hte⟩ := rest_facts b t q hqb ht.out
        rw [Ky.codes_step b q hqb, d1] at hst
        dsimp only at hst
        have hne := not_empty t (by omega)
        have HT1 := Lib.hid (HT.out.next hb1)
        have HD : Hid (∀ W, UtfAt W → Calls Tryd.prog 68 #[.string t] W fun e W' => e = .returned (.tuple #[.int .i32 d, .int .i64 m]) ∧ Below W.heap.size W W') := fun W hW => decode_any t d m W hW (by omega) d2
        have HTE := Lib.hid hte
        have hml : (m : Int) ≤ t.size := by omega
        have hkl : w.heap.size < W1.heap.size := lt_of_iter hk1
        clear hts hte d1 d2 hts0 HT
        by_cases he : c = d
        · subst he
          have hcm2 : Hid (Ky.cmpL (Ky.codes a (p + n)) (Ky.codes b (q + m)) = R) := by
            show _ = _
            rw [← hst]; simp [Ky.cmpL]
          clear hst
          go_wp2_with (go_at_call 68; refine (HD.out _ HT1.out).mono ?_; rintro e W2 ⟨rfl, hb2⟩; have hk2 := (hb2.block _ hkl).trans hk1; have hb3 := hb1.trans (hb2.mono (Nat.le_of_lt hkl)))
          go_roundw
          case rel => exact ⟨p + n, q + m, _, hw.2.2.1, hqm, rfl, hk2, hb3, HTE, hcm2⟩
          case measure =>
            have hmu2 : W2.iterPos w.heap.size = p + n := by simp [World.iterPos, hk2]
            rw [hmu, hmu2]; omega
        · have hcm2 : (if c < d then (-1 : Int) else 1) = R := by
            rw [← hst]; simp [Ky.cmpL, he]
          have hcd : ((c : Int) == (d : Int)) = false := beq_eq_false_iff_ne.2 (by omega)
          have HR := Lib.hid hcm2
          clear hst hcm2
          have HC : Hid (∀ W, Calls Tryd.prog 69 #[.int .i32 c, .int .i32 d] W fun e w' => e = .returned (.int .i64 R) ∧ W = w') := fun W => by
            have := cmpRune_any c d W
            have e : Lib.compareInt c d = R := by
              rw [← HR.out]
              unfold Lib.compareInt
              by_cases h : c < d
              · rw [if_pos (by omega), if_pos h]
              · rw [if_neg (by omega), if_neg h, if_pos (by omega)]
            rw [e] at this
            exact this
          clear HR
          go_wp2_with (first | (go_at_call 68; refine (HD.out _ HT1.out).mono ?_; rintro e W2 ⟨rfl, hb2⟩) | (go_at_call 69; refine (HC.out _).mono ?_; rintro e W3 ⟨rfl, rfl⟩))
          go_ret
          exact ⟨rfl, hb1.trans (hb2.mono (Nat.le_of_lt hkl))⟩
      · have hemp : t.toList.isEmpty = true := is_empty t (by omega)
        have hR : R = 1 := by
          rw [← hst, Ky.codes_end b q hqb]; rfl
        subst hR
        clear hst
        go_wp2
        go_ret
        exact ⟨rfl, hb1⟩
    · have hnext : ∀ ty, (Instr.next (.pointer (some ⟨w.heap.size, 0, none⟩)) true ty).run Tryd.prog wr = _ := fun ty => Lib.run_next_end_at wr w.heap.size a p ty hk hlt
      have HC : Hid (∀ W, Calls Tryd.prog 52 #[.int .i64 0, .int .i64 t.size] W fun e w' => e = .returned (.int .i64 R) ∧ w' = W) := fun W => by
        have := Tryd.cmp_Compare_int 0 t.size W
        have e : Lib.compareInt 0 t.size = R := by
          rw [← hcm.out, Ky.codes_end a p hlt]
          unfold Lib.compareInt
          by_cases h : q < b.size
          · rw [if_pos (by omega), Ky.codes_step b q h]; rfl
          · rw [if_neg (by omega), if_neg (by omega), Ky.codes_end b q h]; rfl
        rw [e] at this
        exact this
      clear hcm hts0
      go_wp2_with (go_at_call 52; refine (HC.out _).mono ?_; rintro e W3 ⟨rfl, rfl⟩)
      go_ret
      exact ⟨rfl, hb⟩

end Go.Proofs.YtkmmifonandkoaaDoor

/-
  The contracts of index.rightEntry and index.follows.
-/
set_option linter.unusedVariables false
namespace Go.Proofs.YtkmmifonandkoaaDoor
open Go.RowKit

/-- The block h holds an entry. -/
def EBox (w : World) (h : Nat) (s : ByteArray) (u : Value) : Prop := w.heap[h]? = some (.cells #[.string s, u] 60 (0, 0))
theorem EBox.lt {w : World} {h : Nat} {s : ByteArray} {u : Value} (H : EBox w h s u) : h < w.heap.size := by
  rcases Nat.lt_or_ge h w.heap.size with h1 | h1
  · exact h1
  · unfold EBox at H; rw [Array.getElem?_eq_none h1] at H; cases H
theorem EBox.new (w : World) (s : ByteArray) (u : Value) : EBox (w.alloc (.cells #[.string s, u] 60)) w.heap.size s u := by
  show (w.heap.push _)[w.heap.size]? = _
  simp
theorem EBox.next {w w' : World} {B h : Nat} {s : ByteArray} {u : Value} (H : EBox w h s u) (hb : Below B w w') (hB : h < B) : EBox w' h s u := (hb.block h hB).trans H
theorem EBox.over {w w' : World} {h : Nat} {s : ByteArray} {u : Value} (H : EBox w h s u) (hb : Below w.heap.size w w') : EBox w' h s u := H.next hb H.lt
theorem EBox.cell {w : World} {h : Nat} {s : ByteArray} {u : Value} (H : EBox w h s u) : w.cell? ⟨h, 0, none⟩ = some (.string s) ∧ w.cell? ⟨h, 1, none⟩ = some u := by
  unfold EBox at H
  refine ⟨?_, ?_⟩ <;> simp [World.cell?, H]
theorem ebox_load {ops : Array Oper} {rest : List Oper} {o : Oper} {a : Act} {w : World} {Q : Exit → Act → World → Prop} {s : ByteArray} {u : Value} (g : Nat) (H : EBox w g s u) (hgd : o.guard = none) (p : Operand) (ho : o.op = .load 60 p) (hx : a.eval p = .pointer (some ⟨g, 0, none⟩))
    (h : wpList Tryd.prog ops Q rest (a.put o.dst (.agg #[.string s, u])) w) : wpList Tryd.prog ops Q (o :: rest) a w :=
  wpList_load_row hgd 60 p ho g hx 60 _ (0, 0) _ H Tryd.underlying60 rfl (by kernel_rfl) h

/-! ### rightEntry -/
set_option maxRecDepth 100000 in
set_option maxHeartbeats 1000000 in
theorem rightEntry_row (s : ByteArray) (ao : Option Addr) (n cap : Nat) (c : List Ver) (w : World) (r1 r2 : Bool) (hv : Vers w (.slice ao n cap) c) (hr1 : Ky.right s = r1) (hr2 : rightC c = r2) :
    Calls Tryd.prog 41 #[.agg #[.string s, .slice ao n cap]] w fun e w' => e = .returned (.bool (r1 && (decide (0 < n) && r2))) ∧ Below w.heap.size w w' := by
  have H1 : Hid (∀ W, Calls Tryd.prog 31 #[.string s] W fun e w' => e = .returned (.bool r1) ∧ Below W.heap.size W w') := fun W => by rw [← hr1]; exact right_any s W
  have H2 : Hid (∀ W, Below w.heap.size w W → Calls Tryd.prog 55 #[.slice ao n cap] W fun e w' => e = .returned (.bool r2) ∧ Below W.heap.size W w') := fun W hW => by rw [← hr2]; exact CRight_any (hv.next hW)
  have HB0 : Hid (Below w.heap.size w (w.alloc (.cells #[.string s, .slice ao n cap] 60))) := (Below.refl _ _).alloc (Nat.le_refl _) _
  have HE0 : Hid (EBox (w.alloc (.cells #[.string s, .slice ao n cap] 60)) w.heap.size s (.slice ao n cap)) := EBox.new _ _ _
  clear hv hr1 hr2
  cases r1
  · go_enter Tryd.func41, Tryd.ntmps41
    go_wp2_with fail
    refine (H1.out _).mono ?_
    rintro e w1 ⟨rfl, hb1⟩
    go_wp2_with fail
    go_ret
    exact ⟨rfl, HB0.out.trans (hb1.mono HB0.out.size)⟩
  rcases Nat.eq_zero_or_pos n with rfl | hn
  · go_enter Tryd.func41, Tryd.ntmps41
    go_wp2_with fail
    refine (H1.out _).mono ?_
    rintro e w1 ⟨rfl, hb1⟩
    have hx := HE0.out.over hb1
    obtain ⟨x0, x1⟩ := hx.cell
    go_wp2_with fail
    go_ret
    exact ⟨rfl, HB0.out.trans (hb1.mono HB0.out.size)⟩
  · have d1 : decide (0 < (n : Int)) = true := decide_eq_true (by omega)
    have HD : Hid (decide (0 < n) = true) := decide_eq_true hn
    go_enter Tryd.func41, Tryd.ntmps41
    go_wp2_with fail
    refine (H1.out _).mono ?_
    rintro e w1 ⟨rfl, hb1⟩
    have hb := HB0.out.trans (hb1.mono HB0.out.size)
    have hx := HE0.out.over hb1
    obtain ⟨x0, x1⟩ := hx.cell
    go_wp2_with fail
    refine (H2.out _ hb).mono ?_
    rintro e w2 ⟨rfl, hb2⟩
    go_wp2_with fail
    go_ret
    exact ⟨by rw [HD.out]; rfl, hb.trans (hb2.mono hb.size)⟩

/-! ### follows -/
/-- Does a text stand behind the last key? -/
def folI (l : List Ent) (k : ByteArray) : Bool := decide (l.length = 0) || ltB (lat l (l.length - 1)).1 k
set_option maxRecDepth 100000 in
set_option maxHeartbeats 1000000 in
theorem ifollows_core (k t : ByteArray) (w : World) (hT : UtfAt w) (b off m n cap : Nat) (hn : n = m + 1) (hk : n ≤ maxLen) (hc : w.cell? ⟨b, off + m * 2, none⟩ = some (.string t)) :
    Calls Tryd.prog 42 #[.string k, .slice (some ⟨b, off, none⟩) n cap] w fun e w' => e = .returned (.bool (ltB t k)) ∧ Below w.heap.size w w' := by
  obtain ⟨q, hq⟩ : ∃ q, q = Ky.compare k t := ⟨_, rfl⟩
  have HC : Hid (Calls Tryd.prog 46 #[.string k, .string t] w fun e w' => e = .returned (.int .i64 q) ∧ Below w.heap.size w w') := by rw [hq]; exact compare_any k t w hT
  have HQ : Hid (ltB t k = decide (0 < q)) := by
    show _ = _
    unfold ltB
    rw [hq, cmp_neg' k t]
    exact decide_eq_decide.2 (by omega)
  have hmx : n ≤ 9223372036854775807 := Nat.le_trans hk (by decide)
  clear hq hT hk
  have q1 := IntWalk.i64_in (m : Int) (by omega)
  have q2 : ((n : Int) == 0) = false := beq_eq_false_iff_ne.2 (by omega)
  have q3 : m < n := by omega
  have q4 : (n : Int) - 1 = (m : Int) := by omega
  have q5 : ¬ n = 0 := by omega
  have HN := Lib.hid hn
  clear hn
  go_enter Tryd.func42, Tryd.ntmps42
  go_wp2_with fail
  refine HC.out.mono ?_
  rintro e w1 ⟨rfl, hb1⟩
  go_wp2_with fail
  go_ret
  exact ⟨by rw [HQ.out]; rfl, hb1⟩
set_option maxRecDepth 100000 in
set_option maxHeartbeats 400000 in
theorem ifollows_nil (k : ByteArray) (w : World) (ao : Option Addr) (cap : Nat) :
    Calls Tryd.prog 42 #[.string k, .slice ao 0 cap] w fun e w' => e = .returned (.bool true) ∧ Below w.heap.size w w' := by
  go_enter Tryd.func42, Tryd.ntmps42
  go_wp2_with fail
  go_ret
  exact ⟨rfl, Below.refl _ _⟩
theorem ifollows_any {w : World} {v : Value} {l : List Ent} (hT : UtfAt w) (h : Ents w v l) (k : ByteArray) :
    Calls Tryd.prog 42 #[.string k, v] w fun e w' => e = .returned (.bool (folI l k)) ∧ Below w.heap.size w w' := by
  obtain ⟨ao, n, cap, es, rfl, hl, hle, hmx, hn, hrow, hlead⟩ := h.opened
  rcases Nat.eq_zero_or_pos n with rfl | hp
  · have e : folI l k = true := by unfold folI; rw [hl]; rfl
    rw [e]
    exact ifollows_nil k w ao cap
  · obtain ⟨b, off, rfl, hb, hcl⟩ := hrow hp
    obtain ⟨m, rfl⟩ : ∃ m, n = m + 1 := ⟨n - 1, by omega⟩
    have e : folI l k = ltB (lat l m).1 k := by
      unfold folI
      rw [hl, decide_eq_false (by omega), Bool.false_or, Nat.add_sub_cancel]
    rw [e]
    refine ifollows_core k _ w hT b off m (m + 1) cap rfl (Nat.le_trans hle hmx) ?_
    have h1 := (hcl m (by omega)).1
    rw [(hlead.2 m (by omega)).1] at h1
    exact h1

end Go.Proofs.YtkmmifonandkoaaDoor

/-
  The contract of index.Right.
-/
set_option linter.unusedVariables false
namespace Go.Proofs.YtkmmifonandkoaaDoor
open Go.RowKit

theorem lat_take' (l : List Ent) {k i : Nat} (h : i < k) : lat (l.take k) i = lat l i := by
  unfold lat
  simp [List.getD, h]
theorem eat_take' (l : List EntV) {k i : Nat} (h : i < k) : eat (l.take k) i = eat l i := by
  unfold eat
  simp [List.getD, h]
theorem lat_drop' (l : List Ent) (k i : Nat) : lat (l.drop k) i = lat l (k + i) := by simp [lat, List.getD]
theorem eat_drop' (l : List EntV) (k i : Nat) : eat (l.drop k) i = eat l (k + i) := by simp [eat, List.getD]
/-- The front of a slice of entries. -/
theorem Ents.front {w : World} {b off n k c : Nat} {es : List EntV} {l : List Ent} (hl : l.length = n) (hb : 0 < k → b < w.heap.size) (hcl : ∀ i, i < n → EntAt w b (off + i * 2) (eat es i)) (hlead : Leads w es l) (hk : k ≤ n) (hc : k ≤ c) (hc2 : c ≤ maxLen) (ao : Option Addr) (hao : 0 < k → ao = some ⟨b, off, none⟩) : Ents w (.slice ao k c) (l.take k) := by
  have e1 : (es.take k).length = k := by rw [List.length_take, hlead.1]; omega
  refine ⟨es.take k, ⟨ao, c, by rw [e1], by rw [e1]; exact hc, hc2, fun hp => ⟨b, off, hao (by omega), hb (by omega), fun i hi => ?_⟩⟩, by rw [e1, List.length_take]; omega, fun i hi => ?_⟩
  · rw [eat_take' es (by omega)]
    exact hcl i (by omega)
  · rw [List.length_take] at hi
    rw [eat_take' es (by omega), lat_take' l (by omega)]
    exact hlead.2 i (by omega)
/-- The rest of one. -/
theorem Ents.rest {w : World} {b off n k c : Nat} {es : List EntV} {l : List Ent} (hl : l.length = n) (hb : k < n → b < w.heap.size) (hcl : ∀ i, i < n → EntAt w b (off + i * 2) (eat es i)) (hlead : Leads w es l) (hk : k ≤ n) (hc : n - k ≤ c) (hc2 : c ≤ maxLen) (ao : Option Addr) (hao : k < n → ao = some ⟨b, off + k * 2, none⟩) : Ents w (.slice ao (n - k) c) (l.drop k) := by
  have e1 : (es.drop k).length = n - k := by rw [List.length_drop, hlead.1, hl]
  refine ⟨es.drop k, ⟨ao, c, by rw [e1], by rw [e1]; exact hc, hc2, fun hp => ⟨b, off + k * 2, hao (by omega), hb (by omega), fun i hi => ?_⟩⟩, by rw [e1, List.length_drop, hl], fun i hi => ?_⟩
  · rw [eat_drop', show off + k * 2 + i * 2 = off + (k + i) * 2 by omega]
    exact hcl (k + i) (by omega)
  · rw [List.length_drop] at hi
    rw [eat_drop', lat_drop']
    exact hlead.2 (k + i) (by omega)
theorem ents_none (w : World) (ao : Option Addr) {c : Nat} (hc : c ≤ maxLen) : Ents w (.slice ao 0 c) [] := ⟨[], ⟨ao, c, rfl, Nat.zero_le _, hc, fun hp => absurd hp (Nat.lt_irrefl _)⟩, rfl, fun i hi => absurd hi (Nat.not_lt_zero _)⟩
theorem ent_fol {l : List Ent} {k : Nat} (h : k < l.length) : entB l k = ((Ky.right (lat l k).1 && (decide (0 < (lat l k).2.length) && rightC (lat l k).2)) && folI (l.take k) (lat l k).1) := by
  unfold entB folI
  rw [List.length_take, Nat.min_eq_left (by omega)]
  cases k with
  | zero => rfl
  | succ k => rw [lat_take' l (by omega)]
/-- What a round of Right knows. -/
def IrRel (w : World) (h : Nat) (s : ByteArray) (u : Value) (W : World) : Prop := Below w.heap.size w W ∧ EBox W h s u
theorem IrRel.next {w W W' : World} {h : Nat} {s : ByteArray} {u : Value} (H : IrRel w h s u W) (hb : Below W.heap.size W W') : IrRel w h s u W' := ⟨H.1.trans (hb.mono H.1.size), H.2.over hb⟩
theorem IrRel.drew {w W : World} {h : Nat} {s : ByteArray} {u : Value} (H : IrRel w h s u W) : IrRel w h s u W.drew := H.next ((Below.refl _ _).drew)

set_option maxRecDepth 100000 in
set_option maxHeartbeats 2000000 in
theorem iRight_any {w : World} {v : Value} {l : List Ent} (hT : UtfAt w) (h : Ents w v l) : Calls Tryd.prog 16 #[v] w fun e w' => e = .returned (.bool (rightI l)) ∧ Below w.heap.size w w' := by
  obtain ⟨ao, n, cap, es, rfl, hl, hle, hmx, hn, hrow, hlead⟩ := h.opened
  have HL := Lib.hid hl
  have HR := Lib.hid hrow
  have HLD := Lib.hid hlead
  have HLE := Lib.hid hle
  have HMX := Lib.hid hmx
  have HT := Lib.hid hT
  clear hl hrow hlead hle hmx hT h
  by_cases h64 : 64 < n
  · have HE : Hid (rightI l = false) := rightI_long (by rw [HL.out]; omega)
    go_enter Tryd.func16, Tryd.ntmps16
    go_wp2_with fail
    go_ret
    exact ⟨by rw [HE.out]; rfl, Below.refl _ _⟩
  go_enter Tryd.func16, Tryd.ntmps16
  go_wp2_with fail
  go_loopw [10] (fun i wr => ∃ k : Nat, k ≤ n ∧ i = .int .i64 k ∧ Hid (∀ j, j < k → entB l j = true) ∧ Hid (Below w.heap.size w wr)) (fun i _ => n - (intOf i).toNat)
  case atStart => exact ⟨0, Nat.zero_le _, rfl, fun j hj => absurd hj (Nat.not_lt_zero _), Below.refl _ _⟩
  case round =>
    obtain ⟨k, hk, rfl, hok, hbel⟩ := hrel
    by_cases hlt : k < n
    · obtain ⟨b, off, rfl, hb, hcl⟩ := HR.out (by omega)
      obtain ⟨hkey, hvers⟩ := HLD.out.2 k (by rw [HL.out]; exact hlt)
      obtain ⟨s, hs⟩ : ∃ s, s = (lat l k).1 := ⟨_, rfl⟩
      obtain ⟨c, hc⟩ : ∃ c, c = (lat l k).2 := ⟨_, rfl⟩
      rw [← hc] at hvers
      obtain ⟨ao', cap', hv⟩ := vers_slice' hvers
      obtain ⟨m, hm⟩ : ∃ m, m = c.length := ⟨_, rfl⟩
      rw [← hm] at hv
      rw [hv] at hvers
      have HK : Hid (EntAt wr b (off + k * 2) (s, .slice ao' m cap')) := by
        have := (hcl k hlt).next hbel.out hb
        unfold EntAt at this ⊢
        rw [hs, ← hkey, ← hv]; exact this
      obtain ⟨r1, hr1⟩ : ∃ r, r = Ky.right s := ⟨_, rfl⟩
      obtain ⟨r2, hr2⟩ : ∃ r, r = rightC c := ⟨_, rfl⟩
      obtain ⟨o, ho⟩ : ∃ o, o = (r1 && (decide (0 < m) && r2)) := ⟨_, rfl⟩
      obtain ⟨f, hf⟩ : ∃ f, f = folI (l.take k) s := ⟨_, rfl⟩
      have HO : Hid (∀ W, Below w.heap.size w W → Calls Tryd.prog 41 #[.agg #[.string s, .slice ao' m cap']] W fun e w' => e = .returned (.bool o) ∧ Below W.heap.size W w') := fun W hW => by
        rw [ho]; exact rightEntry_row s ao' m cap' c W r1 r2 (hvers.next hW) hr1.symm hr2.symm
      have HF : Hid (∀ W, Below w.heap.size w W → Calls Tryd.prog 42 #[.string s, .slice (some ⟨b, off, none⟩) k cap] W fun e w' => e = .returned (.bool f) ∧ Below W.heap.size W w') := fun W hW => by
        rw [hf]
        exact ifollows_any (HT.out.next hW) (Ents.front HL.out (fun _ => Nat.lt_of_lt_of_le hb hW.size) (fun i hi => (hcl i hi).next hW hb) (HLD.out.next hW) (by omega) (by have := HLE.out; omega) HMX.out _ (fun _ => rfl)) s
      have HOK : Hid (entB l k = (o && f)) := by show _ = _; rw [ent_fol (by rw [HL.out]; exact hlt), ← hs, ← hc, ho, hf, hr1, hr2, hm]
      clear hkey hvers hs hc hv hm hr1 hr2 ho hf hcl
      obtain ⟨k0, k1⟩ := HK.out
      dsimp only at k0 k1
      have hkc : k ≤ cap := by have := HLE.out; omega
      have q4 : k < n := hlt
      go_upto_region 6 with (fail)
      have H1 : Hid (IrRel w wr.heap.size s (.slice ao' m cap') (wr.alloc (.cells #[.string s, .slice ao' m cap'] 60))) := ⟨hbel.out.alloc hbel.out.size _, EBox.new _ _ _⟩
      clear k0 k1 HK
      cases o
      · have HE : Hid (rightI l = false) := rightI_at (i := k) (by rw [HL.out]; exact hlt) (by rw [HOK.out]; rfl)
        refine wp_region_calm (IrRel w wr.heap.size s (.slice ao' m cap')) (by kernel_rfl) (by kernel_rfl) H1.out.drew ?_
        repeat ((with_reducible refine wpQuiet_step (fun K hK => ?_)); go_simp; first | (refine hK _ ?_; clear hK K) | (apply Exists.intro; refine ⟨fun wc hwc => ?_, hK _ ?_⟩; (focus (first | (first | (go_at_call 41; refine (HO.out _ hwc.1).mono ?_; rintro e w1 ⟨rfl, hb1⟩; exact ⟨rfl, hwc.next hb1⟩)) | (((obtain ⟨_, hx⟩ := hwc; obtain ⟨x0, x1⟩ := hx.cell; clear hx)); go_simp; done) | (((obtain ⟨_, hx⟩ := hwc; obtain ⟨x0, x1⟩ := hx.cell; clear hx)); go_simp; exact rfl))); clear hK K))
        refine wpQuiet_nil ?_
        intro wc hwc
        go_wp2_with fail
        go_ret
        exact ⟨by rw [HE.out]; rfl, hwc.1⟩
      cases f
      · have HE : Hid (rightI l = false) := rightI_at (i := k) (by rw [HL.out]; exact hlt) (by rw [HOK.out]; rfl)
        refine wp_region_calm (IrRel w wr.heap.size s (.slice ao' m cap')) (by kernel_rfl) (by kernel_rfl) H1.out.drew ?_
        repeat ((with_reducible refine wpQuiet_step (fun K hK => ?_)); go_simp; first | (refine hK _ ?_; clear hK K) | (apply Exists.intro; refine ⟨fun wc hwc => ?_, hK _ ?_⟩; (focus (first | (first | (go_at_call 41; refine (HO.out _ hwc.1).mono ?_; rintro e w1 ⟨rfl, hb1⟩; exact ⟨rfl, hwc.next hb1⟩) | (go_at_call 42; refine (HF.out _ hwc.1).mono ?_; rintro e w1 ⟨rfl, hb1⟩; exact ⟨rfl, hwc.next hb1⟩)) | (((obtain ⟨_, hx⟩ := hwc; obtain ⟨x0, x1⟩ := hx.cell; clear hx)); go_simp; done) | (((obtain ⟨_, hx⟩ := hwc; obtain ⟨x0, x1⟩ := hx.cell; clear hx)); go_simp; exact rfl))); clear hK K))
        refine wpQuiet_nil ?_
        intro wc hwc
        go_wp2_with fail
        go_ret
        exact ⟨by rw [HE.out]; rfl, hwc.1⟩
      · have HN : Hid (∀ j, j < k + 1 → entB l j = true) := by
          intro j hj
          by_cases hjk : j < k
          · exact hok.out j hjk
          · obtain rfl : j = k := by omega
            rw [HOK.out]; rfl
        refine wp_region_calm (IrRel w wr.heap.size s (.slice ao' m cap')) (by kernel_rfl) (by kernel_rfl) H1.out.drew ?_
        repeat ((with_reducible refine wpQuiet_step (fun K hK => ?_)); go_simp; first | (refine hK _ ?_; clear hK K) | (apply Exists.intro; refine ⟨fun wc hwc => ?_, hK _ ?_⟩; (focus (first | (first | (go_at_call 41; refine (HO.out _ hwc.1).mono ?_; rintro e w1 ⟨rfl, hb1⟩; exact ⟨rfl, hwc.next hb1⟩) | (go_at_call 42; refine (HF.out _ hwc.1).mono ?_; rintro e w1 ⟨rfl, hb1⟩; exact ⟨rfl, hwc.next hb1⟩)) | (((obtain ⟨_, hx⟩ := hwc; obtain ⟨x0, x1⟩ := hx.cell; clear hx)); go_simp; done) | (((obtain ⟨_, hx⟩ := hwc; obtain ⟨x0, x1⟩ := hx.cell; clear hx)); go_simp; exact rfl))); clear hK K))
        refine wpQuiet_nil ?_
        intro wc hwc
        go_wp2_with fail
        go_roundw
        case rel => exact ⟨k + 1, by omega, by go_num, HN, hwc.1⟩
        case measure => simp [intOf]; omega
    · have HE : Hid (rightI l = true) := rightI_yes (by rw [HL.out]; omega) (fun i hi => hok.out i (by rw [HL.out] at hi; omega))
      go_wp2_with fail
      go_ret
      exact ⟨by rw [HE.out]; rfl, hbel.out⟩

end Go.Proofs.YtkmmifonandkoaaDoor

/-
  What putting a version into an index gives, as a relation. No program, no walk.
-/
set_option linter.unusedVariables false
namespace Go.Proofs.YtkmmifonandkoaaDoor
open Go.RowKit

/-- Is a version later than the last of a chain, if there is one? -/
def laterB (c : List Ver) (u : Ver) : Bool := decide (c.length = 0) || befV (vat c (c.length - 1)) u
/-- The index with one more version. -/
def putI (l : List Ent) (k : ByteArray) (n : Nat) (u : Ver) : List Ent := l.take n ++ ((k, chainOf l k n ++ [u]) :: l.drop (if thereB l k n then n + 1 else n))
/-- What Put gives, and the error's number. -/
def IsPut (l : List Ent) (k : ByteArray) (u : Ver) (m : List Ent) (e : Int) : Prop :=
  ((rightI l = false ∨ Ky.right k = false ∨ oneB u = false) ∧ m = [] ∧ e = 1) ∨
  (rightI l = true ∧ Ky.right k = true ∧ oneB u = true ∧ ∃ n, IsPos l k n ∧
    ((laterB (chainOf l k n) u = false ∧ m = [] ∧ e = 9) ∨
     (laterB (chainOf l k n) u = true ∧ (64 ≤ (chainOf l k n).length ∨ ((chainOf l k n).length = 0 ∧ 64 ≤ l.length)) ∧ m = [] ∧ e = 6) ∨
     (laterB (chainOf l k n) u = true ∧ (chainOf l k n).length < 64 ∧ ((chainOf l k n).length = 0 → l.length < 64) ∧ m = putI l k n u ∧ e = 0)))
theorem put_ex (l : List Ent) (k : ByteArray) (u : Ver) : ∃ m e, IsPut l k u m e := by
  cases h1 : rightI l
  · exact ⟨_, _, .inl ⟨.inl h1, rfl, rfl⟩⟩
  cases h2 : Ky.right k
  · exact ⟨_, _, .inl ⟨.inr (.inl h2), rfl, rfl⟩⟩
  cases h3 : oneB u
  · exact ⟨_, _, .inl ⟨.inr (.inr h3), rfl, rfl⟩⟩
  obtain ⟨n, hn⟩ := pos_ex h1 k
  cases h4 : laterB (chainOf l k n) u
  · exact ⟨_, _, .inr ⟨h1, h2, h3, n, hn, .inl ⟨h4, rfl, rfl⟩⟩⟩
  by_cases h5 : 64 ≤ (chainOf l k n).length ∨ ((chainOf l k n).length = 0 ∧ 64 ≤ l.length)
  · exact ⟨_, _, .inr ⟨h1, h2, h3, n, hn, .inr (.inl ⟨h4, h5, rfl, rfl⟩)⟩⟩
  · refine ⟨_, _, .inr ⟨h1, h2, h3, n, hn, .inr (.inr ⟨h4, ?_, fun h0 => ?_, rfl, rfl⟩)⟩⟩
    · exact Nat.lt_of_not_le fun h => h5 (.inl h)
    · exact Nat.lt_of_not_le fun h => h5 (.inr ⟨h0, h⟩)
/-- The index while it is gone through: the first i entries seen, the new entry put once its place is passed. -/
def putAt (l : List Ent) (k : ByteArray) (n : Nat) (o : Ent) (i : Nat) : List Ent :=
  if i ≤ n then l.take i else l.take n ++ (o :: ((l.take i).drop (if thereB l k n then n + 1 else n)))
theorem putAt_before {l : List Ent} {k : ByteArray} {n i : Nat} {o : Ent} (h : i < n) (hl : n ≤ l.length) : putAt l k n o (i + 1) = putAt l k n o i ++ [lat l i] := by
  unfold putAt
  rw [if_pos (by omega), if_pos (by omega), List.take_succ_eq_append_getElem (by omega : i < l.length)]
  simp [lat, List.getD, show i < l.length by omega]
theorem putAt_here {l : List Ent} {k : ByteArray} {n : Nat} {o : Ent} (h : n < l.length) : putAt l k n o (n + 1) = putAt l k n o n ++ [o] ++ (if thereB l k n then [] else [lat l n]) := by
  unfold putAt
  rw [if_neg (by omega), if_pos (Nat.le_refl _)]
  cases thereB l k n
  · have e : (l.take (n + 1)).drop n = [lat l n] := by
      rw [List.take_succ_eq_append_getElem h, List.drop_append_of_le_length (by rw [List.length_take]; omega), List.drop_eq_nil_of_le (by rw [List.length_take]; exact Nat.min_le_left _ _)]
      simp [lat, List.getD, h]
    simp [e]
  · have e : (l.take (n + 1)).drop (n + 1) = [] := List.drop_eq_nil_of_le (by simp; omega)
    simp [e]
theorem putAt_behind {l : List Ent} {k : ByteArray} {n i : Nat} {o : Ent} (h : n < i) (hi : i < l.length) : putAt l k n o (i + 1) = putAt l k n o i ++ [lat l i] := by
  have e1 : ¬ i + 1 ≤ n := by omega
  have e2 : ¬ i ≤ n := by omega
  have hd : (if thereB l k n then n + 1 else n) ≤ n + 1 := by split <;> omega
  unfold putAt
  rw [if_neg e1, if_neg e2]
  generalize (if thereB l k n then n + 1 else n) = d at hd ⊢
  rw [List.take_succ_eq_append_getElem hi, List.drop_append_of_le_length (by rw [List.length_take]; omega)]
  simp [lat, List.getD, hi]
theorem putAt_end {l : List Ent} {k : ByteArray} {n : Nat} {u : Ver} (hn : IsPos l k n) : (if n < l.length then putAt l k n (k, chainOf l k n ++ [u]) l.length else putAt l k n (k, chainOf l k n ++ [u]) l.length ++ [(k, chainOf l k n ++ [u])]) = putI l k n u := by
  unfold putAt putI
  by_cases h : n < l.length
  · rw [if_pos h, if_neg (by omega), List.take_length]
  · rw [if_neg h, if_pos (by omega), List.take_length]
    have e : l.take n = l := List.take_of_length_le (by omega)
    have e2 : l.drop (if thereB l k n then n + 1 else n) = [] := List.drop_eq_nil_of_le (by split <;> omega)
    rw [e, e2]

end Go.Proofs.YtkmmifonandkoaaDoor

/-
  The contract of the document's Right.
-/
set_option linter.unusedVariables false
namespace Go.Proofs.YtkmmifonandkoaaDoor
open Go.RowKit

set_option maxRecDepth 100000 in
set_option maxHeartbeats 400000 in
theorem refRight_any (a b c : Int) (w : World) : Calls Tryd.prog 63 #[(Go.Value.agg #[Go.Value.int Go.IntKind.i64 a, Go.Value.int Go.IntKind.i64 b, Go.Value.int Go.IntKind.i64 c])] w fun e w' => e = .returned (.bool (rightB a b c)) ∧ Below w.heap.size w w' := by
  cases h : rightB a b c
  · have hd : (decide (0 ≤ a) = false) ∨ (decide (0 ≤ a) = true ∧ decide (a ≤ 1099511627776) = false) ∨ (decide (0 ≤ a) = true ∧ decide (a ≤ 1099511627776) = true ∧ decide (0 ≤ b) = false) ∨ (decide (0 ≤ a) = true ∧ decide (a ≤ 1099511627776) = true ∧ decide (0 ≤ b) = true ∧ decide (b ≤ 1048576) = false) ∨ (decide (0 ≤ a) = true ∧ decide (a ≤ 1099511627776) = true ∧ decide (0 ≤ b) = true ∧ decide (b ≤ 1048576) = true ∧ decide (0 ≤ c) = false) ∨ (decide (0 ≤ a) = true ∧ decide (a ≤ 1099511627776) = true ∧ decide (0 ≤ b) = true ∧ decide (b ≤ 1048576) = true ∧ decide (0 ≤ c) = true ∧ decide (c ≤ 255) = false) := by
      simp only [decide_eq_true_eq, decide_eq_false_iff_not]
      simp only [rightB, inB, Bool.and_eq_false_iff, decide_eq_false_iff_not] at h
      omega
    clear h
    rcases hd with h | ⟨h1, h⟩ | ⟨h1, h2, h⟩ | ⟨h1, h2, h3, h⟩ | ⟨h1, h2, h3, h4, h⟩ | ⟨h1, h2, h3, h4, h5, h⟩
    all_goals
      go_enter Tryd.func63, Tryd.ntmps63
      go_wp2_with fail
      go_ret
      exact ⟨rfl, (Below.refl _ _).alloc (Nat.le_refl _) _⟩
  · obtain ⟨⟨h1, h2⟩, ⟨h3, h4⟩, h5, h6⟩ := rightB_true h
    clear h
    go_enter Tryd.func63, Tryd.ntmps63
    go_wp2_with fail
    go_ret
    exact ⟨rfl, (Below.refl _ _).alloc (Nat.le_refl _) _⟩


end Go.Proofs.YtkmmifonandkoaaDoor

/-
  The contract of the document's One.
-/
set_option linter.unusedVariables false
namespace Go.Proofs.YtkmmifonandkoaaDoor
open Go.RowKit

set_option maxRecDepth 100000 in
set_option maxHeartbeats 400000 in
theorem refOne_any (a b c : Int) (g : Bool) (s : ByteArray) (w : World) : Calls Tryd.prog 37 #[(Go.Value.agg #[Go.Value.int Go.IntKind.i64 a, Go.Value.int Go.IntKind.i64 b, Go.Value.int Go.IntKind.i64 c, Go.Value.bool g, Go.Value.string s])] w fun e w' => e = .returned (.bool (oneB (a, b, c, g, s))) ∧ Below w.heap.size w w' := by
  obtain ⟨r, hr⟩ : ∃ r, r = rightB a b c := ⟨_, rfl⟩
  have HR : Hid (∀ W, Calls Tryd.prog 63 #[(Go.Value.agg #[Go.Value.int Go.IntKind.i64 a, Go.Value.int Go.IntKind.i64 b, Go.Value.int Go.IntKind.i64 c])] W fun e w' => e = .returned (.bool r) ∧ Below W.heap.size W w') := fun W => by rw [hr]; exact refRight_any a b c W
  have HO : Hid (oneB (a, b, c, g, s) = ((!(g && decide (0 < s.size))) && (r && decide (s.size ≤ 16)))) := by show _ = _; rw [hr]; rfl
  clear hr
  have HV : Hid (VBox (w.alloc (.cells #[.int .i64 a, .int .i64 b, .int .i64 c, .bool g, .string s] 26)) w.heap.size a b c g s) := VBox.new w a b c g s
  have HB : Hid (Below w.heap.size w (w.alloc (.cells #[.int .i64 a, .int .i64 b, .int .i64 c, .bool g, .string s] 26))) := (Below.refl _ _).alloc (Nat.le_refl _) _
  have hcase : (g = true ∧ 0 < s.size) ∨ (g = true ∧ s.size = 0) ∨ g = false := by
    cases g
    · exact .inr (.inr rfl)
    · by_cases h : 0 < s.size
      · exact .inl ⟨rfl, h⟩
      · exact .inr (.inl ⟨rfl, by omega⟩)
  rcases hcase with ⟨rfl, h⟩ | ⟨rfl, h⟩ | rfl
  · have hd : decide (0 < s.size) = true := decide_eq_true h
    rw [hd] at HO
    clear h
    go_enter Tryd.func37, Tryd.ntmps37
    go_wp2_with fail
    go_ret
    exact ⟨by rw [HO.out]; rfl, HB.out⟩
  · have hd : decide (0 < s.size) = false := decide_eq_false (by omega)
    rw [hd] at HO
    clear h
    cases r
    · go_enter Tryd.func37, Tryd.ntmps37
      go_wp2_with fail
      refine (HR.out _).mono ?_
      rintro e w1 ⟨rfl, hb1⟩
      go_wp2_with fail
      go_ret
      exact ⟨by rw [HO.out]; rfl, HB.out.trans (hb1.mono (by simp))⟩
    · have hx : (decide ((s.size : Int) < 17) = true ∧ decide (s.size ≤ 16) = true) ∨ (decide ((s.size : Int) < 17) = false ∧ decide (s.size ≤ 16) = false) := by
        simp only [decide_eq_true_eq, decide_eq_false_iff_not]; omega
      rcases hx with ⟨hx, hy⟩ | ⟨hx, hy⟩
      all_goals
        rw [hy] at HO
        clear hy
        go_enter Tryd.func37, Tryd.ntmps37
        go_wp2_with fail
        refine (HR.out _).mono ?_
        rintro e w1 ⟨rfl, hb1⟩
        obtain ⟨x0, x1, x2, x3, x4⟩ := (HV.out.over hb1).cell
        go_wp2_with fail
        go_ret
        exact ⟨by rw [HO.out]; rfl, HB.out.trans (hb1.mono (by simp))⟩
  · cases r
    · go_enter Tryd.func37, Tryd.ntmps37
      go_wp2_with fail
      refine (HR.out _).mono ?_
      rintro e w1 ⟨rfl, hb1⟩
      go_wp2_with fail
      go_ret
      exact ⟨by rw [HO.out]; rfl, HB.out.trans (hb1.mono (by simp))⟩
    · have hx : (decide ((s.size : Int) < 17) = true ∧ decide (s.size ≤ 16) = true) ∨ (decide ((s.size : Int) < 17) = false ∧ decide (s.size ≤ 16) = false) := by
        simp only [decide_eq_true_eq, decide_eq_false_iff_not]; omega
      rcases hx with ⟨hx, hy⟩ | ⟨hx, hy⟩
      all_goals
        rw [hy] at HO
        clear hy
        go_enter Tryd.func37, Tryd.ntmps37
        go_wp2_with fail
        refine (HR.out _).mono ?_
        rintro e w1 ⟨rfl, hb1⟩
        obtain ⟨x0, x1, x2, x3, x4⟩ := (HV.out.over hb1).cell
        go_wp2_with fail
        go_ret
        exact ⟨by rw [HO.out]; rfl, HB.out.trans (hb1.mono (by simp))⟩

end Go.Proofs.YtkmmifonandkoaaDoor

/-
  The contract of the document's Before.
-/
set_option linter.unusedVariables false
namespace Go.Proofs.YtkmmifonandkoaaDoor
open Go.RowKit

set_option maxRecDepth 100000 in
set_option maxHeartbeats 400000 in
theorem Before_any (a1 a2 a3 b1 b2 b3 : Int) (w : World) : Calls Tryd.prog 38 #[(Go.Value.agg #[Go.Value.int Go.IntKind.i64 a1, Go.Value.int Go.IntKind.i64 a2, Go.Value.int Go.IntKind.i64 a3]), (Go.Value.agg #[Go.Value.int Go.IntKind.i64 b1, Go.Value.int Go.IntKind.i64 b2, Go.Value.int Go.IntKind.i64 b3])] w fun e w' => e = .returned (.bool (befB a1 a2 a3 b1 b2 b3)) ∧ Below w.heap.size w w' := by
  by_cases h1 : a1 = b1
  · subst h1
    by_cases h2 : a2 = b2
    · subst h2
      have HE : Hid (befB a1 a2 a3 a1 a2 b3 = decide (a3 < b3)) := by show _ = _; simp [befB]
      go_enter Tryd.func38, Tryd.ntmps38
      go_wp2_with fail
      all_goals
        go_ret
        exact ⟨by rw [HE.out]; rfl, ((Below.refl _ _).alloc (Nat.le_refl _) _).alloc (by simp) _⟩
    · have HE : Hid (befB a1 a2 a3 a1 b2 b3 = decide (a2 < b2)) := by show _ = _; simp [befB, h2]
      have hd : (a2 == b2) = false := beq_eq_false_iff_ne.2 h2
      clear h2
      go_enter Tryd.func38, Tryd.ntmps38
      go_wp2_with fail
      all_goals
        go_ret
        exact ⟨by rw [HE.out]; rfl, ((Below.refl _ _).alloc (Nat.le_refl _) _).alloc (by simp) _⟩
  · have HE : Hid (befB a1 a2 a3 b1 b2 b3 = decide (a1 < b1)) := by show _ = _; simp [befB, h1]
    have hd : (a1 == b1) = false := beq_eq_false_iff_ne.2 h1
    clear h1
    go_enter Tryd.func38, Tryd.ntmps38
    go_wp2_with fail
    all_goals
      go_ret
      exact ⟨by rw [HE.out]; rfl, ((Below.refl _ _).alloc (Nat.le_refl _) _).alloc (by simp) _⟩


end Go.Proofs.YtkmmifonandkoaaDoor

/-
  The contract of the document's Right of a chain.
-/
set_option linter.unusedVariables false
namespace Go.Proofs.YtkmmifonandkoaaDoor
open Go.RowKit

/-- Two versions of a row, and nothing old touched. -/
def V2 (w : World) (b o1 : Nat) (u : Ver) (o2 : Nat) (v : Ver) (W : World) : Prop := b < w.heap.size ∧ Below w.heap.size w W ∧ VerAt W b o1 u ∧ VerAt W b o2 v
theorem V2.next {w W W' : World} {b o1 o2 : Nat} {u v : Ver} (H : V2 w b o1 u o2 v W) (hb : Below W.heap.size W W') : V2 w b o1 u o2 v W' := by
  obtain ⟨h0, h1, h2, h3⟩ := H
  have := h1.size
  exact ⟨h0, h1.trans (hb.mono h1.size), h2.next hb (by omega), h3.next hb (by omega)⟩
theorem V2.drew {w W : World} {b o1 o2 : Nat} {u v : Ver} (H : V2 w b o1 u o2 v W) : V2 w b o1 u o2 v W.drew := H.next ((Below.refl _ _).drew)

set_option maxRecDepth 100000 in
set_option maxHeartbeats 2000000 in
theorem refRight_row (w : World) (ao : Option Addr) (n cap : Nat) (l : List Ver) (hl : l.length = n) (hcell : 0 < n → ∃ b off, ao = some ⟨b, off, none⟩ ∧ b < w.heap.size ∧ ∀ i, i < n → VerAt w b (off + i * 5) (vat l i)) :
    Calls Tryd.prog 43 #[.slice ao n cap] w fun e w' => e = .returned (.bool (rightC l)) ∧ Below w.heap.size w w' := by
  have HL := Lib.hid hl
  have HC := Lib.hid hcell
  clear hl hcell
  by_cases h64 : 64 < n
  · have HE : Hid (rightC l = false) := rightC_long (by rw [HL.out]; omega)
    go_enter Tryd.func43, Tryd.ntmps43
    go_wp2_with fail
    go_ret
    exact ⟨by rw [HE.out]; rfl, Below.refl _ _⟩
  go_enter Tryd.func43, Tryd.ntmps43
  go_wp2_with fail
  go_loopw [3] (fun i wr => ∃ k : Nat, k ≤ n ∧ i = .int .i64 k ∧ Hid (∀ j, j < k → okAt l j = true) ∧ Hid (Below w.heap.size w wr)) (fun i _ => n - (intOf i).toNat)
  case atStart => exact ⟨0, Nat.zero_le _, rfl, fun j hj => absurd hj (Nat.not_lt_zero _), Below.refl _ _⟩
  case round =>
    obtain ⟨k, hk, rfl, hok, hbel⟩ := hrel
    by_cases hlt : k < n
    · obtain ⟨b, off, rfl, hb, hcl⟩ := HC.out (by omega)
      obtain ⟨v, hv⟩ : ∃ v, v = vat l k := ⟨_, rfl⟩
      obtain ⟨a, t, c, g, s⟩ := v
      have HV := Lib.hid hv
      have HK : Hid (VerAt wr b (off + k * 5) (a, t, c, g, s)) := by rw [hv]; exact (hcl k hlt).next hbel.out hb
      obtain ⟨o, ho⟩ : ∃ o, o = oneB (a, t, c, g, s) := ⟨_, rfl⟩
      have HO : Hid (∀ W, Calls Tryd.prog 37 #[(Go.Value.agg #[Go.Value.int Go.IntKind.i64 a, Go.Value.int Go.IntKind.i64 t, Go.Value.int Go.IntKind.i64 c, Go.Value.bool g, Go.Value.string s])] W fun e w' => e = .returned (.bool o) ∧ Below W.heap.size W w') := fun W => by rw [ho]; exact refOne_any a t c g s W
      have HO2 := Lib.hid ho
      clear hv ho
      obtain ⟨k0, k1, k2, k3, k4⟩ := HK.out
      dsimp only at k0 k1 k2 k3 k4
      cases o
      · have HE : Hid (rightC l = false) := rightC_at (i := k) (by rw [HL.out]; exact hlt) (by unfold okAt; rw [← HV.out, ← HO2.out]; rfl)
        go_wp2_with fail
        refine (HO.out _).mono ?_
        rintro e w1 ⟨rfl, hb1⟩
        go_wp2_with fail
        go_ret
        exact ⟨by rw [HE.out]; rfl, hbel.out.trans (hb1.mono hbel.out.size)⟩
      · go_wp2_with fail
        refine (HO.out _).mono ?_
        rintro e w1 ⟨rfl, hb1⟩
        have hbel1 : Hid (Below w.heap.size w w1) := hbel.out.trans (hb1.mono hbel.out.size)
        clear k0 k1 k2 k3 k4 HK hb1 hbel
        go_upto_region 8 with (fail)
        cases k with
        | zero =>
          have HN : Hid (∀ j, j < 0 + 1 → okAt l j = true) := by
            intro j hj
            obtain rfl : j = 0 := by omega
            unfold okAt; rw [← HV.out, ← HO2.out]; rfl
          refine wp_region_calm (fun W => Below w.heap.size w W) (by kernel_rfl) (by kernel_rfl) hbel1.out.drew ?_
          repeat ((with_reducible refine wpQuiet_step (fun K hK => ?_)); go_simp; first | (refine hK _ ?_; clear hK K) | (apply Exists.intro; refine ⟨fun wc hwc => ?_, hK _ ?_⟩; (focus (first | (fail) | ((skip); go_simp; done) | ((skip); go_simp; exact rfl))); clear hK K))
          refine wpQuiet_nil ?_
          intro wc hwc
          go_wp2_with fail
          go_roundw
          case rel => exact ⟨0 + 1, by omega, by go_num, HN, hwc⟩
          case measure => simp [intOf]; omega
        | succ m =>
          obtain ⟨u, hu⟩ : ∃ u, u = vat l m := ⟨_, rfl⟩
          obtain ⟨a', t', c', g', s'⟩ := u
          have HU := Lib.hid hu
          obtain ⟨r, hr⟩ : ∃ r, r = befB a' t' c' a t c := ⟨_, rfl⟩
          have HB : Hid (∀ W, Calls Tryd.prog 38 #[(Go.Value.agg #[Go.Value.int Go.IntKind.i64 a', Go.Value.int Go.IntKind.i64 t', Go.Value.int Go.IntKind.i64 c']), (Go.Value.agg #[Go.Value.int Go.IntKind.i64 a, Go.Value.int Go.IntKind.i64 t, Go.Value.int Go.IntKind.i64 c])] W fun e w' => e = .returned (.bool r) ∧ Below W.heap.size W w') := fun W => by rw [hr]; exact Before_any _ _ _ _ _ _ W
          have HR := Lib.hid hr
          have H2 : Hid (V2 w b (off + m * 5) (a', t', c', g', s') (off + (m + 1) * 5) (a, t, c, g, s) w1) := by
            refine ⟨hb, hbel1.out, ?_, ?_⟩
            · rw [hu]; exact (hcl m (by omega)).next hbel1.out hb
            · rw [HV.out]; exact (hcl (m + 1) hlt).next hbel1.out hb
          have q1 := IntWalk.i64_in (m : Int) (by omega)
          have q2 : ((m : Int) + 1).toNat = m + 1 := by omega
          have q3 : (0 : Int) ≤ (m : Int) + 1 := by omega
          have q4 : m < n := by omega
          have q5 : (m : Int) + 1 < (n : Int) := by omega
          clear hu hr
          cases r
          · have HE : Hid (rightC l = false) := rightC_at (i := m + 1) (by rw [HL.out]; exact hlt) (by
              unfold okAt befV; rw [← HV.out, ← HO2.out, Nat.add_sub_cancel, ← HU.out]
              simp only [← HR.out]
              simp)
            refine wp_region_calm (V2 w b (off + m * 5) (a', t', c', g', s') (off + (m + 1) * 5) (a, t, c, g, s)) (by kernel_rfl) (by kernel_rfl) H2.out.drew ?_
            repeat ((with_reducible refine wpQuiet_step (fun K hK => ?_)); go_simp; first | (refine hK _ ?_; clear hK K) | (apply Exists.intro; refine ⟨fun wc hwc => ?_, hK _ ?_⟩; (focus (first | (first | (go_at_call 38; refine (HB.out _).mono ?_; rintro e w1 ⟨rfl, hb1⟩; exact ⟨rfl, hwc.next hb1⟩)) | (((obtain ⟨_, _, ⟨x0, x1, x2, _⟩, ⟨y0, y1, y2, _⟩⟩ := hwc; dsimp only at x0 x1 x2 y0 y1 y2)); go_simp; done) | (((obtain ⟨_, _, ⟨x0, x1, x2, _⟩, ⟨y0, y1, y2, _⟩⟩ := hwc; dsimp only at x0 x1 x2 y0 y1 y2)); go_simp; exact rfl))); clear hK K))
            refine wpQuiet_nil ?_
            intro wc hwc
            go_wp2_with fail
            go_ret
            exact ⟨by rw [HE.out]; rfl, hwc.2.1⟩
          · have HN : Hid (∀ j, j < m + 1 + 1 → okAt l j = true) := by
              intro j hj
              by_cases hjm : j < m + 1
              · exact hok.out j hjm
              · obtain rfl : j = m + 1 := by omega
                unfold okAt befV; rw [← HV.out, ← HO2.out, Nat.add_sub_cancel, ← HU.out]
                simp only [← HR.out]
                simp
            refine wp_region_calm (V2 w b (off + m * 5) (a', t', c', g', s') (off + (m + 1) * 5) (a, t, c, g, s)) (by kernel_rfl) (by kernel_rfl) H2.out.drew ?_
            repeat ((with_reducible refine wpQuiet_step (fun K hK => ?_)); go_simp; first | (refine hK _ ?_; clear hK K) | (apply Exists.intro; refine ⟨fun wc hwc => ?_, hK _ ?_⟩; (focus (first | (first | (go_at_call 38; refine (HB.out _).mono ?_; rintro e w1 ⟨rfl, hb1⟩; exact ⟨rfl, hwc.next hb1⟩)) | (((obtain ⟨_, _, ⟨x0, x1, x2, _⟩, ⟨y0, y1, y2, _⟩⟩ := hwc; dsimp only at x0 x1 x2 y0 y1 y2)); go_simp; done) | (((obtain ⟨_, _, ⟨x0, x1, x2, _⟩, ⟨y0, y1, y2, _⟩⟩ := hwc; dsimp only at x0 x1 x2 y0 y1 y2)); go_simp; exact rfl))); clear hK K))
            refine wpQuiet_nil ?_
            intro wc hwc
            go_wp2_with fail
            go_roundw
            case rel => exact ⟨m + 1 + 1, by omega, by go_num, HN, hwc.2.1⟩
            case measure => simp [intOf]; omega
    · have HE : Hid (rightC l = true) := rightC_yes (by rw [HL.out]; omega) (fun i hi => hok.out i (by rw [HL.out] at hi; omega))
      go_wp2_with fail
      go_ret
      exact ⟨by rw [HE.out]; rfl, hbel.out⟩

theorem refCRight_any {w : World} {v : Value} {l : List Ver} (h : Vers w v l) : Calls Tryd.prog 43 #[v] w fun e w' => e = .returned (.bool (rightC l)) ∧ Below w.heap.size w w' := by
  obtain ⟨ao, cap, rfl, h1, h2, h3⟩ := h
  exact refRight_row w ao _ cap l rfl h3

end Go.Proofs.YtkmmifonandkoaaDoor

/-
  The contract of the document's Equal, of two chains that are the same.
-/
set_option linter.unusedVariables false
namespace Go.Proofs.YtkmmifonandkoaaDoor
open Go.RowKit

/-- The same version at two places. -/
def EqRel (w : World) (b1 o1 b2 o2 : Nat) (v : Ver) (W : World) : Prop := b1 < w.heap.size ∧ b2 < w.heap.size ∧ Below w.heap.size w W ∧ VerAt W b1 o1 v ∧ VerAt W b2 o2 v
theorem EqRel.next {w W W' : World} {b1 o1 b2 o2 : Nat} {v : Ver} (H : EqRel w b1 o1 b2 o2 v W) (hb : Below W.heap.size W W') : EqRel w b1 o1 b2 o2 v W' := by
  obtain ⟨h0, h1, h2, h3, h4⟩ := H
  have := h2.size
  exact ⟨h0, h1, h2.trans (hb.mono h2.size), h3.next hb (by omega), h4.next hb (by omega)⟩
theorem EqRel.drew {w W : World} {b1 o1 b2 o2 : Nat} {v : Ver} (H : EqRel w b1 o1 b2 o2 v W) : EqRel w b1 o1 b2 o2 v W.drew := H.next ((Below.refl _ _).drew)

set_option maxRecDepth 100000 in
set_option maxHeartbeats 1000000 in
theorem refEqual_row (w : World) (ao ao' : Option Addr) (n cap cap' : Nat) (l : List Ver) (hn : n ≤ 9223372036854775807) (hcell : 0 < n → ∃ b off, ao = some ⟨b, off, none⟩ ∧ b < w.heap.size ∧ ∀ i, i < n → VerAt w b (off + i * 5) (vat l i))
    (hcell' : 0 < n → ∃ b off, ao' = some ⟨b, off, none⟩ ∧ b < w.heap.size ∧ ∀ i, i < n → VerAt w b (off + i * 5) (vat l i)) :
    Calls Tryd.prog 40 #[.slice ao n cap, .slice ao' n cap'] w fun e w' => e = .returned (.bool true) ∧ Below w.heap.size w w' := by
  have HC := Lib.hid hcell
  have HC' := Lib.hid hcell'
  clear hcell hcell'
  go_enter Tryd.func40, Tryd.ntmps40
  go_wp2_with fail
  go_loopw [5] (fun i wr => ∃ k : Nat, k ≤ n ∧ i = .int .i64 k ∧ Hid (Below w.heap.size w wr)) (fun i _ => n - (intOf i).toNat)
  case atStart => exact ⟨0, Nat.zero_le _, rfl, Below.refl _ _⟩
  case round =>
    obtain ⟨k, hk, rfl, hbel⟩ := hrel
    by_cases hlt : k < n
    · obtain ⟨b, off, rfl, hb, hcl⟩ := HC.out (by omega)
      obtain ⟨b', off', rfl, hb', hcl'⟩ := HC'.out (by omega)
      obtain ⟨v, hv⟩ : ∃ v, v = vat l k := ⟨_, rfl⟩
      have H : Hid (EqRel w b (off + k * 5) b' (off' + k * 5) v wr) := ⟨hb, hb', hbel.out, by rw [hv]; exact (hcl k hlt).next hbel.out hb, by rw [hv]; exact (hcl' k hlt).next hbel.out hb'⟩
      clear hv hcl hcl' hbel
      obtain ⟨a, t, c, g, s⟩ := v
      have q0 : k < n := hlt
      go_upto_region 6 with (fail)
      refine wp_region_calm (EqRel w b (off + k * 5) b' (off' + k * 5) (a, t, c, g, s)) (by kernel_rfl) (by kernel_rfl) H.out.drew ?_
      repeat ((with_reducible refine wpQuiet_step (fun K hK => ?_)); go_simp; first | (refine hK _ ?_; clear hK K) | (apply Exists.intro; refine ⟨fun wc hwc => ?_, hK _ ?_⟩; (focus (first | (fail) | (((obtain ⟨_, _, _, ⟨x0, x1, x2, x3, x4⟩, ⟨y0, y1, y2, y3, y4⟩⟩ := hwc; dsimp only at x0 x1 x2 x3 x4 y0 y1 y2 y3 y4)); go_simp; done) | (((obtain ⟨_, _, _, ⟨x0, x1, x2, x3, x4⟩, ⟨y0, y1, y2, y3, y4⟩⟩ := hwc; dsimp only at x0 x1 x2 x3 x4 y0 y1 y2 y3 y4)); go_simp; exact rfl))); clear hK K))
      refine wpQuiet_nil ?_
      intro wc hwc
      go_wp2_with fail
      go_roundw
      case rel => exact ⟨k + 1, by omega, by go_num, hwc.2.2.1⟩
      case measure => simp [intOf]; omega
    · go_wp2_with fail
      go_ret
      exact ⟨rfl, hbel.out⟩

theorem refEqual_any {w : World} {v v' : Value} {l : List Ver} (h : Vers w v l) (h' : Vers w v' l) : Calls Tryd.prog 40 #[v, v'] w fun e w' => e = .returned (.bool true) ∧ Below w.heap.size w w' := by
  obtain ⟨ao, cap, rfl, h1, h2, h3⟩ := h
  obtain ⟨ao', cap', rfl, h1', h2', h3'⟩ := h'
  exact refEqual_row w ao ao' _ cap cap' l (by have : maxLen ≤ 9223372036854775807 := by decide
                                               omega) h3 h3'

end Go.Proofs.YtkmmifonandkoaaDoor
