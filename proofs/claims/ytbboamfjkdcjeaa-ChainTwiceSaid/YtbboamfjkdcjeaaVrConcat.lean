/-
  The contracts of slices.Grow at no versions, and of slices.Concat at two slices of versions.
-/
import Derived.Test.YtbboamfjkdcjeaaVrClone
import Derived.Lib.AppendZerosOnto
import Derived.Lib.AppendZeros
import Derived.Laws.AppendOwnNone
set_option linter.unusedVariables false
namespace Go.Proofs.Ytbboamfjkdcjeaa
open Go.RowKit

theorem run_append_none' {P : Program} {w : World} (base : Nat) (t ty e : TypeId) (i : TypeInfo) (size c : Nat) (ht : P.underlying t = some (.slice e)) (hi : P.info? e = some i)
    (v : Value) (n : Nat) (xs : List Value) (hown : w.ownsRow base e size v n xs) :
    (Builtin.append_ #[t, t] ty #[v, .slice none 0 c]).run P w = .ok v w := by
  rcases hown.2 with ⟨rfl, rfl⟩ | ⟨g, cap, cur, rfl, _, _, hnc, _⟩
  · simp [Builtin.append_, run_underlying ht, sizeOf, typeInfo, hi, Builtin.lenOf, Builtin.firstCells]
  · simp [Builtin.append_, run_underlying ht, sizeOf, typeInfo, hi, Builtin.lenOf, Builtin.firstCells, hnc, storeCells]

/-- Versions that lie somewhere, appended to versions that are owned. -/
theorem wpList_append_vers {w : World} {ops : Array Oper} {rest : List Oper} {o : Oper} {a : Act} {Q : Exit → Act → World → Prop} (hgd : o.guard = none) (s x : Operand)
    (ho : o.op = .call { callee := .builtin .append, args := #[s, x], argTypes := #[22, 22] }) (base : Nat) (v u : Value) (xs l : List Ver) (hs : a.eval s = v) (hown : OwnsV w base v xs) (hx : a.eval x = u) (hu : Vers w u l)
    (hlen : xs.length + l.length ≤ 1000000) (hbase : base ≤ w.heap.size)
    (h : ∀ v' w', OwnsV w' base v' (xs ++ l) → w.grownBy w' v.ownBlock → wpList Try.prog ops Q rest (a.put o.dst v') w') : wpList Try.prog ops Q (o :: rest) a w := by
  obtain ⟨i0, hi, hz0, hz1, hz2⟩ := info_parts info_ver
  have hown' : w.ownsRow base 26 5 v xs.length (versC xs) := hown
  obtain ⟨ao, cap, rfl, h1, h2, h3⟩ := hu
  have hmany : ∀ ad, ao = some ad → (∀ j u, (versC l)[j]? = some u → w.cell? (ad.add j) = some u) → wpList Try.prog ops Q (o :: rest) a w := by
    rintro ad rfl hn
    refine wpList_append_own w hgd s x 22 ho base 26 i0 _ 5 48 Try.underlying22 hi hz0 hz1 hz2 rfl (by decide) v _ _ hs hown' ad _ cap (versC l) hx (versC_len l) hn (versC_one l) (by unfold maxLen; omega) (by omega) hbase fun v' w' hown1 hg _ => h v' w' ?_ hg
    show World.ownsRow w' base _ 5 v' (xs ++ l).length (versC (xs ++ l))
    rw [List.length_append, show versC (xs ++ l) = versC xs ++ versC l by simp [versC]]
    exact hown1
  rcases Nat.eq_zero_or_pos l.length with h0 | h0
  · obtain rfl : l = [] := List.length_eq_zero_iff.1 h0
    cases ao with
    | some ad => exact hmany ad rfl (by intro j u hj; simp [versC] at hj)
    | none =>
      have h' := h v w (by rw [List.append_nil]; exact hown) ⟨rfl, rfl, rfl, Nat.le_refl _, fun _ _ _ => rfl⟩
      exact Lib.wpList_append_run w hgd s x _ _ ho v _ hs hx v w (run_append_none' base _ _ _ i0 5 cap Try.underlying22 hi v _ _ hown') h'
  · obtain ⟨b, off, e, hb, hcl⟩ := h3 h0
    exact hmany _ e (vers_news rfl hcl)

set_option maxRecDepth 100000 in
set_option maxHeartbeats 1000000 in
theorem Grow_any (w : World) (n : Nat) (h0 : 0 < n) (hn : n ≤ 1000) :
    Calls Try.prog 33 #[.slice none 0 0, .int .i64 n] w fun e w' => ∃ v, e = .returned v ∧ OwnsV w' w.heap.size v [] ∧ Below w.heap.size w w' := by
  obtain ⟨i0, hi, hz0, hz1, hz2⟩ := info_parts info_ver
  have hrz : ∀ ty, ∃ G, n ≤ G ∧ G ≤ maxLen ∧ ∃ cs : Array Value, cs.size = G * 5 ∧ (Builtin.append_ #[22, 3] ty #[.slice none 0 0, .int .i64 n]).run Try.prog w = .ok (.slice (some ⟨w.heap.size, 0, none⟩) n G) (w.drew.alloc (.cells cs 26)) := fun ty => by
    have h := Lib.run_append_grow_zeros (P := Try.prog) w 22 3 ty 26 i0 _ .i64 .i64 Try.underlying22 Try.underlying3 hi hz0 none 0 0 [] (run_firstCells_none w.drew _ 0 0 0) n h0 (by rw [hz1]; decide) (by omega) (by omega)
      (by rw [hz2]; omega) (by rw [hz2]; exact growslice_fits (by omega) (by omega))
    rw [Nat.zero_add] at h
    have h1 := grownCap_ge w n 0 26
    have h2 := grownCap_le_maxLen w n 0 26 (by unfold maxLen; omega)
    refine ⟨_, h1, h2, _, ?_, h⟩
    generalize grownCap w n 0 26 = G at h1
    simp [Builtin.zeroCells, Value.cells]
    omega
  have q1 := IntWalk.i64_in (n : Int) (by omega)
  have q2 : decide (0 < (n : Int)) = true := decide_eq_true (by omega)
  have q3 : decide ((n : Int) < 0) = false := decide_eq_false (by omega)
  obtain ⟨G, hG, hGm, cs, hcs, hrun⟩ := hrz 22
  have hG2 : G ≤ 9223372036854775807 := Nat.le_trans hGm (by decide)
  have HR := Lib.hid hrun
  have HO : Hid (OwnsV (w.drew.alloc (.cells cs 26)) w.heap.size (.slice (some ⟨w.heap.size, 0, none⟩) 0 G) []) := World.ownsRow_made (base := w.heap.size) w.drew cs G (Nat.le_refl _) hGm hcs
  have HB : Hid (Below w.heap.size w (w.drew.alloc (.cells cs 26))) := ((Below.refl _ w).drew).alloc (Nat.le_refl _) _
  clear hrz hrun hcs hGm
  go_enter Try.func33, Try.ntmps33
  go_wp2_with (at_builtin; refine Lib.wpList_append_run _ rfl _ _ _ _ rfl _ _ rfl rfl _ _ HR.out ?_)
  go_ret
  exact ⟨_, rfl, HO.out, HB.out⟩

def szAt (a b k : Nat) : Nat := if k = 0 then 0 else if k = 1 then a else a + b
def lsAt (a b : List Ver) (k : Nat) : List Ver := if k = 0 then [] else if k = 1 then a else a ++ b

set_option maxRecDepth 100000 in
set_option maxHeartbeats 1000000 in
theorem Concat_row (w : World) (h na nb ca cb : Nat) (aa ab : Option Addr) (la lb : List Ver) (hna : la.length = na) (hnb : lb.length = nb) (hsz : na + nb ≤ 1000) (h0 : 0 < na + nb) (hh : h < w.heap.size)
    (c0 : w.cell? ⟨h, 0, none⟩ = some (.slice aa na ca)) (c1 : w.cell? ⟨h, 1, none⟩ = some (.slice ab nb cb)) (hA : Vers w (.slice aa na ca) la) (hB : Vers w (.slice ab nb cb) lb) :
    Calls Try.prog 26 #[.slice (some ⟨h, 0, none⟩) 2 2] w fun e w' => ∃ v, e = .returned v ∧ OwnsV w' w.heap.size v (la ++ lb) ∧ Below w.heap.size w w' := by
  have HA := Lib.hid hA
  have HB := Lib.hid hB
  have HC : Hid (∀ W, Below w.heap.size w W → W.cell? ⟨h, 0, none⟩ = some (.slice aa na ca) ∧ W.cell? ⟨h, 1, none⟩ = some (.slice ab nb cb)) := fun W hW => ⟨(hW.cell (p := ⟨h, 0, none⟩) hh).trans c0, (hW.cell (p := ⟨h, 1, none⟩) hh).trans c1⟩
  have HL : Hid (la.length = na ∧ lb.length = nb) := ⟨hna, hnb⟩
  have HG : Hid (∀ W n, n = na + nb → Calls Try.prog 33 #[.slice none 0 0, .int .i64 (n : Nat)] W fun e w' => ∃ v, e = .returned v ∧ OwnsV w' W.heap.size v [] ∧ Below W.heap.size W w') := fun W n hn => Grow_any W n (by omega) (by omega)
  clear hA hB hna hnb hh
  go_enter Try.func26, Try.ntmps26
  go_wp2_with fail
  go_loop [3, 11] (fun u i => ∃ k : Nat, k ≤ 2 ∧ i = .int .i64 k ∧ u = .int .i64 (szAt na nb k : Nat)) (fun _ i => 2 - (intOf i).toNat)
  case atStart => exact ⟨0, by omega, rfl, rfl⟩
  case round =>
    obtain ⟨k, hk, rfl, rfl⟩ := hrel
    have hk3 : k = 0 ∨ k = 1 ∨ k = 2 := by omega
    rcases hk3 with rfl | rfl | rfl
    · have q1 := IntWalk.i64_in (na : Int) (by omega)
      have q2 : decide ((na : Int) < 0) = false := decide_eq_false (by omega)
      simp only [szAt, if_true]
      go_wp2_with fail
      go_round
      case rel => exact ⟨1, by omega, by go_num, by simp⟩
      case measure => simp [intOf]
    · have q1 := IntWalk.i64_in ((na : Int) + (nb : Int)) (by omega)
      have q2 : decide ((na : Int) + (nb : Int) < 0) = false := decide_eq_false (by omega)
      have e : szAt na nb 1 = na := rfl
      rw [e]
      go_wp2_with fail
      go_round
      case rel => exact ⟨2, by omega, by go_num, by simp [szAt]⟩
      case measure => simp [intOf]
    · have e : szAt na nb 2 = na + nb := rfl
      rw [e]
      obtain ⟨n, hn⟩ : ∃ n, n = na + nb := ⟨_, rfl⟩
      rw [← hn]
      have HN := Lib.hid hn
      clear hn e
      go_wp2_with fail
      refine (HG.out _ _ HN.out).mono ?_
      rintro e w1 ⟨v1, rfl, ho1, hb1⟩
      have H1 : Hid (OwnsV w1 w.heap.size v1 [] ∧ Below w.heap.size w w1) := ⟨ho1, hb1⟩
      clear ho1 hb1 c0 c1
      go_wp2_with fail
      go_loopw [6, 27] (fun u i wr => ∃ k : Nat, k ≤ 2 ∧ i = .int .i64 k ∧ Hid (OwnsV wr w.heap.size u (lsAt la lb k)) ∧ Hid (Below w.heap.size w wr)) (fun _ i _ => 2 - (intOf i).toNat)
      case atStart => exact ⟨0, by omega, rfl, H1.out.1, H1.out.2⟩
      case round =>
        obtain ⟨k, hk, rfl, hown, hbel⟩ := hrel
        have hk3 : k = 0 ∨ k = 1 ∨ k = 2 := by omega
        rcases hk3 with rfl | rfl | rfl
        · obtain ⟨c0, c1⟩ := HC.out wr hbel.out
          have HV : Hid (Vers wr (.slice aa na ca) la) := HA.out.next hbel.out
          have HX : Hid ([] ++ la = lsAt la lb 1) := rfl
          go_wp2_with (at_builtin; refine wpList_append_vers rfl _ _ rfl w.heap.size _ _ [] la rfl hown.out rfl HV.out (by have := HL.out; simp; omega) hbel.out.size ?_; intro v' w2 ho2 hg2; have HO : Hid (OwnsV w2 w.heap.size v' (lsAt la lb 1) ∧ Below w.heap.size w w2) := ⟨by rw [← HX.out]; exact ho2, hbel.out.grown hg2 hbel.out.size (fun k hk => (World.ownsRow.lt hown.out k hk).1)⟩; clear ho2 hg2)
          exact ⟨⟨1, by omega, by go_num, HO.out.1, HO.out.2⟩, by simp [intOf]⟩
        · obtain ⟨c0, c1⟩ := HC.out wr hbel.out
          have HV : Hid (Vers wr (.slice ab nb cb) lb) := HB.out.next hbel.out
          have HX : Hid (la ++ lb = lsAt la lb 2) := rfl
          have HO1 : Hid (OwnsV wr w.heap.size u6 la) := hown.out
          go_wp2_with (at_builtin; refine wpList_append_vers rfl _ _ rfl w.heap.size _ _ la lb rfl HO1.out rfl HV.out (by have := HL.out; omega) hbel.out.size ?_; intro v' w2 ho2 hg2; have HO : Hid (OwnsV w2 w.heap.size v' (lsAt la lb 2) ∧ Below w.heap.size w w2) := ⟨by rw [← HX.out]; exact ho2, hbel.out.grown hg2 hbel.out.size (fun k hk => (World.ownsRow.lt HO1.out k hk).1)⟩; clear ho2 hg2)
          exact ⟨⟨2, by omega, by go_num, HO.out.1, HO.out.2⟩, by simp [intOf]⟩
        · have HO : Hid (OwnsV wr w.heap.size u6 (la ++ lb)) := hown.out
          go_wp2_with fail
          go_ret
          exact ⟨_, rfl, HO.out, hbel.out⟩

end Go.Proofs.Ytbboamfjkdcjeaa
