/-
  The contract of dedup.joined, at one table and at three.
-/
import Derived.Test.YtdiabcdpnbhibaaDdCdTold
import Derived.Test.YtdiabcdpnbhibaaDdCdConcat
set_option linter.unusedVariables false
namespace Go.Proofs.Ytdiabcdpnbhibaa
open Go.RowKit

theorem below_setCells {B : Nat} {a : World} {b : Nat} (hb : B ≤ b) : ∀ (vs : List Value) (o : Nat) (w : World), Below B a w → Below B a (w.setCells b o vs)
  | [], _, _, h => h
  | v :: r, o, w, h => by
    rw [World.setCells]
    exact below_setCells hb r (o + 1) _ (h.setCell (by exact hb) v)
/-- Rows of one's own in the block g, that may be written. -/
def JnR (w : World) (g n : Nat) (l : List Dn) (W : World) : Prop :=
  Below w.heap.size w W ∧ w.heap.size ≤ g ∧ g < W.heap.size ∧ (∀ j, W.frozen? ⟨g, j, none⟩ = false) ∧ ∃ es : List DnV, es.map Prod.fst = l ∧ es.length = n ∧ ∀ i, i < n → DnAt W g (i * 11) (det es i)
theorem JnR.next {w W W' : World} {g n : Nat} {l : List Dn} (H : JnR w g n l W) (hb : Below W.heap.size W W') : JnR w g n l W' := by
  obtain ⟨h1, h2, h3, h4, es, h5, h6, h7⟩ := H
  refine ⟨h1.trans (hb.mono h1.size), h2, Nat.lt_of_lt_of_le h3 hb.size, fun j => ?_, es, h5, h6, fun i hi => (h7 i hi).next hb h3⟩
  have := h4 j
  have e := hb.block g h3
  simp only [World.frozen?] at this ⊢
  rw [e]; exact this
theorem dnAt_cells {W : World} {b o : Nat} {d : DnV} (h : DnAt W b o d) : ∀ j, j < 11 → W.cell? ⟨b, o + j, none⟩ = (dnC d)[j]? := by
  obtain ⟨h0, h1, h2, h3, h4, h5, h6, h7, h8, h9, h10⟩ := h
  intro j hj
  have hs : j = 0 ∨ j = 1 ∨ j = 2 ∨ j = 3 ∨ j = 4 ∨ j = 5 ∨ j = 6 ∨ j = 7 ∨ j = 8 ∨ j = 9 ∨ j = 10 := by omega
  rcases hs with rfl | rfl | rfl | rfl | rfl | rfl | rfl | rfl | rfl | rfl | rfl <;> assumption
theorem dnAt_of {W : World} {b o : Nat} {d : DnV} (h : ∀ j, j < 11 → W.cell? ⟨b, o + j, none⟩ = (dnC d)[j]?) : DnAt W b o d :=
  ⟨h 0 (by omega), h 1 (by omega), h 2 (by omega), h 3 (by omega), h 4 (by omega), h 5 (by omega), h 6 (by omega), h 7 (by omega), h 8 (by omega), h 9 (by omega), h 10 (by omega)⟩
theorem JnR.there {w W : World} {g n : Nat} {l : List Dn} (H : JnR w g n l W) {i : Nat} (hi : i < n) : W.there g (i * 11) 11 := by
  obtain ⟨h1, h2, h3, h4, es, h5, h6, h7⟩ := H
  intro j hj
  refine ⟨?_, h4 _⟩
  rw [dnAt_cells (h7 i hi) j hj]
  have : j < (dnC (det es i)).length := hj
  rw [List.getElem?_eq_getElem this]; rfl
theorem det_set {es : List DnV} {i j : Nat} {d : DnV} (hi : i < es.length) : det (es.set i d) j = if i = j then d else det es j := by
  unfold det
  simp only [List.getD, List.getElem?_set]
  by_cases h : i = j
  · rw [if_pos h, if_pos h, if_pos (by omega)]; rfl
  · rw [if_neg h, if_neg h]
theorem JnR.set {w W : World} {g n : Nat} {l : List Dn} (H : JnR w g n l W) {i : Nat} (hi : i < n) {d : DnV} (hd : d.1 = dat l i) : JnR w g n l (W.setCells g (i * 11) (dnC d)) := by
  have hth := H.there hi
  obtain ⟨h1, h2, h3, h4, es, h5, h6, h7⟩ := H
  have h8 := below_setCells h2 (dnC d) (i * 11) W h1
  refine ⟨h8, h2, ?_, fun j => by rw [World.frozen?_setCells]; exact h4 j, es.set i d, ?_, by rw [List.length_set]; exact h6, fun j hj => ?_⟩
  · have := (below_setCells (B := W.heap.size) (a := W) (b := W.heap.size + g) (by omega) [] 0 W (Below.refl _ _)).size
    have key : ∀ (vs : List Value) (o : Nat) (w : World), (w.setCells g o vs).heap.size = w.heap.size := by
      intro vs
      induction vs with
      | nil => intro o w; rfl
      | cons v r ih => intro o w; rw [World.setCells, ih]; simp [World.setCell]
    rw [key]; exact h3
  · refine List.ext_getElem? fun j => ?_
    rw [List.getElem?_map, List.getElem?_set]
    by_cases hij : i = j
    · subst hij
      rw [if_pos rfl, if_pos (by omega), ← h5]
      have : (es.map Prod.fst)[i]? = some (dat (es.map Prod.fst) i) := by rw [List.getElem?_eq_getElem (by rw [List.length_map]; omega), dat_get (by rw [List.length_map]; omega)]
      rw [this, h5, ← hd]; rfl
    · rw [if_neg hij, ← List.getElem?_map, h5]
  · rw [det_set (by omega)]
    by_cases hij : i = j
    · subst hij
      rw [if_pos rfl]
      refine dnAt_of fun k hk => ?_
      rw [World.cell?_setCells_in g (dnC d) (i * 11) W (fun q hq => (hth q hq).1) k hk, List.getElem?_eq_getElem hk]
    · rw [if_neg hij]
      refine dnAt_of fun k hk => ?_
      rw [World.cell?_setCells_out g (dnC d) (i * 11) W ⟨g, j * 11 + k, none⟩ (fun _ _ => by
        show j * 11 + k < i * 11 ∨ i * 11 + 11 ≤ j * 11 + k
        omega)]
      exact dnAt_cells (h7 j hj) k hk
theorem JnR.tab {w W : World} {g n cap : Nat} {l : List Dn} (H : JnR w g n l W) (h1 : n ≤ cap) (h2 : cap ≤ maxLen) : Tab W (.slice (some ⟨g, 0, none⟩) n cap) l := by
  obtain ⟨_, _, h3, _, es, h5, h6, h7⟩ := H
  exact ⟨es, ⟨some ⟨g, 0, none⟩, cap, by rw [h6], by omega, h2, fun _ => ⟨g, 0, rfl, h3, fun i hi => by rw [Nat.zero_add]; exact h7 i (by omega)⟩⟩, h5⟩
theorem jnR_of {w W : World} {B : Nat} {v : Value} {es : List DnV} (hB : B = w.heap.size) (h : OwnsD W B v es) (hb : Below w.heap.size w W) : (v = .slice none 0 0 ∧ es = []) ∨ ∃ g cap, v = .slice (some ⟨g, 0, none⟩) es.length cap ∧ es.length ≤ cap ∧ cap ≤ maxLen ∧ JnR w g es.length (es.map Prod.fst) W := by
  subst hB
  have ht := h.tab
  rcases h.2 with ⟨e, hn⟩ | ⟨g, cap, cur, e, hB, hg, hc, hm, hsz, htk⟩
  · exact .inl ⟨e, List.length_eq_zero_iff.1 hn⟩
  · refine .inr ⟨g, cap, e, hc, hm, hb, hB, ?_, fun j => by simp [World.frozen?, hg], es, rfl, rfl, fun i hi => ?_⟩
    · rcases Nat.lt_or_ge g W.heap.size with h1 | h1
      · exact h1
      · rw [Array.getElem?_eq_none h1] at hg; cases hg
    · obtain ⟨ao, cap', e2, _, _, h3⟩ := ht
      obtain ⟨b, off, e3, _, h5⟩ := h3 (by omega)
      rw [e, e3] at e2
      injection e2 with e4 _ _
      injection e4 with e5
      injection e5 with e6 e7
      subst e6
      have := h5 i hi
      rw [← e7, Nat.zero_add] at this
      exact this

theorem dmid_store {ops : Array Oper} {rest : List Oper} {o : Oper} {a : Act} {w : World} {Q : Exit → Act → World → Prop} {d' : DnV} (hgd : o.guard = none) (p q : Operand) (ho : o.op = .store 33 p q) (g off : Nat) (hx : a.eval p = .pointer (some ⟨g, off, none⟩)) (hy : a.eval q = dnV d') (H : w.there g off 11)
    (h : wpList Try.prog ops Q rest (a.put o.dst undef) (w.setCells g off (dnC d'))) : wpList Try.prog ops Q (o :: rest) a w :=
  wpList_store_mid hgd 33 p q ho g off (dnC d').toArray hx hy (show w.there g off (dnC d').toArray.size from H) (by kernel_rfl) (all_oneCell_toArray (dnC_one d')) (by rw [List.toList_toArray]; exact h)
/-- And the row that is copied. -/
def JnB (w : World) (g n : Nat) (l : List Dn) (h : Nat) (d : DnV) (W : World) : Prop := JnR w g n l W ∧ DBox W h d
theorem JnB.next {w W W' : World} {g n h : Nat} {l : List Dn} {d : DnV} (H : JnB w g n l h d W) (hb : Below W.heap.size W W') : JnB w g n l h d W' := ⟨H.1.next hb, H.2.over hb⟩
theorem JnB.new {w W : World} {g n : Nat} {l : List Dn} (H : JnR w g n l W) (c r e x y z : Int) (f : Bool) (vv : ByteArray) (ai : Option Addr) (ni ci : Nat) (nx : ByteArray) (mo : Bool) : JnB w g n l W.heap.size ((c, r, e, (x, y, z), f, vv, ni, nx, mo), ai, ci) (W.alloc (.cells #[Go.Value.int Go.IntKind.i64 c, Go.Value.int Go.IntKind.i64 r, Go.Value.int Go.IntKind.i64 e, Go.Value.int Go.IntKind.i64 x, Go.Value.int Go.IntKind.i64 y, Go.Value.int Go.IntKind.i64 z, Go.Value.bool f, Go.Value.string vv, Go.Value.slice ai ni ci, Go.Value.string nx, Go.Value.bool mo] 33)) :=
  ⟨H.next ((Below.refl _ _).alloc (Nat.le_refl _) _), DBox.new W ((c, r, e, (x, y, z), f, vv, ni, nx, mo), ai, ci)⟩

set_option maxRecDepth 100000 in
set_option maxHeartbeats 1000000 in
theorem djoined_row (w : World) (h m : Nat) (es : List DnV) (hN : ∀ d ∈ es.map Prod.fst, dN d = 0)
    (HC : Hid (∀ W, Below w.heap.size w W → Calls Try.prog 37 #[.slice (some ⟨h, 0, none⟩) m m] W fun e w' => ∃ v, e = .returned v ∧ OwnsD w' W.heap.size v es ∧ Below W.heap.size W w')) :
    Calls Try.prog 29 #[.slice (some ⟨h, 0, none⟩) m m] w fun e w' => ∃ v', e = .returned v' ∧ SoEnd w (es.map Prod.fst) v' w' := by
  obtain ⟨l, hl⟩ : ∃ l, l = es.map Prod.fst := ⟨_, rfl⟩
  rw [← hl] at hN
  rw [← hl]
  have HL := Lib.hid hl
  have HNN := Lib.hid hN
  clear hl hN
  go_enter Try.func29, Try.ntmps29
  go_wp2_with fail
  refine (HC.out _ (Below.refl _ _)).mono ?_
  rintro e w1 ⟨v, rfl, hown, hb1⟩
  have hJ := jnR_of rfl hown hb1
  have HB1 := Lib.hid hb1
  clear hown hb1 HC
  rcases hJ with ⟨rfl, rfl⟩ | ⟨g, cap, rfl, hcap, hmx, hJ⟩
  · have HT : Hid (Tab w1 (.slice none 0 0) l) := by show Tab _ _ _; rw [HL.out]; exact tab_nil _
    clear HL HNN
    go_wp2_with fail
    go_loop [10] (fun i => i = .int .i64 0) (fun _ => 0)
    case atStart => rfl
    case round =>
      obtain rfl := hrel
      go_wp2_with fail
      go_ret
      exact ⟨_, rfl, HT.out, HB1.out⟩
  rw [← HL.out] at hJ
  obtain ⟨n, hn⟩ : ∃ n, n = es.length := ⟨_, rfl⟩
  rw [← hn] at hJ hcap ⊢
  have HJ := Lib.hid hJ
  have hln : l.length = n := by rw [HL.out, List.length_map, hn]
  have hn2 : n ≤ 9223372036854775807 := Nat.le_trans hcap (Nat.le_trans hmx (by decide))
  have HLN := Lib.hid hln
  have HCAP := Lib.hid hcap
  have HMX := Lib.hid hmx
  clear hJ HL hn hln hcap hmx HB1
  go_wp2_with fail
  go_loopw [10] (fun i wr => ∃ k : Nat, k ≤ n ∧ i = .int .i64 k ∧ Hid (JnR w g n l wr)) (fun i _ => n - (intOf i).toNat)
  case atStart => exact ⟨0, Nat.zero_le _, rfl, HJ.out⟩
  case round =>
    obtain ⟨k, hk, rfl, hjr⟩ := hrel
    clear HJ
    by_cases hlt : k < n
    · obtain ⟨fs, hf1, hf2, hf3⟩ := hjr.out.2.2.2.2
      obtain ⟨d, hd⟩ : ∃ d, d = det fs k := ⟨_, rfl⟩
      have hdk : d.1 = dat l k := by rw [hd]; exact det_map hf1 k
      have hK : DnAt wr g (k * 11) d := by rw [hd]; exact hf3 k hlt
      have hdn : dN d.1 = 0 := by rw [hdk]; exact HNN.out _ (dat_in (by rw [HLN.out]; exact hlt))
      obtain ⟨⟨c, r, e, ⟨x, y, z⟩, f, vv, ni, nx, mo⟩, ai, ci⟩ := d
      have e2 : ni = 0 := hdn
      subst e2
      have H2 := Lib.hid (JnB.new hjr.out c r e x y z f vv ai 0 ci nx mo)
      have HC2 : Hid (∀ W, Calls Try.prog 27 #[(Go.Value.agg #[Go.Value.int Go.IntKind.i64 c, Go.Value.int Go.IntKind.i64 r, Go.Value.int Go.IntKind.i64 e, Go.Value.int Go.IntKind.i64 x, Go.Value.int Go.IntKind.i64 y, Go.Value.int Go.IntKind.i64 z, Go.Value.bool f, Go.Value.string vv, Go.Value.slice ai 0 ci, Go.Value.string nx, Go.Value.bool mo])] W fun e' w' => ∃ (ai : Option Addr) (ci : Nat), e' = .returned (Go.Value.agg #[Go.Value.int Go.IntKind.i64 c, Go.Value.int Go.IntKind.i64 r, Go.Value.int Go.IntKind.i64 e, Go.Value.int Go.IntKind.i64 x, Go.Value.int Go.IntKind.i64 y, Go.Value.int Go.IntKind.i64 z, Go.Value.bool f, Go.Value.string vv, Go.Value.slice ai 0 ci, Go.Value.string nx, Go.Value.bool mo]) ∧ Below W.heap.size W w') := fun W => dcopied_any c r e x y z f vv ai ci nx mo W
      have HDK : Hid ((c, r, e, (x, y, z), f, vv, 0, nx, mo) = dat l k) := hdk
      obtain ⟨x0, x1, x2, x3, x4, x5, x6, x7, x8, x9, x10⟩ := hK
      dsimp only at x0 x1 x2 x3 x4 x5 x6 x7 x8 x9 x10
      have q4 : k < n := hlt
      clear hd hdk hdn hf1 hf2 hf3
      go_upto_region 5 with (fail)
      clear x0 x1 x2 x3 x4 x5 x6 x7 x8 x9 x10
      generalize hw1 : wr.alloc _ = w2 at H2 ⊢
      generalize hg : wr.heap.size = hh at H2 ⊢
      clear hw1 hg hjr
      obtain ⟨x0, x1, x2, x3, x4, x5, x6, x7, x8, x9, x10⟩ := H2.out.2.cell
      dsimp only at x0 x1 x2 x3 x4 x5 x6 x7 x8 x9 x10
      go_wp2_with fail
      refine (HC2.out _).mono ?_
      rintro e' w3 ⟨a3, c3, rfl, hb3⟩
      have H3 : Hid (JnR w g n l w3) := H2.out.1.next hb3
      clear hb3 H2 HC2 x0 x1 x2 x3 x4 x5 x6 x7 x8 x9 x10
      have HTH : Hid (w3.there g (k * 11) 11) := H3.out.there hlt
      have H4 : Hid (JnR w g n l (w3.setCells g (k * 11) (dnC ((c, r, e, (x, y, z), f, vv, 0, nx, mo), a3, c3)))) := H3.out.set hlt HDK.out
      go_wp2_with ((with_reducible refine dmid_store (d' := ((c, r, e, (x, y, z), f, vv, 0, nx, mo), a3, c3)) rfl _ _ rfl g (k * 11) ?_ ?_ ?_ ?_); (focus (rfl)); (focus (rfl)); (focus (exact HTH.out)))
      exact ⟨⟨k + 1, by omega, by go_num, H4.out⟩, by simp [intOf]; omega⟩
    · obtain rfl : k = n := by omega
      have HT := Lib.hid (hjr.out.tab HCAP.out HMX.out)
      go_wp2_with fail
      go_ret
      exact ⟨_, rfl, HT.out, hjr.out.1⟩

theorem djoined_one (w : World) (h : Nat) (a1 : Option Addr) (n1 c1 : Nat) (l1 : List Dn) (h1 : Tab w (.slice a1 n1 c1) l1) (hs : n1 ≤ 1000) (hh : h < w.heap.size) (x0 : w.cell? ⟨h, 0, none⟩ = some (.slice a1 n1 c1)) (hN : ∀ d ∈ l1, dN d = 0) :
    Calls Try.prog 29 #[.slice (some ⟨h, 0, none⟩) 1 1] w fun e w' => ∃ v', e = .returned v' ∧ SoEnd w l1 v' w' := by
  obtain ⟨e1, q1, rfl⟩ := h1
  refine djoined_row w h 1 e1 hN fun W hW => ?_
  have key := ConcatD_row W h 1 (fun _ => a1) (fun _ => n1) (fun _ => c1) (fun _ => e1) (by decide) (by simpa [dzTo] using hs) (Nat.lt_of_lt_of_le hh hW.size)
    (fun i hi => by obtain rfl : i = 0 := by omega
                    exact (hW.cell (p := ⟨h, 0, none⟩) hh).trans x0)
    (fun i hi => q1.next hW)
  exact key
theorem djoined_three (w : World) (h : Nat) (a1 a2 a3 : Option Addr) (n1 n2 n3 c1 c2 c3 : Nat) (l1 l2 l3 : List Dn) (h1 : Tab w (.slice a1 n1 c1) l1) (h2 : Tab w (.slice a2 n2 c2) l2) (h3 : Tab w (.slice a3 n3 c3) l3) (hs : n1 + n2 + n3 ≤ 1000) (hh : h < w.heap.size)
    (x0 : w.cell? ⟨h, 0, none⟩ = some (.slice a1 n1 c1)) (x1 : w.cell? ⟨h, 1, none⟩ = some (.slice a2 n2 c2)) (x2 : w.cell? ⟨h, 2, none⟩ = some (.slice a3 n3 c3)) (hN : ∀ d ∈ l1 ++ l2 ++ l3, dN d = 0) :
    Calls Try.prog 29 #[.slice (some ⟨h, 0, none⟩) 3 3] w fun e w' => ∃ v', e = .returned v' ∧ SoEnd w (l1 ++ l2 ++ l3) v' w' := by
  obtain ⟨e1, q1, rfl⟩ := h1
  obtain ⟨e2, q2, rfl⟩ := h2
  obtain ⟨e3, q3, rfl⟩ := h3
  have em : e1.map Prod.fst ++ e2.map Prod.fst ++ e3.map Prod.fst = (e1 ++ e2 ++ e3).map Prod.fst := by simp
  rw [em] at hN ⊢
  refine djoined_row w h 3 (e1 ++ e2 ++ e3) hN fun W hW => ?_
  have key := ConcatD_row W h 3 (fun i => [a1, a2, a3].getD i none) (fun i => [n1, n2, n3].getD i 0) (fun i => [c1, c2, c3].getD i 0) (fun i => [e1, e2, e3].getD i []) (by decide) (by simpa [dzTo] using hs) (Nat.lt_of_lt_of_le hh hW.size)
    (fun i hi => by
      have : i = 0 ∨ i = 1 ∨ i = 2 := by omega
      rcases this with rfl | rfl | rfl
      · exact (hW.cell (p := ⟨h, 0, none⟩) hh).trans x0
      · exact (hW.cell (p := ⟨h, 1, none⟩) hh).trans x1
      · exact (hW.cell (p := ⟨h, 2, none⟩) hh).trans x2)
    (fun i hi => by
      have : i = 0 ∨ i = 1 ∨ i = 2 := by omega
      rcases this with rfl | rfl | rfl
      · exact q1.next hW
      · exact q2.next hW
      · exact q3.next hW)
  have e0 : dlTo (fun i => [e1, e2, e3].getD i []) 3 = e1 ++ e2 ++ e3 := by simp [dlTo]
  rw [e0] at key
  exact key

end Go.Proofs.Ytdiabcdpnbhibaa
