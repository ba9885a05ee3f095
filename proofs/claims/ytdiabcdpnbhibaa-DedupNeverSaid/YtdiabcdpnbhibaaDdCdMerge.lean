/-
  The contract of dedup.Merge.
-/
import Derived.Test.YtdiabcdpnbhibaaDdCdPutF
set_option linter.unusedVariables false
namespace Go.Proofs.Ytdiabcdpnbhibaa
open Go.RowKit

/-! ### One row more -/
theorem nodup_len : ∀ {xs ys : List Int}, xs.Nodup → (∀ x ∈ xs, x ∈ ys) → xs.length ≤ ys.length
  | [], ys, _, _ => Nat.zero_le _
  | x :: xs, ys, hn, hs => by
    rw [List.nodup_cons] at hn
    have h1 : x ∈ ys := hs x List.mem_cons_self
    have h2 := nodup_len (xs := xs) (ys := ys.erase x) hn.2 (fun y hy => by
      have h3 : y ≠ x := fun e => hn.1 (e ▸ hy)
      exact (List.mem_erase_of_ne h3).2 (hs y (List.mem_cons_of_mem _ hy)))
    rw [List.length_erase_of_mem h1] at h2
    have h4 : 0 < ys.length := List.length_pos_of_mem h1
    rw [List.length_cons]
    omega
theorem inc_nodup {l : List Dn} (h : incT l) : (l.map dC).Nodup := by
  unfold List.Nodup
  rw [List.pairwise_map]
  exact h.imp fun hab e => by omega
theorem un_nodup {a b : List Dn} (ha : incT a) (hb : incT b) : ((unT a b).map dC).Nodup := by
  unfold List.Nodup
  rw [List.pairwise_map]
  unfold unT
  rw [List.pairwise_append]
  refine ⟨(ha.sublist List.filter_sublist).imp fun hab e => by omega, (hb.sublist List.filter_sublist).imp fun hab e => by omega, fun x hx y hy => ?_⟩
  rw [List.mem_filter, decide_eq_true_eq] at hx hy
  exact un_apart ha hb hx hy
theorem un_client {a b : List Dn} (ha : incT a) (hb : incT b) (hra : ∀ d ∈ a, rowB d = true) (hrb : ∀ d ∈ b, rowB d = true) {x : Dn} (h : x ∈ a ∨ x ∈ b) : ∃ y ∈ unT a b, dC y = dC x := by
  rcases h with h | h
  · rcases Int.lt_or_le (dR x) (reqT b (dC x)) with h1 | h1
    · cases hr : rowT b (dC x) with
      | none =>
        rw [req_none hr] at h1
        have := (row_spec (hra x h)).2.1
        omega
      | some e =>
        obtain ⟨he, hc⟩ := row_some hr
        rw [req_at hr] at h1
        refine ⟨e, un_mem.2 (.inr ⟨he, ?_⟩), hc⟩
        rw [hc, req_at ((row_iff ha).2 ⟨h, rfl⟩)]
        exact h1
    · exact ⟨x, un_mem.2 (.inl ⟨h, h1⟩), rfl⟩
  · rcases Int.lt_or_le (reqT a (dC x)) (dR x) with h1 | h1
    · exact ⟨x, un_mem.2 (.inr ⟨h, h1⟩), rfl⟩
    · cases hr : rowT a (dC x) with
      | none =>
        rw [req_none hr] at h1
        have := (row_spec (hrb x h)).2.1
        omega
      | some e =>
        obtain ⟨he, hc⟩ := row_some hr
        rw [req_at hr] at h1
        refine ⟨e, un_mem.2 (.inl ⟨he, ?_⟩), hc⟩
        rw [hc, req_at ((row_iff hb).2 ⟨h, rfl⟩)]
        exact h1
theorem take_lt {b : List Dn} (hb : incT b) {k : Nat} (hk : k < b.length) {x : Dn} (hx : x ∈ b.take k) : dC x < dC (dat b k) := by
  obtain ⟨i, h1, h2, rfl⟩ := mem_take_dat hx
  exact inc_lt hb hk h1
theorem take_in {b : List Dn} {k : Nat} {x : Dn} (hx : x ∈ b.take k) : x ∈ b := List.mem_of_mem_take hx
theorem row_snoc (l : List Dn) (d : Dn) (c : Int) : rowT (l ++ [d]) c = (rowT l c).or (if dC d = c then some d else none) := by
  unfold rowT
  rw [List.find?_append]
  congr 1
  have := row_cons [] d c
  unfold rowT at this
  rw [this]; rfl
theorem merge_step {a b mk : List Dn} (ha : incT a) (hb : incT b) (hra : ∀ d ∈ a, rowB d = true) (hrb : ∀ d ∈ b, rowB d = true) {k : Nat} (hk : k < b.length) (h : IsMerged a (b.take k) mk) :
    reqT mk (dC (dat b k)) = reqT a (dC (dat b k)) ∧ (dR (dat b k) ≤ reqT a (dC (dat b k)) → IsMerged a (b.take (k + 1)) mk) ∧ (reqT a (dC (dat b k)) < dR (dat b k) → IsMerged a (b.take (k + 1)) (putT mk (dat b k))) := by
  rw [take_dat hk]
  have hlt : ∀ x ∈ b.take k, dC x < dC (dat b k) := fun x hx => take_lt hb hk hx
  generalize dat b k = d at hlt ⊢
  generalize hbk : b.take k = bk at hlt h ⊢
  have hbi : incT bk := by rw [← hbk]; exact hb.sublist (List.take_sublist _ _)
  have h0 : rowT bk (dC d) = none := by
    cases hr : rowT bk (dC d) with
    | none => rfl
    | some x => obtain ⟨h1, h2⟩ := row_some hr; have := hlt x h1; omega
  have hq1 : reqT (bk ++ [d]) (dC d) = dR d := req_at (by rw [row_snoc, h0, if_pos rfl]; rfl)
  have hq2 : ∀ c, ¬ dC d = c → reqT (bk ++ [d]) c = reqT bk c := by
    intro c hc
    have : rowT (bk ++ [d]) c = rowT bk c := by rw [row_snoc, if_neg hc]; simp
    unfold reqT; rw [this]
  have hpos : ∀ x ∈ a, 0 < dR x := fun x hx => (row_spec (hra x hx)).2.1.1
  refine ⟨?_, fun hle => ⟨h.1, fun x => ?_⟩, fun hlt2 => ⟨put_inc h.1, fun x => ?_⟩⟩
  · cases hr : rowT a (dC d) with
    | some x =>
      obtain ⟨h1, h2⟩ := row_some hr
      rw [req_at hr]
      refine req_at ((row_iff h.1).2 ⟨(h.2 x).2 (un_mem.2 (.inl ⟨h1, ?_⟩)), h2⟩)
      rw [h2, req_none h0]
      have := hpos x h1
      omega
    | none =>
      rw [req_none hr]
      cases hm : rowT mk (dC d) with
      | none => rw [req_none hm]
      | some x =>
        obtain ⟨h1, h2⟩ := row_some hm
        rcases un_mem.1 ((h.2 x).1 h1) with ⟨h3, _⟩ | ⟨h3, _⟩
        · have := (row_iff ha).2 ⟨h3, h2⟩
          rw [hr] at this; cases this
        · have := hlt x h3; omega
  · rw [h.2 x, un_mem, un_mem]
    by_cases hc : dC d = dC x
    · rw [← hc, hq1, req_none h0]
      constructor
      · rintro (⟨h1, h2⟩ | ⟨h1, h2⟩)
        · refine .inl ⟨h1, ?_⟩
          rw [req_at ((row_iff ha).2 ⟨h1, hc.symm⟩)] at hle
          exact hle
        · have := hlt x h1; omega
      · rintro (⟨h1, h2⟩ | ⟨h1, h2⟩)
        · have := hpos x h1
          exact .inl ⟨h1, by omega⟩
        · rcases List.mem_append.1 h1 with h3 | h3
          · have := hlt x h3; omega
          · rw [List.mem_singleton] at h3; subst h3; omega
    · rw [hq2 _ hc]
      have : x ∈ bk ++ [d] ↔ x ∈ bk := by
        rw [List.mem_append, List.mem_singleton]
        exact ⟨fun h1 => h1.elim id fun e => absurd (by rw [e]) hc, .inl⟩
      rw [this]
  · rw [put_mem, un_mem, h.2 x, un_mem]
    by_cases hc : dC d = dC x
    · rw [← hc, hq1, req_none h0]
      constructor
      · rintro (h1 | ⟨_, h1⟩)
        · exact .inr ⟨List.mem_append.2 (.inr (List.mem_singleton.2 h1)), by rw [h1]; exact hlt2⟩
        · exact absurd rfl h1
      · rintro (⟨h1, h2⟩ | ⟨h1, h2⟩)
        · rw [req_at ((row_iff ha).2 ⟨h1, hc.symm⟩)] at hlt2
          omega
        · rcases List.mem_append.1 h1 with h3 | h3
          · have := hlt x h3; omega
          · rw [List.mem_singleton] at h3; exact .inl h3
    · rw [hq2 _ hc]
      have : x ∈ bk ++ [d] ↔ x ∈ bk := by
        rw [List.mem_append, List.mem_singleton]
        exact ⟨fun h1 => h1.elim id fun e => absurd (by rw [e]) hc, .inl⟩
      rw [this]
      constructor
      · rintro (h1 | ⟨h1, _⟩)
        · exact absurd (by rw [h1]) hc
        · exact h1
      · exact fun h1 => .inr ⟨h1, fun e => hc e.symm⟩
theorem merge_more {a b mk : List Dn} (ha : incT a) (hb : incT b) (hra : ∀ d ∈ a, rowB d = true) (hrb : ∀ d ∈ b, rowB d = true) {k : Nat} (hk : k < b.length) (h : IsMerged a (b.take k) mk) : (putT mk (dat b k)).length ≤ (unT a b).length := by
  have h1 := nodup_len (xs := (putT mk (dat b k)).map dC) (ys := (unT a b).map dC) (inc_nodup (put_inc h.1)) (fun c hc => by
    obtain ⟨x, hx, rfl⟩ := List.mem_map.1 hc
    have h2 : x ∈ a ∨ x ∈ b := by
      rcases put_mem.1 hx with h3 | ⟨h3, _⟩
      · exact .inr (by rw [h3]; exact dat_in hk)
      · rcases un_mem.1 ((h.2 x).1 h3) with h4 | h4
        · exact .inl h4.1
        · exact .inr (take_in h4.1)
    obtain ⟨y, hy, he⟩ := un_client ha hb hra hrb h2
    exact List.mem_map.2 ⟨y, hy, he⟩)
  simpa using h1
theorem merge_whole {a b mk : List Dn} (ha : incT a) (hb : incT b) (h : IsMerged a b mk) : (unT a b).length ≤ mk.length := by
  have h1 := nodup_len (xs := (unT a b).map dC) (ys := mk.map dC) (un_nodup ha hb) (fun c hc => by
    obtain ⟨x, hx, rfl⟩ := List.mem_map.1 hc
    exact List.mem_map.2 ⟨x, (h.2 x).2 hx, rfl⟩)
  simpa using h1

/-! ### The walk -/
/-- The table so far. -/
def MgI (w : World) (a b : List Dn) (k : Nat) (lv : Value) (W : World) : Prop := ∃ mk : List Dn, Tab W lv mk ∧ IsMerged a (b.take k) mk ∧ mk.length ≤ 8 ∧ Below w.heap.size w W
/-- The row's box. -/
def MgB (w : World) (h : Nat) (d : DnV) (lv : Value) (mk : List Dn) (W : World) : Prop := Below w.heap.size w W ∧ DBox W h d ∧ Tab W lv mk
theorem MgB.next {w W W' : World} {h : Nat} {d : DnV} {lv : Value} {mk : List Dn} (H : MgB w h d lv mk W) (hb : Below W.heap.size W W') : MgB w h d lv mk W' := ⟨H.1.trans (hb.mono H.1.size), H.2.1.over hb, H.2.2.next hb⟩
theorem MgB.new {w W : World} {lv : Value} {mk : List Dn} (hb : Below w.heap.size w W) (ht : Tab W lv mk) (c r e x y z : Int) (f : Bool) (vv : ByteArray) (ai : Option Addr) (ni ci : Nat) (nx : ByteArray) (mo : Bool) : MgB w W.heap.size ((c, r, e, (x, y, z), f, vv, ni, nx, mo), ai, ci) lv mk (W.alloc (.cells #[Go.Value.int Go.IntKind.i64 c, Go.Value.int Go.IntKind.i64 r, Go.Value.int Go.IntKind.i64 e, Go.Value.int Go.IntKind.i64 x, Go.Value.int Go.IntKind.i64 y, Go.Value.int Go.IntKind.i64 z, Go.Value.bool f, Go.Value.string vv, Go.Value.slice ai ni ci, Go.Value.string nx, Go.Value.bool mo] 33)) :=
  ⟨hb.alloc hb.size _, DBox.new W ((c, r, e, (x, y, z), f, vv, ni, nx, mo), ai, ci), ht.next ((Below.refl _ _).alloc (Nat.le_refl _) _)⟩
set_option maxRecDepth 100000 in
theorem djoin_lit1 (w : World) (a1 : Option Addr) (n1 c1 : Nat) (l1 : List Dn) (h1 : Tab w (.slice a1 n1 c1) l1) (hs : n1 ≤ 900) (hN : ∀ x ∈ l1, dN x = 0) :
    Calls Try.prog 29 #[.slice (some ⟨w.heap.size, 0, none⟩) 1 1] (w.alloc (.cells #[.slice a1 n1 c1] 22)) fun e w' => ∃ v', e = .returned v' ∧ SoEnd w l1 v' w' := by
  have hal : Below w.heap.size w (w.alloc (.cells #[.slice a1 n1 c1] 22)) := (Below.refl _ _).alloc (Nat.le_refl _) _
  refine (djoined_one _ w.heap.size a1 n1 c1 l1 (h1.next hal) (by omega) (by simp) (by simp) hN).mono ?_
  rintro e w' ⟨v', rfl, h4, h5⟩
  exact ⟨v', rfl, h4, hal.trans (h5.mono hal.size)⟩

set_option maxRecDepth 100000 in
set_option maxHeartbeats 1000000 in
theorem dmerge_bad (w : World) (va vb : Value) (g1 g2 : Bool) (hbad : g1 = false ∨ g2 = false)
    (HA : Hid (∀ W, Below w.heap.size w W → Calls Try.prog 11 #[va] W fun e w' => e = .returned (.bool g1) ∧ Below W.heap.size W w'))
    (HB : Hid (∀ W, Below w.heap.size w W → Calls Try.prog 11 #[vb] W fun e w' => e = .returned (.bool g2) ∧ Below W.heap.size W w')) :
    Calls Try.prog 19 #[va, vb] w fun e w' => ∃ v', e = .returned (.tuple #[v', .int .i64 1]) ∧ SoEnd w [] v' w' := by
  cases g1
  · clear hbad
    go_enter Try.func19, Try.ntmps19
    go_wp2_with fail
    refine (HA.out _ (Below.refl _ _)).mono ?_
    rintro e w1 ⟨rfl, hb1⟩
    go_wp2_with fail
    go_ret2
    exact ⟨_, rfl, tab_nil _, hb1⟩
  · obtain rfl : g2 = false := by rcases hbad with h | h; cases h; exact h
    clear hbad
    go_enter Try.func19, Try.ntmps19
    go_wp2_with fail
    refine (HA.out _ (Below.refl _ _)).mono ?_
    rintro e w1 ⟨rfl, hb1⟩
    have H1 := Lib.hid hb1
    clear hb1
    go_wp2_with fail
    refine (HB.out _ H1.out).mono ?_
    rintro e w2 ⟨rfl, hb2⟩
    have H2 := Lib.hid (H1.out.trans (hb2.mono H1.out.size))
    clear hb2 H1
    go_wp2_with fail
    go_ret2
    exact ⟨_, rfl, tab_nil _, H2.out⟩

set_option maxRecDepth 100000 in
set_option maxHeartbeats 2000000 in
theorem fDMerge : FDMerge := by
  intro w va vb a b m er ha hb hm
  have HA : Hid (∀ W, Below w.heap.size w W → Calls Try.prog 11 #[va] W fun e w' => e = .returned (.bool (rightT a)) ∧ Below W.heap.size W w') := fun W hW => fDRight W va a (ha.next hW)
  have HB : Hid (∀ W, Below w.heap.size w W → Calls Try.prog 11 #[vb] W fun e w' => e = .returned (.bool (rightT b)) ∧ Below W.heap.size W w') := fun W hW => fDRight W vb b (hb.next hW)
  rcases hm with ⟨hbad, rfl, rfl⟩ | hm
  · exact dmerge_bad w va vb _ _ hbad HA HB
  have h1 : rightT a = true := by rcases hm with h | h <;> exact h.1
  have h2 : rightT b = true := by rcases hm with h | h <;> exact h.2.1
  rw [h1] at HA
  rw [h2] at HB
  obtain ⟨ha8, hra, hai⟩ := right_parts h1
  obtain ⟨hb8, hrb, hbi⟩ := right_parts h2
  have hfull : ∀ k mk, k < b.length → IsMerged a (b.take k) mk → 8 < (putT mk (dat b k)).length → m = [] ∧ er = 6 := by
    intro k mk hk hi hl
    have := merge_more hai hbi hra hrb hk hi
    rcases hm with ⟨_, _, h3, h4, h5⟩ | ⟨_, _, h3, _, _⟩
    · exact ⟨h4, h5⟩
    · omega
  have hend : ∀ mk, IsMerged a b mk → mk.length ≤ 8 → m = mk ∧ er = 0 := by
    intro mk hi hl
    have := merge_whole hai hbi hi
    rcases hm with ⟨_, _, h3, _, _⟩ | ⟨_, _, h3, h4, h5⟩
    · omega
    · exact ⟨merged_one h4 hi, h5⟩
  have hstart : IsMerged a (b.take 0) a := by
    refine ⟨hai, fun d => ?_⟩
    rw [un_mem]
    constructor
    · intro hd
      refine .inl ⟨hd, ?_⟩
      have e0 : reqT (b.take 0) (dC d) = 0 := rfl
      have := (row_spec (hra d hd)).2.1
      omega
    · rintro (h | h)
      · exact h.1
      · simp at h
  have HFULL := Lib.hid hfull
  have HEND := Lib.hid hend
  have HSTEP : Hid (∀ k mk, k < b.length → IsMerged a (b.take k) mk → mk.length ≤ 8 → ∀ m' er', IsDPut mk (dat b k) m' er' → (er' = 9 ∧ IsMerged a (b.take (k + 1)) mk) ∨ (er' = 6 ∧ m = [] ∧ er = 6) ∨ (er' = 0 ∧ IsMerged a (b.take (k + 1)) m' ∧ m'.length ≤ 8)) := by
    intro k mk hk hi hl m' er' hp
    obtain ⟨hq, hs1, hs2⟩ := merge_step hai hbi hra hrb hk hi
    have hrm : rightT mk = true := right_whole hl (fun d hd => by
      rcases un_mem.1 ((hi.2 d).1 hd) with h4 | h4
      · exact hra d h4.1
      · exact hrb d (take_in h4.1)) hi.1
    have hrd := hrb _ (dat_in hk)
    rcases hp with ⟨h3 | h3, _, _⟩ | ⟨_, _, h3, _, rfl⟩ | ⟨_, _, h3, h4, _, rfl⟩ | ⟨_, _, h3, h4, rfl, rfl⟩
    · rw [hrm] at h3; cases h3
    · rw [hrd] at h3; cases h3
    · exact .inl ⟨rfl, hs1 (by rw [← hq]; exact h3)⟩
    · exact .inr (.inl ⟨rfl, hfull k mk hk hi h4⟩)
    · exact .inr (.inr ⟨rfl, hs2 (by rw [← hq]; exact h3), h4⟩)
  have HST := Lib.hid hstart
  have HNA : Hid (∀ x ∈ a, dN x = 0) := fun x hx => (row_spec (hra x hx)).2.2
  have HT := Lib.hid ha
  obtain ⟨oa, na, ca, ea, rfl, hla, _, _, _, _, _⟩ := ha.opened
  obtain ⟨ob, n, cb, es, rfl, hl, hle, hmx, hn, hrow, hmap⟩ := hb.opened
  have HL := Lib.hid hl
  have HR := Lib.hid hrow
  have HE := Lib.hid hmap
  have HNA8 : Hid (na ≤ 8 ∧ a.length ≤ 8) := by show _ ∧ _; omega
  clear hm h1 h2 ha8 hra hai hb8 hrb hbi hfull hend hstart ha hb hla hl hle hmx hrow hmap
  go_enter Try.func19, Try.ntmps19
  go_wp2_with fail
  refine (HA.out _ (Below.refl _ _)).mono ?_
  rintro e w1 ⟨rfl, hb1⟩
  have H1 := Lib.hid hb1
  clear hb1 HA
  go_wp2_with fail
  refine (HB.out _ H1.out).mono ?_
  rintro e w2 ⟨rfl, hb2⟩
  have H2 : Hid (Below w.heap.size w w2) := H1.out.trans (hb2.mono H1.out.size)
  clear hb2 H1 HB
  go_wp2_with fail
  refine (djoin_lit1 w2 oa na ca a (HT.out.next H2.out) (by have := HNA8.out.1; omega) HNA.out).mono ?_
  rintro e w3 ⟨v3, rfl, ht3, hb3⟩
  have H3 : Hid (MgI w a b 0 v3 w3) := ⟨a, ht3, HST.out, HNA8.out.2, H2.out.trans (hb3.mono H2.out.size)⟩
  clear ht3 hb3 H2 HST HNA8 HT HNA
  go_wp2_with fail
  go_loopw [6, 24] (fun lv i wr => ∃ k : Nat, k ≤ n ∧ i = .int .i64 k ∧ Hid (MgI w a b k lv wr)) (fun _ i _ => n - (intOf i).toNat)
  case atStart => exact ⟨0, Nat.zero_le _, rfl, H3.out⟩
  case round =>
    obtain ⟨k, hk, rfl, hmg⟩ := hrel
    clear H3
    by_cases hlt : k < n
    · obtain ⟨mk, hmt, hmi, hm8, hbel⟩ := hmg.out
      obtain ⟨b0, off, rfl, hb0, hcl⟩ := HR.out (by omega)
      obtain ⟨d, hd⟩ : ∃ d, d = det es k := ⟨_, rfl⟩
      have hdk : d.1 = dat b k := by rw [hd]; exact det_map HE.out k
      have hK : DnAt wr b0 (off + k * 11) d := by rw [hd]; exact (hcl k hlt).next hbel hb0
      obtain ⟨⟨c, r, e, ⟨x, y, z⟩, f, vv, ni, nx, mo⟩, ai, ci⟩ := d
      obtain ⟨m', er', hput⟩ := dput_ex mk (dat b k)
      have hstep := HSTEP.out k mk (by rw [HL.out]; exact hlt) hmi hm8 m' er' hput
      have hdk2 : dat b k = (c, r, e, (x, y, z), f, vv, ni, nx, mo) := hdk.symm
      rw [hdk2] at hput
      have HP : Hid (∀ W, Tab W u6 mk → Calls Try.prog 17 #[u6, (Go.Value.agg #[Go.Value.int Go.IntKind.i64 c, Go.Value.int Go.IntKind.i64 r, Go.Value.int Go.IntKind.i64 e, Go.Value.int Go.IntKind.i64 x, Go.Value.int Go.IntKind.i64 y, Go.Value.int Go.IntKind.i64 z, Go.Value.bool f, Go.Value.string vv, Go.Value.slice ai ni ci, Go.Value.string nx, Go.Value.bool mo])] W fun e' w' => ∃ v', e' = .returned (.tuple #[v', .int .i64 er']) ∧ SoEnd W m' v' w') := fun W hW => fDPut W u6 mk c r e x y z f vv ai ni ci nx mo m' er' hW hput
      have H4 := Lib.hid (MgB.new hbel hmt c r e x y z f vv ai ni ci nx mo)
      have HS := Lib.hid hstep
      have HM8 := Lib.hid hm8
      obtain ⟨x0, x1, x2, x3, x4, x5, x6, x7, x8, x9, x10⟩ := hK
      dsimp only at x0 x1 x2 x3 x4 x5 x6 x7 x8 x9 x10
      have q4 : k < n := hlt
      clear hmt hmi hm8 hbel hcl hd hdk hput hstep hdk2 hmg
      go_upto_region 7 with (fail)
      clear x0 x1 x2 x3 x4 x5 x6 x7 x8 x9 x10
      generalize hw1 : wr.alloc _ = w4 at H4 ⊢
      generalize hg : wr.heap.size = hh at H4 ⊢
      clear hw1 hg
      obtain ⟨x0, x1, x2, x3, x4, x5, x6, x7, x8, x9, x10⟩ := H4.out.2.1.cell
      dsimp only at x0 x1 x2 x3 x4 x5 x6 x7 x8 x9 x10
      go_wp2_with fail
      refine (HP.out _ H4.out.2.2).mono ?_
      rintro e' w5 ⟨v5, rfl, ht5, hb5⟩
      have H5 : Hid (Tab w5 v5 m' ∧ Tab w5 u6 mk ∧ Below w.heap.size w w5) := ⟨ht5, H4.out.2.2.next hb5, H4.out.1.trans (hb5.mono H4.out.1.size)⟩
      clear ht5 hb5 H4 HP x0 x1 x2 x3 x4 x5 x6 x7 x8 x9 x10
      rcases HS.out with ⟨h9, hi⟩ | ⟨h6, hm0, he6⟩ | ⟨h0, hi, hl8⟩
      · subst h9
        have H6 : Hid (MgI w a b (k + 1) u6 w5) := ⟨mk, H5.out.2.1, hi, HM8.out, H5.out.2.2⟩
        clear hi H5 HS
        go_wp2_with fail
        go_roundw
        case rel => exact ⟨k + 1, by omega, by go_num, H6.out⟩
        case measure => simp [intOf]; omega
      · subst h6
        subst hm0
        subst he6
        clear HS
        go_wp2_with fail
        go_ret2
        exact ⟨_, rfl, tab_nil _, H5.out.2.2⟩
      · subst h0
        have H6 : Hid (MgI w a b (k + 1) v5 w5) := ⟨m', H5.out.1, hi, hl8, H5.out.2.2⟩
        clear hi H5 HS hl8
        go_wp2_with fail
        go_roundw
        case rel => exact ⟨k + 1, by omega, by go_num, H6.out⟩
        case measure => simp [intOf]; omega
    · obtain rfl : k = n := by omega
      obtain ⟨mk, hmt, hmi, hm8, hbel⟩ := hmg.out
      rw [List.take_of_length_le (by have := HL.out; omega)] at hmi
      obtain ⟨rfl, rfl⟩ := HEND.out mk hmi hm8
      have H6 : Hid (SoEnd w m u6 wr) := ⟨hmt, hbel⟩
      clear hmt hmi hm8 hbel hmg HEND HFULL HSTEP
      go_wp2_with fail
      go_ret2
      exact ⟨_, rfl, H6.out⟩

end Go.Proofs.Ytdiabcdpnbhibaa
