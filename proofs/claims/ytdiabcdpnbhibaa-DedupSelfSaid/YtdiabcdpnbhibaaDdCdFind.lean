/-
  The contracts of dedup.find, its closure, and the library's binary search as find calls it.
-/
import Derived.Test.YtdiabcdpnbhibaaDdForms
import Derived.Test.YtdiabcdpnbhibaaSmCmp
set_option linter.unusedVariables false
namespace Go.Proofs.Ytdiabcdpnbhibaa
open Go.RowKit

set_option maxRecDepth 100000 in
set_option maxHeartbeats 1000000 in
theorem dfind1_any (c r e x y z : Int) (f : Bool) (v : ByteArray) (ao : Option Addr) (n cap : Nat) (nx : ByteArray) (m : Bool) (q : Int) (w : World) :
    Calls Try.prog 34 #[(Go.Value.agg #[Go.Value.int Go.IntKind.i64 c, Go.Value.int Go.IntKind.i64 r, Go.Value.int Go.IntKind.i64 e, Go.Value.int Go.IntKind.i64 x, Go.Value.int Go.IntKind.i64 y, Go.Value.int Go.IntKind.i64 z, Go.Value.bool f, Go.Value.string v, Go.Value.slice ao n cap, Go.Value.string nx, Go.Value.bool m]), .int .i64 q] w fun e' w' => e' = .returned (.int .i64 (Lib.compareInt c q)) ∧ Below w.heap.size w w' := by
  have HB0 : Hid (Below w.heap.size w (w.alloc (.cells #[Go.Value.int Go.IntKind.i64 c, Go.Value.int Go.IntKind.i64 r, Go.Value.int Go.IntKind.i64 e, Go.Value.int Go.IntKind.i64 x, Go.Value.int Go.IntKind.i64 y, Go.Value.int Go.IntKind.i64 z, Go.Value.bool f, Go.Value.string v, Go.Value.slice ao n cap, Go.Value.string nx, Go.Value.bool m] 33))) := (Below.refl _ _).alloc (Nat.le_refl _) _
  obtain ⟨R, hR⟩ : ∃ R, R = Lib.compareInt c q := ⟨_, rfl⟩
  have HC : Hid (∀ W, Calls Try.prog 35 #[.int .i64 c, .int .i64 q] W fun e w' => e = .returned (.int .i64 R) ∧ w' = W) := fun W => by rw [hR]; exact cmp_int c q W
  rw [← hR]
  clear hR
  go_enter Try.func34, Try.ntmps34
  go_wp2_with fail
  refine (HC.out _).mono ?_
  rintro e w1 ⟨rfl, rfl⟩
  go_wp2_with fail
  go_ret
  exact ⟨rfl, HB0.out⟩

theorem cmp_lt {x y : Int} (h : x < y) : Lib.compareInt x y = -1 := by unfold Lib.compareInt; rw [if_pos h]
theorem cmp_ge {x y : Int} (h : ¬ x < y) : ¬ Lib.compareInt x y < 0 := by
  unfold Lib.compareInt
  rw [if_neg h]
  split <;> omega
theorem cmp_zero {x y : Int} : (Lib.compareInt x y == 0) = decide (x = y) := by
  unfold Lib.compareInt
  by_cases h : x < y
  · rw [if_pos h, decide_eq_false (by omega)]; rfl
  · rw [if_neg h]
    by_cases h2 : x > y
    · rw [if_pos h2, decide_eq_false (by omega)]; rfl
    · rw [if_neg h2, decide_eq_true (by omega)]; rfl

/-- Where a client's row is, or would be. -/
def PosT (l : List Dn) (c : Int) (n : Nat) : Prop := n ≤ l.length ∧ (∀ i, i < n → dC (dat l i) < c) ∧ ∀ i, n ≤ i → i < l.length → ¬ dC (dat l i) < c
theorem pos_ex {l : List Dn} (h : incT l) (c : Int) : ∃ n, PosT l c n := by
  induction l with
  | nil => exact ⟨0, Nat.le_refl _, fun i hi => absurd hi (Nat.not_lt_zero _), fun i _ hi => absurd hi (Nat.not_lt_zero _)⟩
  | cons d l ih =>
    rw [inc_cons] at h
    by_cases hd : dC d < c
    · obtain ⟨n, h1, h2, h3⟩ := ih h.2
      refine ⟨n + 1, by simpa using h1, fun i hi => ?_, fun i hi hi2 => ?_⟩
      · cases i with
        | zero => exact hd
        | succ i => exact h2 i (by omega)
      · cases i with
        | zero => omega
        | succ i => exact h3 i (by omega) (by simpa using hi2)
    · refine ⟨0, Nat.zero_le _, fun i hi => absurd hi (Nat.not_lt_zero _), fun i _ hi2 => ?_⟩
      cases i with
      | zero => exact hd
      | succ i =>
        have hi3 : i < l.length := by simpa using hi2
        have := h.1 _ (dat_in hi3)
        show ¬ dC (dat l i) < c
        omega
/-- Is its row there? -/
def thereT (l : List Dn) (c : Int) (n : Nat) : Bool := decide (n < l.length ∧ dC (dat l n) = c)
theorem pos_there {l : List Dn} {c : Int} {n : Nat} (h : PosT l c n) (ht : thereT l c n = true) : n < l.length ∧ dC (dat l n) = c ∧ rowT l c = some (dat l n) := by
  have h2 := of_decide_eq_true ht
  exact ⟨h2.1, h2.2, row_at h2.1 (fun j hj => by have := h.2.1 j hj; omega) h2.2⟩
theorem pos_none {l : List Dn} {c : Int} {n : Nat} (hi : incT l) (h : PosT l c n) (ht : thereT l c n = false) : rowT l c = none := by
  have h2 : ¬ (n < l.length ∧ dC (dat l n) = c) := of_decide_eq_false ht
  refine row_none fun j hj => ?_
  rcases Nat.lt_or_ge j n with h3 | h3
  · have := h.2.1 j h3; omega
  · have h4 := h.2.2 j h3 hj
    have h5 := h.2.2 n (Nat.le_refl _) (by omega)
    rcases Nat.lt_or_ge n j with h6 | h6
    · rw [inc_iff] at hi
      have := hi n j (by omega) hj h6
      rw [← dat_get, ← dat_get] at this
      have h7 : ¬ dC (dat l n) = c := fun e => h2 ⟨by omega, e⟩
      omega
    · obtain rfl : j = n := by omega
      exact fun e => h2 ⟨hj, e⟩

set_option maxRecDepth 100000 in
set_option maxHeartbeats 2000000 in
theorem dsearch_any (w : World) (v : Value) (l : List Dn) (q : Int) (p : Nat) (hv : Tab w v l) (hp : PosT l q p) (h8 : l.length ≤ 1000) :
    Calls Try.prog 33 #[v, .int .i64 q, .func (.func 34) #[] #[]] w fun e w' => e = .returned (.tuple #[.int .i64 p, .bool (thereT l q p)]) ∧ Below w.heap.size w w' := by
  obtain ⟨ao, n, cap, es, rfl, hl, hle, hmx, hn, hrow, hmap⟩ := hv.opened
  obtain ⟨T, hT⟩ : ∃ T, T = thereT l q p := ⟨_, rfl⟩
  rw [← hT]
  have hn8 : n ≤ 1000 := by omega
  have HT := Lib.hid hT
  have HL := Lib.hid hl
  have HR := Lib.hid hrow
  have HE := Lib.hid hmap
  have hpn : p ≤ n := by rw [← hl]; exact hp.1
  have HP := Lib.hid hp
  clear hT hl hrow hmap hle hmx hn hv hp h8
  go_enter Try.func33, Try.ntmps33
  go_wp2_with fail
  go_loopw [9, 10] (fun u v wr => ∃ lo hi : Nat, u = .int .i64 lo ∧ v = .int .i64 hi ∧ lo ≤ p ∧ p ≤ hi ∧ hi ≤ n ∧ Hid (Below w.heap.size w wr)) (fun u v _ => (intOf v).toNat - (intOf u).toNat)
  case atStart => exact ⟨0, n, rfl, rfl, Nat.zero_le _, hpn, Nat.le_refl _, Below.refl _ _⟩
  case round =>
    obtain ⟨lo, hi, rfl, rfl, hlo, hhi, hin, hbel⟩ := hrel
    by_cases hlt : lo < hi
    · obtain ⟨m, hm⟩ : ∃ m, m = (lo + hi) / 2 := ⟨_, rfl⟩
      have q1 : ((lo : Int) + (hi : Int)) / 2 = (m : Int) := by omega
      have q2 : lo ≤ m ∧ m < hi := by omega
      have q3 : m < n := by omega
      have HM := Lib.hid hm
      clear hm
      obtain ⟨b, off, rfl, hb, hcl⟩ := HR.out (by omega)
      obtain ⟨d, hd⟩ : ∃ d, d = det es m := ⟨_, rfl⟩
      have hdk : d.1 = dat l m := by rw [hd]; exact det_map HE.out m
      have HK : Hid (DnAt wr b (off + m * 11) d) := by rw [hd]; exact (hcl m q3).next hbel.out hb
      obtain ⟨⟨c, r, e, ⟨x, y, z⟩, f, v, ni, nx, mo⟩, ai, ci⟩ := d
      have hdc : dC (dat l m) = c := by rw [← hdk]; rfl
      have HC : Hid (∀ W, Calls Try.prog 34 #[(Go.Value.agg #[Go.Value.int Go.IntKind.i64 c, Go.Value.int Go.IntKind.i64 r, Go.Value.int Go.IntKind.i64 e, Go.Value.int Go.IntKind.i64 x, Go.Value.int Go.IntKind.i64 y, Go.Value.int Go.IntKind.i64 z, Go.Value.bool f, Go.Value.string v, Go.Value.slice ai ni ci, Go.Value.string nx, Go.Value.bool mo]), .int .i64 q] W fun e w' => e = .returned (.int .i64 (Lib.compareInt c q)) ∧ Below W.heap.size W w') := fun W => dfind1_any c r e x y z f v ai ni ci nx mo q W
      have hml : m < l.length := by rw [HL.out]; exact q3
      obtain ⟨x0, x1, x2, x3, x4, x5, x6, x7, x8, x9, x10⟩ := HK.out
      dsimp only at x0 x1 x2 x3 x4 x5 x6 x7 x8 x9 x10
      have HDC := Lib.hid hdc
      have HML := Lib.hid hml
      clear hd hdk hdc hml hcl
      by_cases hcq : c < q
      · have hmp : m < p := by
          rcases Nat.lt_or_ge m p with h | h
          · exact h
          · have := HP.out.2.2 m h HML.out
            rw [HDC.out] at this; omega
        rw [cmp_lt hcq] at HC
        clear hcq
        go_wp2_with fail
        refine (HC.out _).mono ?_
        rintro e' w1 ⟨rfl, hb1⟩
        have HB1 : Hid (Below w.heap.size w w1) := hbel.out.trans (hb1.mono hbel.out.size)
        clear hb1 x0 x1 x2 x3 x4 x5 x6 x7 x8 x9 x10
        go_wp2_with fail
        go_roundw
        case rel => exact ⟨m + 1, hi, by go_num, rfl, by omega, hhi, hin, HB1.out⟩
        case measure => simp [intOf]; omega
      · have hmp : p ≤ m := by
          rcases Nat.lt_or_ge m p with h | h
          · have := HP.out.2.1 m h
            rw [HDC.out] at this; omega
          · exact h
        have hge := cmp_ge hcq
        obtain ⟨R, hR⟩ : ∃ R, R = Lib.compareInt c q := ⟨_, rfl⟩
        rw [← hR] at HC hge
        have d1 : decide (R < 0) = false := decide_eq_false hge
        clear hcq hR hge
        go_wp2_with fail
        refine (HC.out _).mono ?_
        rintro e' w1 ⟨rfl, hb1⟩
        have HB1 : Hid (Below w.heap.size w w1) := hbel.out.trans (hb1.mono hbel.out.size)
        clear hb1 x0 x1 x2 x3 x4 x5 x6 x7 x8 x9 x10
        go_wp2_with fail
        go_roundw
        case rel => exact ⟨lo, m, rfl, by go_num, hlo, by omega, by omega, HB1.out⟩
        case measure => simp [intOf]; omega
    · obtain rfl : lo = p := by omega
      by_cases hln : lo < n
      · obtain ⟨b, off, rfl, hb, hcl⟩ := HR.out (by omega)
        obtain ⟨d, hd⟩ : ∃ d, d = det es lo := ⟨_, rfl⟩
        have hdk : d.1 = dat l lo := by rw [hd]; exact det_map HE.out lo
        have HK : Hid (DnAt wr b (off + lo * 11) d) := by rw [hd]; exact (hcl lo hln).next hbel.out hb
        obtain ⟨⟨c, r, e, ⟨x, y, z⟩, f, v, ni, nx, mo⟩, ai, ci⟩ := d
        have hdc : dC (dat l lo) = c := by rw [← hdk]; rfl
        have hTT : T = decide (c = q) := by
          rw [HT.out]
          unfold thereT
          rw [hdc]
          exact decide_eq_decide.2 ⟨fun h => h.2, fun h => ⟨by rw [HL.out]; exact hln, h⟩⟩
        have HC : Hid (∀ W, Calls Try.prog 34 #[(Go.Value.agg #[Go.Value.int Go.IntKind.i64 c, Go.Value.int Go.IntKind.i64 r, Go.Value.int Go.IntKind.i64 e, Go.Value.int Go.IntKind.i64 x, Go.Value.int Go.IntKind.i64 y, Go.Value.int Go.IntKind.i64 z, Go.Value.bool f, Go.Value.string v, Go.Value.slice ai ni ci, Go.Value.string nx, Go.Value.bool mo]), .int .i64 q] W fun e w' => e = .returned (.int .i64 (Lib.compareInt c q)) ∧ Below W.heap.size W w') := fun W => dfind1_any c r e x y z f v ai ni ci nx mo q W
        obtain ⟨R, hR⟩ : ∃ R, R = Lib.compareInt c q := ⟨_, rfl⟩
        rw [← hR] at HC
        have d1 : (R == 0) = T := by rw [hR, hTT]; exact cmp_zero
        obtain ⟨x0, x1, x2, x3, x4, x5, x6, x7, x8, x9, x10⟩ := HK.out
        dsimp only at x0 x1 x2 x3 x4 x5 x6 x7 x8 x9 x10
        clear hd hdk hdc hcl hTT hR
        go_wp2_with fail
        refine (HC.out _).mono ?_
        rintro e' w1 ⟨rfl, hb1⟩
        have HB1 : Hid (Below w.heap.size w w1) := hbel.out.trans (hb1.mono hbel.out.size)
        clear hb1 x0 x1 x2 x3 x4 x5 x6 x7 x8 x9 x10
        go_wp2_with fail
        go_ret2
        exact ⟨rfl, HB1.out⟩
      · have hTT : T = false := by
          rw [HT.out]
          unfold thereT
          exact decide_eq_false fun h => hln (by rw [← HL.out]; exact h.1)
        subst hTT
        have d1 : decide ((lo : Int) < (n : Int)) = false := decide_eq_false (by omega)
        go_wp2_with fail
        go_ret2
        exact ⟨rfl, hbel.out⟩

set_option maxRecDepth 100000 in
set_option maxHeartbeats 400000 in
theorem dfind_any (w : World) (v : Value) (l : List Dn) (q : Int) (p : Nat) (hv : Tab w v l) (hp : PosT l q p) (h8 : l.length ≤ 1000) :
    Calls Try.prog 26 #[v, .int .i64 q] w fun e w' => e = .returned (.tuple #[.int .i64 p, .bool (thereT l q p)]) ∧ Below w.heap.size w w' := by
  have HC : Hid (Calls Try.prog 33 #[v, .int .i64 q, .func (.func 34) #[] #[]] w fun e w' => e = .returned (.tuple #[.int .i64 p, .bool (thereT l q p)]) ∧ Below w.heap.size w w') := dsearch_any w v l q p hv hp h8
  obtain ⟨ao, cap, rfl⟩ := tab_slice hv
  generalize thereT l q p = T at HC ⊢
  generalize l.length = n at HC ⊢
  clear hv hp h8
  go_enter Try.func26, Try.ntmps26
  go_wp2_with fail
  refine HC.out.mono ?_
  rintro e w1 ⟨rfl, hb1⟩
  go_wp2_with fail
  go_ret2
  exact ⟨rfl, hb1⟩

end Go.Proofs.Ytdiabcdpnbhibaa
