/-
  The contract of dedup.Put, whole.
-/
import Derived.Test.YtdiabcdpnbhibaaDdCdPut
set_option linter.unusedVariables false
namespace Go.Proofs.Ytdiabcdpnbhibaa
open Go.RowKit

set_option maxHeartbeats 1000000 in
theorem fDPut : FDPut := by
  intro w v l c r e x y z f vv ai ni ci nx mo m er h hm
  have HR : ∀ W, Below w.heap.size w W → Calls Try.prog 11 #[v] W fun e w' => e = .returned (.bool (rightT l)) ∧ Below W.heap.size W w' := fun W hW => fDRight W v l (h.next hW)
  have HD : ∀ W, Calls Try.prog 23 #[(Go.Value.agg #[Go.Value.int Go.IntKind.i64 c, Go.Value.int Go.IntKind.i64 r, Go.Value.int Go.IntKind.i64 e, Go.Value.int Go.IntKind.i64 x, Go.Value.int Go.IntKind.i64 y, Go.Value.int Go.IntKind.i64 z, Go.Value.bool f, Go.Value.string vv, Go.Value.slice ai ni ci, Go.Value.string nx, Go.Value.bool mo])] W fun e' w' => e' = .returned (.bool (rowB (c, r, e, (x, y, z), f, vv, ni, nx, mo))) ∧ Below W.heap.size W w' := fun W => drow_any c r e x y z f vv ai ni ci nx mo W
  rcases hm with ⟨hbad, rfl, rfl⟩ | hm
  · exact dput_bad w c r e x y z f vv ai ni ci nx mo v _ _ hbad HR HD
  have h1 : rightT l = true := by rcases hm with h | h | h <;> exact h.1
  have h2 : rowB (c, r, e, (x, y, z), f, vv, ni, nx, mo) = true := by rcases hm with h | h | h <;> exact h.2.1
  rw [h1] at HR
  rw [h2] at HD
  obtain ⟨h8, hrows, hinc⟩ := right_parts h1
  have hrp : 0 < r := (row_spec h2).2.1.1
  obtain ⟨p, hp⟩ := pos_ex hinc c
  have HF : ∀ W, Below w.heap.size w W → Calls Try.prog 26 #[v, .int .i64 c] W fun e w' => e = .returned (.tuple #[.int .i64 p, .bool (thereT l c p)]) ∧ Below W.heap.size W w' := fun W hW => dfind_any W v l c p (h.next hW) hp (by omega)
  have hml : maxLen ≤ 9223372036854775807 := by decide
  have hpl := hp.1
  have hlen := put_len (d := (c, r, e, (x, y, z), f, vv, ni, nx, mo)) hinc
  have hsub : ∀ W (k m : Nat) (a : Option Addr) (c' : Nat) (ao : Option Addr) (n cap : Nat), v = .slice ao n cap → Below w.heap.size w W → k + m ≤ n → m ≤ c' → c' ≤ maxLen → (0 < m → ∀ b off, ao = some ⟨b, off, none⟩ → a = some ⟨b, off + k * 11, none⟩) → Tab W (.slice a m c') ((l.drop k).take m) := by
    intro W k m a c' ao n cap hv hW hk hmc hc ha
    obtain ⟨es, h5, h6⟩ := h.next hW
    rw [hv] at h5
    refine ⟨_, tabV_sub h5 k m hk a c' hmc hc ha, ?_⟩
    rw [← h6]; simp [List.map_take, List.map_drop]
  obtain ⟨ao, n, cap, es, rfl, hl, hle, hmx, hn, hcell, hmap⟩ := h.opened
  cases hT : thereT l c p
  · rw [hT] at HF
    have hrow := pos_none hinc hp hT
    have hq0 : reqT l c = 0 := req_none hrow
    have hlen' : (putT l (c, r, e, (x, y, z), f, vv, ni, nx, mo)).length = l.length + 1 := by
      rw [hlen]
      have : rowT l (dC (c, r, e, (x, y, z), f, vv, ni, nx, mo)) = none := hrow
      rw [this]; rfl
    rcases hm with ⟨_, _, h3, _⟩ | ⟨_, _, h3, h4, rfl, rfl⟩ | ⟨_, _, h3, h4, rfl, rfl⟩
    · have h5 : r ≤ reqT l c := h3
      omega
    · obtain ⟨b, off, rfl, hb, hcl⟩ := hcell (by omega)
      exact dput_full w c r e x y z f vv ai ni ci nx mo b off n cap p (show n = 8 by omega) (by omega) hle (by omega) HR HD HF
    · have hspl := put_no (d := (c, r, e, (x, y, z), f, vv, ni, nx, mo)) hinc hp hT
      have hN : ∀ u ∈ l.take p ++ [(c, r, e, (x, y, z), f, vv, ni, nx, mo)] ++ l.drop p, dN u = 0 := by
        rw [← hspl]
        exact fun u hu => (row_spec (put_rows hrows h2 u hu)).2.2
      rw [hspl]
      refine dput_new w c r e x y z f vv ai ni ci nx mo ao n cap p l (by omega) hle (by omega) (by omega) hml hmx ?_ HR HD HF hN ?_ ?_
      · rcases Nat.eq_zero_or_pos n with h0 | h0
        · cases ao with
          | none => exact .inl ⟨rfl, h0⟩
          | some ad => exact .inr (.inl ⟨h0, ad, rfl⟩)
        · obtain ⟨b, off, e1, _⟩ := hcell h0
          exact .inr (.inr ⟨b, off, e1⟩)
      · intro W a k hW hk hkm ha
        have := hsub W 0 p a k ao n cap rfl hW (by omega) hk hkm (fun hp0 b off hb => by rw [ha hp0, hb]; simp)
        simpa using this
      · intro W a m k hW hm hk hkm ha
        have := hsub W p m a k ao n cap rfl hW (by omega) hk hkm ha
        rwa [List.take_of_length_le (by rw [List.length_drop]; omega)] at this
  · rw [hT] at HF
    obtain ⟨hpl2, hpc, hrow⟩ := pos_there hp hT
    have hq : reqT l c = dR (dat l p) := req_at hrow
    have hlen' : (putT l (c, r, e, (x, y, z), f, vv, ni, nx, mo)).length = l.length := by
      rw [hlen]
      have : rowT l (dC (c, r, e, (x, y, z), f, vv, ni, nx, mo)) = some (dat l p) := hrow
      rw [this]; rfl
    obtain ⟨b, off, rfl, hb, hcl⟩ := hcell (by omega)
    have HC : ∀ W, Below w.heap.size w W → W.cell? ⟨b, off + p * 11 + 1, none⟩ = some (.int .i64 (dR (dat l p))) := by
      intro W hW
      have := ((hcl p (by omega)).next hW hb).2.1
      rw [det_r hmap] at this
      exact this
    rcases hm with ⟨_, _, h3, rfl, rfl⟩ | ⟨_, _, h3, h4, _, _⟩ | ⟨_, _, h3, h4, rfl, rfl⟩
    · have h5 : r ≤ reqT l c := h3
      exact dput_late w c r e x y z f vv ai ni ci nx mo b off n cap p _ (by omega) hle (by omega) (by omega) HR HD HF hb HC
    · omega
    · have h5 : reqT l c < r := h3
      have hspl := put_yes (d := (c, r, e, (x, y, z), f, vv, ni, nx, mo)) hinc hp hpl2 hpc
      have hN : ∀ u ∈ l.take p ++ [(c, r, e, (x, y, z), f, vv, ni, nx, mo)] ++ l.drop (p + 1), dN u = 0 := by
        rw [← hspl]
        exact fun u hu => (row_spec (put_rows hrows h2 u hu)).2.2
      rw [hspl]
      refine dput_over w c r e x y z f vv ai ni ci nx mo b off n cap p _ (by omega) hle (by omega) l (by omega) hml hmx (by omega) HR HD HF hb HC hN ?_ ?_
      · intro W a k hW hk hkm ha
        have := hsub W 0 p a k _ n cap rfl hW (by omega) hk hkm (fun hp0 b off hb => by rw [ha hp0, hb]; simp)
        simpa using this
      · intro W a m k hW hm hk hkm ha
        have := hsub W (p + 1) m a k _ n cap rfl hW (by omega) hk hkm ha
        rwa [List.take_of_length_le (by rw [List.length_drop]; omega)] at this

end Go.Proofs.Ytdiabcdpnbhibaa
