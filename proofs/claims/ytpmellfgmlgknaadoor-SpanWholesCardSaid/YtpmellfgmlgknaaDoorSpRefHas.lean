/-
  The contract of the document's Has.
-/
import Derived.Test.YtpmellfgmlgknaaDoorSpRefRight
set_option linter.unusedVariables false
namespace Go.Proofs.YtpmellfgmlgknaaDoor
open Go.RowKit

theorem spR_size {s : Spn} (h : spR s = true) : s.1.size ≤ 16 ∧ s.2.size ≤ 16 := by
  obtain ⟨h1, h2⟩ := spR_spec h
  refine ⟨?_, ?_⟩
  · rcases h1 with h | h
    · omega
    · exact (right_size h).2
  · rcases h2 with h | h
    · omega
    · exact (right_size h.1).2

set_option maxRecDepth 100000 in
set_option maxHeartbeats 400000 in
theorem spRefHas_any (lo hi k : ByteArray) (w : World) : Calls Tryd.prog 13 #[(Go.Value.agg #[Go.Value.string lo, Go.Value.string hi]), .string k] w fun e w' => e = .returned (.bool (spHas (lo, hi) k)) ∧ Below w.heap.size w w' := by
  obtain ⟨p, hp⟩ : ∃ p, p = spR (lo, hi) := ⟨_, rfl⟩
  obtain ⟨q, hq⟩ : ∃ q, q = Ky.right k := ⟨_, rfl⟩
  obtain ⟨r, hr⟩ : ∃ r, r = inR k lo hi := ⟨_, rfl⟩
  have HP : Hid (∀ W, Calls Tryd.prog 11 #[(Go.Value.agg #[Go.Value.string lo, Go.Value.string hi])] W fun e w' => e = .returned (.bool p) ∧ Below W.heap.size W w') := fun W => by rw [hp]; exact spRefRight_any lo hi W
  have HQ : Hid (∀ W, Calls Tryd.prog 23 #[.string k] W fun e w' => e = .returned (.bool q) ∧ Below W.heap.size W w') := fun W => by rw [hq]; exact (kRefRight_any k W).mono fun e w' h => ⟨h.1, h.2 ▸ Below.refl _ _⟩
  have HR : Hid (p = true → q = true → ∀ W, Calls Tryd.prog 29 #[.string k, .string lo, .string hi] W fun e w' => e = .returned (.bool r) ∧ Below W.heap.size W w') := fun h1 h2 W => by
    have h3 := right_size (hq ▸ h2)
    have h4 := spR_size (hp ▸ h1)
    dsimp only at h4
    rw [hr]
    exact refIn_any k lo hi W (by omega) (by omega) (by omega)
  have HX : Hid (spHas (lo, hi) k = (p && (q && r))) := by show _ = _; rw [hp, hq, hr]; rfl
  clear hp hq hr
  cases p
  · clear HR
    go_enter Tryd.func13, Tryd.ntmps13
    go_wp2_with fail
    refine (HP.out _).mono ?_
    rintro e w1 ⟨rfl, hb1⟩
    obtain ⟨H1, hz1⟩ := P1_next hb1
    go_wp2_with fail
    go_ret
    exact ⟨by rw [HX.out]; rfl, hz1⟩
  · have HS := Lib.hid (HR.out rfl)
    clear HR
    cases q
    · clear HS
      go_enter Tryd.func13, Tryd.ntmps13
      go_wp2_with fail
      refine (HP.out _).mono ?_
      rintro e w1 ⟨rfl, hb1⟩
      obtain ⟨H1, hz1⟩ := P1_next hb1
      obtain ⟨hx1, hy1⟩ := H1.cell
      go_wp2_with fail
      refine (HQ.out _).mono ?_
      rintro e w2 ⟨rfl, hb2⟩
      go_wp2_with fail
      go_ret
      exact ⟨by rw [HX.out]; rfl, hz1.trans (hb2.mono hz1.size)⟩
    · have HT := Lib.hid (HS.out rfl)
      clear HS
      go_enter Tryd.func13, Tryd.ntmps13
      go_wp2_with fail
      refine (HP.out _).mono ?_
      rintro e w1 ⟨rfl, hb1⟩
      obtain ⟨H1, hz1⟩ := P1_next hb1
      obtain ⟨hx1, hy1⟩ := H1.cell
      go_wp2_with fail
      refine (HQ.out _).mono ?_
      rintro e w2 ⟨rfl, hb2⟩
      have H2 := H1.over hb2
      have hz2 := hz1.trans (hb2.mono hz1.size)
      obtain ⟨hx2, hy2⟩ := H2.cell
      go_wp2_with fail
      refine (HT.out _).mono ?_
      rintro e w3 ⟨rfl, hb3⟩
      go_wp2_with fail
      go_ret
      exact ⟨by rw [HX.out]; rfl, hz2.trans (hb3.mono hz2.size)⟩

end Go.Proofs.YtpmellfgmlgknaaDoor
