/-
  The order of stamps is one; StampChain for any three.
-/
import Derived.Test.YtccieoofjopbkaaDoorStChainWalk
namespace Go.Proofs.YtccieoofjopbkaaDoor
open Go.RowKit

theorem ge_trans {a1 a2 a3 b1 b2 b3 c1 c2 c3 : Int} (h1 : befB a1 a2 a3 b1 b2 b3 = false) (h2 : befB b1 b2 b3 c1 c2 c3 = false) : befB a1 a2 a3 c1 c2 c3 = false := by
  unfold befB at *
  revert h1 h2
  (repeat' split) <;> simp <;> omega
theorem cmp_ge {a1 a2 a3 b1 b2 b3 : Int} (h : befB a1 a2 a3 b1 b2 b3 = false) : 0 ≤ cmpI a1 a2 a3 b1 b2 b3 := by
  rcases cmp_cases a1 a2 a3 b1 b2 b3 with ⟨h1, _, _⟩ | ⟨_, _, h3⟩ | ⟨_, _, h3, _⟩
  · rw [h] at h1; cases h1
  · omega
  · omega
theorem ge_of_le {a1 a2 a3 b1 b2 b3 : Int} (h : cmpI a1 a2 a3 b1 b2 b3 ≤ 0) : befB b1 b2 b3 a1 a2 a3 = false := by
  rcases cmp_cases a1 a2 a3 b1 b2 b3 with ⟨_, h2, _⟩ | ⟨_, _, h3⟩ | ⟨_, h2, _⟩
  · exact h2
  · omega
  · exact h2
theorem le_of_ge {a1 a2 a3 b1 b2 b3 : Int} (h : befB b1 b2 b3 a1 a2 a3 = false) : ¬ 0 < cmpI a1 a2 a3 b1 b2 b3 := by
  rcases cmp_cases a1 a2 a3 b1 b2 b3 with ⟨_, _, h3⟩ | ⟨_, h2, _⟩ | ⟨_, _, h3, _⟩
  · omega
  · rw [h] at h2; cases h2
  · omega
theorem lat_ex (a1 a2 a3 b1 b2 b3 : Int) : ∃ m1 m2 m3, LatIs a1 a2 a3 b1 b2 b3 m1 m2 m3 := by
  cases h : befB b1 b2 b3 a1 a2 a3
  · exact ⟨_, _, _, .inr ⟨h, rfl, rfl, rfl⟩⟩
  · exact ⟨_, _, _, .inl ⟨h, rfl, rfl, rfl⟩⟩
theorem lat_ge {a1 a2 a3 b1 b2 b3 m1 m2 m3 : Int} (h : LatIs a1 a2 a3 b1 b2 b3 m1 m2 m3) : befB m1 m2 m3 a1 a2 a3 = false ∧ befB m1 m2 m3 b1 b2 b3 = false := by
  rcases h with ⟨h, rfl, rfl, rfl⟩ | ⟨h, rfl, rfl, rfl⟩
  · exact ⟨bef_irr _ _ _, bef_asym h⟩
  · exact ⟨h, bef_irr _ _ _⟩
theorem same_refl (a1 a2 a3 : Int) : sameB a1 a2 a3 a1 a2 a3 = true := by simp [sameB]
theorem zero_same (a1 a2 a3 b1 b2 b3 : Int) : (cmpI a1 a2 a3 b1 b2 b3 == 0) = sameB a1 a2 a3 b1 b2 b3 := by
  rcases cmp_cases a1 a2 a3 b1 b2 b3 with ⟨h1, _, h3⟩ | ⟨_, h1, h3⟩ | ⟨_, _, h3, rfl, rfl, rfl⟩
  · have hs : sameB a1 a2 a3 b1 b2 b3 = false := by
      unfold sameB
      rw [decide_eq_false_iff_not]
      rintro ⟨rfl, rfl, rfl⟩
      rw [bef_irr] at h1; cases h1
    rw [hs, h3]; rfl
  · have hs : sameB a1 a2 a3 b1 b2 b3 = false := by
      unfold sameB
      rw [decide_eq_false_iff_not]
      rintro ⟨rfl, rfl, rfl⟩
      rw [bef_irr] at h1; cases h1
    rw [hs, h3]; rfl
  · rw [same_refl, h3]; rfl

theorem stampChain_walk (w : World) (a1 a2 a3 b1 b2 b3 c1 c2 c3 : Int) :
    Calls Tryd.prog 8 #[(Go.Value.agg #[Go.Value.int Go.IntKind.i64 a1, Go.Value.int Go.IntKind.i64 a2, Go.Value.int Go.IntKind.i64 a3]), (Go.Value.agg #[Go.Value.int Go.IntKind.i64 b1, Go.Value.int Go.IntKind.i64 b2, Go.Value.int Go.IntKind.i64 b3]), (Go.Value.agg #[Go.Value.int Go.IntKind.i64 c1, Go.Value.int Go.IntKind.i64 c2, Go.Value.int Go.IntKind.i64 c3])] w fun e w' => e = .returned (.bool true) ∧ Below w.heap.size w w' := by
  obtain ⟨m1, m2, m3, hm⟩ := lat_ex a1 a2 a3 b1 b2 b3
  obtain ⟨l1, l2, l3, hl⟩ := lat_ex m1 m2 m3 c1 c2 c3
  have gm := lat_ge hm
  have gl := lat_ge hl
  refine chain_front3 w a1 a2 a3 b1 b2 b3 c1 c2 c3 m1 m2 m3 l1 l2 l3 (cmpI a1 a2 a3 b1 b2 b3) (cmpI b1 b2 b3 c1 c2 c3) (cmpI a1 a2 a3 c1 c2 c3) (sameB a1 a2 a3 b1 b2 b3) (sameB l1 l2 l3 a1 a2 a3) (sameB l1 l2 l3 b1 b2 b3) (sameB l1 l2 l3 c1 c2 c3)
    (cmp_bd _ _ _ _ _ _) (zero_same _ _ _ _ _ _) (fun h1 h2 => le_of_ge (ge_trans (ge_of_le h2) (ge_of_le h1))) rfl rfl (fun x1 x2 x3 y1 y2 y3 W => Compare_any x1 x2 x3 y1 y2 y3 W) (fun W => ?_) (fun W => Compare_any _ _ _ _ _ _ W) (fun x1 x2 x3 y1 y2 y3 r1 r2 r3 W h => Later_is x1 x2 x3 y1 y2 y3 r1 r2 r3 W h) hm hl
    (cmp_ge (ge_trans gl.1 gm.1)) (cmp_ge (ge_trans gl.1 gm.2)) (cmp_ge gl.2) ?_ (fun W => eq_stamp _ _ _ _ _ _ W) (fun W => eq_stamp _ _ _ _ _ _ W) (fun W => eq_stamp _ _ _ _ _ _ W) (fun W => eq_stamp _ _ _ _ _ _ W)
  · rw [← cmp_neg]; exact Compare_any _ _ _ _ _ _ W
  · have key : sameB l1 l2 l3 a1 a2 a3 = true ∨ sameB l1 l2 l3 b1 b2 b3 = true ∨ sameB l1 l2 l3 c1 c2 c3 = true := by
      rcases hl with ⟨_, rfl, rfl, rfl⟩ | ⟨_, rfl, rfl, rfl⟩
      · rcases hm with ⟨_, rfl, rfl, rfl⟩ | ⟨_, rfl, rfl, rfl⟩
        · exact .inl (same_refl _ _ _)
        · exact .inr (.inl (same_refl _ _ _))
      · exact .inr (.inr (same_refl _ _ _))
    cases h1 : sameB l1 l2 l3 a1 a2 a3
    · cases h2 : sameB l1 l2 l3 b1 b2 b3
      · rw [h1, h2] at key
        rcases key with h | h | h
        · cases h
        · cases h
        · exact .inr (.inr ⟨rfl, rfl, h⟩)
      · exact .inr (.inl ⟨rfl, rfl⟩)
    · exact .inl rfl

end Go.Proofs.YtccieoofjopbkaaDoor
