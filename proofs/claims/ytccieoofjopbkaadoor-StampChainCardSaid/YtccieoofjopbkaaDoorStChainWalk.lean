/-
  The walk of StampChain.
-/
import Derived.Test.YtccieoofjopbkaaDoorStChainBase
import Derived.Deep.DeepCutAuto
namespace Go.Proofs.YtccieoofjopbkaaDoor
open Go.RowKit

set_option maxRecDepth 100000 in
set_option maxHeartbeats 4000000 in
theorem chain_front3 (w : World) (a1 a2 a3 b1 b2 b3 c1 c2 c3 m1 m2 m3 l1 l2 l3 n k j : Int) (dab da db dc : Bool)
    (hn : -1 ≤ n ∧ n ≤ 1) (hq : (n == 0) = dab) (hg : n ≤ 0 → k ≤ 0 → ¬ 0 < j)
    (Hn : Hid (cmpI a1 a2 a3 b1 b2 b3 = n)) (Hk : Hid (cmpI b1 b2 b3 c1 c2 c3 = k))
    (HC : Hid (∀ x1 x2 x3 y1 y2 y3 W, Calls Tryd.prog 10 #[(Go.Value.agg #[Go.Value.int Go.IntKind.i64 x1, Go.Value.int Go.IntKind.i64 x2, Go.Value.int Go.IntKind.i64 x3]), (Go.Value.agg #[Go.Value.int Go.IntKind.i64 y1, Go.Value.int Go.IntKind.i64 y2, Go.Value.int Go.IntKind.i64 y3])] W fun e w' => e = .returned (.int .i64 (cmpI x1 x2 x3 y1 y2 y3)) ∧ Below W.heap.size W w'))
    (Hba : Hid (∀ W, Calls Tryd.prog 10 #[(Go.Value.agg #[Go.Value.int Go.IntKind.i64 b1, Go.Value.int Go.IntKind.i64 b2, Go.Value.int Go.IntKind.i64 b3]), (Go.Value.agg #[Go.Value.int Go.IntKind.i64 a1, Go.Value.int Go.IntKind.i64 a2, Go.Value.int Go.IntKind.i64 a3])] W fun e w' => e = .returned (.int .i64 (-n)) ∧ Below W.heap.size W w'))
    (Hac : Hid (∀ W, Calls Tryd.prog 10 #[(Go.Value.agg #[Go.Value.int Go.IntKind.i64 a1, Go.Value.int Go.IntKind.i64 a2, Go.Value.int Go.IntKind.i64 a3]), (Go.Value.agg #[Go.Value.int Go.IntKind.i64 c1, Go.Value.int Go.IntKind.i64 c2, Go.Value.int Go.IntKind.i64 c3])] W fun e w' => e = .returned (.int .i64 j) ∧ Below W.heap.size W w'))
    (HL : Hid (∀ x1 x2 x3 y1 y2 y3 r1 r2 r3 W, LatIs x1 x2 x3 y1 y2 y3 r1 r2 r3 → Calls Tryd.prog 11 #[(Go.Value.agg #[Go.Value.int Go.IntKind.i64 x1, Go.Value.int Go.IntKind.i64 x2, Go.Value.int Go.IntKind.i64 x3]), (Go.Value.agg #[Go.Value.int Go.IntKind.i64 y1, Go.Value.int Go.IntKind.i64 y2, Go.Value.int Go.IntKind.i64 y3])] W fun e w' => e = .returned (Go.Value.agg #[Go.Value.int Go.IntKind.i64 r1, Go.Value.int Go.IntKind.i64 r2, Go.Value.int Go.IntKind.i64 r3]) ∧ Below W.heap.size W w'))
    (hlm : LatIs a1 a2 a3 b1 b2 b3 m1 m2 m3) (hll : LatIs m1 m2 m3 c1 c2 c3 l1 l2 l3)
    (hna : 0 ≤ cmpI l1 l2 l3 a1 a2 a3) (hnb : 0 ≤ cmpI l1 l2 l3 b1 b2 b3) (hnc : 0 ≤ cmpI l1 l2 l3 c1 c2 c3)
    (hd : da = true ∨ (da = false ∧ db = true) ∨ (da = false ∧ db = false ∧ dc = true))
    (HEA : Hid (∀ W, (Op.equalIn 10000 23 (Go.Value.agg #[Go.Value.int Go.IntKind.i64 l1, Go.Value.int Go.IntKind.i64 l2, Go.Value.int Go.IntKind.i64 l3]) (Go.Value.agg #[Go.Value.int Go.IntKind.i64 a1, Go.Value.int Go.IntKind.i64 a2, Go.Value.int Go.IntKind.i64 a3])).run Tryd.prog W = .ok da W)) (HEB : Hid (∀ W, (Op.equalIn 10000 23 (Go.Value.agg #[Go.Value.int Go.IntKind.i64 l1, Go.Value.int Go.IntKind.i64 l2, Go.Value.int Go.IntKind.i64 l3]) (Go.Value.agg #[Go.Value.int Go.IntKind.i64 b1, Go.Value.int Go.IntKind.i64 b2, Go.Value.int Go.IntKind.i64 b3])).run Tryd.prog W = .ok db W)) (HEC : Hid (∀ W, (Op.equalIn 10000 23 (Go.Value.agg #[Go.Value.int Go.IntKind.i64 l1, Go.Value.int Go.IntKind.i64 l2, Go.Value.int Go.IntKind.i64 l3]) (Go.Value.agg #[Go.Value.int Go.IntKind.i64 c1, Go.Value.int Go.IntKind.i64 c2, Go.Value.int Go.IntKind.i64 c3])).run Tryd.prog W = .ok dc W))
    (heab : ∀ W, (Op.equalIn 10000 23 (Go.Value.agg #[Go.Value.int Go.IntKind.i64 a1, Go.Value.int Go.IntKind.i64 a2, Go.Value.int Go.IntKind.i64 a3]) (Go.Value.agg #[Go.Value.int Go.IntKind.i64 b1, Go.Value.int Go.IntKind.i64 b2, Go.Value.int Go.IntKind.i64 b3])).run Tryd.prog W = .ok dab W) :
    Calls Tryd.prog 8 #[(Go.Value.agg #[Go.Value.int Go.IntKind.i64 a1, Go.Value.int Go.IntKind.i64 a2, Go.Value.int Go.IntKind.i64 a3]), (Go.Value.agg #[Go.Value.int Go.IntKind.i64 b1, Go.Value.int Go.IntKind.i64 b2, Go.Value.int Go.IntKind.i64 b3]), (Go.Value.agg #[Go.Value.int Go.IntKind.i64 c1, Go.Value.int Go.IntKind.i64 c2, Go.Value.int Go.IntKind.i64 c3])] w fun e w' => e = .returned (.bool true) ∧ Below w.heap.size w w' := by
  have HAW : Hid (∀ W, Calls Tryd.prog 17 #[] W fun e w' => e = .returned (.bool true) ∧ Below W.heap.size W w') := fun W => awake_any W
  have HEAB := Lib.hid heab
  have HQ := Lib.hid hq
  have HG := Lib.hid hg
  clear heab hq hg
  go_enter Tryd.func8, Tryd.ntmps8
  go_wp2_with fail
  refine wp_region_calm (Three w a1 a2 a3 b1 b2 b3 c1 c2 c3) (by kernel_rfl) (by kernel_rfl) (Three.new w a1 a2 a3 b1 b2 b3 c1 c2 c3).drew ?_
  repeat (refine wpQuiet_step (fun K hK => ?_); go_simp; first | (refine hK _ ?_; clear hK K) | (apply Exists.intro; refine ⟨fun wc hwc => ?_, hK _ ?_⟩; (focus (first | (first | (go_at_call 10; refine (HC.out _ _ _ _ _ _ _).mono ?_; rintro e w1 ⟨rfl, hb1⟩; exact ⟨rfl, hwc.next hb1⟩)) | (((obtain ⟨_, hx, hy, hz⟩ := hwc; obtain ⟨x1, x2, x3⟩ := hx.cell; obtain ⟨y1, y2, y3⟩ := hy.cell; obtain ⟨z1, z2, z3⟩ := hz.cell; clear hx hy hz)); go_simp; done) | (((obtain ⟨_, hx, hy, hz⟩ := hwc; obtain ⟨x1, x2, x3⟩ := hx.cell; obtain ⟨y1, y2, y3⟩ := hy.cell; obtain ⟨z1, z2, z3⟩ := hz.cell; clear hx hy hz)); go_simp; exact rfl))); clear hK K))
  refine wpQuiet_nil ?_
  intro wc hwc
  rw [Hn.out, Hk.out]
  have HW := Lib.hid hwc
  clear hwc
  obtain ⟨x1, x2, x3⟩ := HW.out.2.1.cell
  obtain ⟨y1, y2, y3⟩ := HW.out.2.2.1.cell
  go_wp2_with fail
  refine (Hba.out _).mono ?_
  rintro e w2 ⟨rfl, hb2⟩
  clear x1 x2 x3 y1 y2 y3
  have HW2 := Lib.hid (HW.out.next hb2)
  clear hb2 HW
  obtain ⟨x1, x2, x3⟩ := HW2.out.2.1.cell
  obtain ⟨y1, y2, y3⟩ := HW2.out.2.2.1.cell
  obtain ⟨z1, z2, z3⟩ := HW2.out.2.2.2.cell
  have q1 := IntWalk.i64_in (-(-n)) (by omega)
  have q2 : (n == -(-n)) = true := by rw [beq_iff_eq]; omega
  have q3 := HQ.out
  have q4 := HEAB.out
  go_upto_region 4 with (fail)
  clear q1 q2 q3 q4
  go_cut [41] (fun s41 wx => s41 = .bool false ∧ Hid (Three w a1 a2 a3 b1 b2 b3 c1 c2 c3 wx))
  case first =>
    by_cases h1 : n ≤ 0
    · by_cases h2 : k ≤ 0
      · have hj := HG.out h1 h2
        have hjd : decide (0 < j) = false := by simpa using hj
        go_wp2_with fail
        refine (Hac.out _).mono ?_
        rintro e w3 ⟨rfl, hb3⟩
        have HW3 := Lib.hid (HW2.out.next hb3)
        clear hb3
        go_wp2_with fail
        go_meet
        exact ⟨rfl, HW3⟩
      · have hkd : decide (k ≤ 0) = false := by simpa using h2
        go_wp2_with fail
        go_meet
        exact ⟨rfl, HW2⟩
    · have hnd : decide (n ≤ 0) = false := by simpa using h1
      go_wp2_with fail
      go_meet
      exact ⟨rfl, HW2⟩
  case rest =>
    obtain ⟨rfl, HW3⟩ := hcut
    go_upto_region 6 with (fail)
    go_cut [9] (fun s9 wx => ∃ g : Nat, s9 = .pointer (some ⟨g, 0, none⟩) ∧ Hid (Three w a1 a2 a3 b1 b2 b3 c1 c2 c3 wx ∧ Box wx g l1 l2 l3))
    case first =>
      have HS0 : S9 w a1 a2 a3 b1 b2 b3 c1 c2 c3 wc.drew := .of HW3.out.drew
      go_region_held3 (fun W => W.cell? ⟨w.heap.size, 0, none⟩ = some (.int .i64 a1) ∧ W.cell? ⟨w.heap.size, 1, none⟩ = some (.int .i64 a2) ∧ W.cell? ⟨w.heap.size, 2, none⟩ = some (.int .i64 a3) ∧ W.cell? ⟨(w.heap.size + 1), 0, none⟩ = some (.int .i64 b1) ∧ W.cell? ⟨(w.heap.size + 1), 1, none⟩ = some (.int .i64 b2) ∧ W.cell? ⟨(w.heap.size + 1), 2, none⟩ = some (.int .i64 b3) ∧ W.cell? ⟨(w.heap.size + 1 + 1), 0, none⟩ = some (.int .i64 c1) ∧ W.cell? ⟨(w.heap.size + 1 + 1), 1, none⟩ = some (.int .i64 c2) ∧ W.cell? ⟨(w.heap.size + 1 + 1), 2, none⟩ = some (.int .i64 c3) ∧ Three w a1 a2 a3 b1 b2 b3 c1 c2 c3 W) ((show S9 w a1 a2 a3 b1 b2 b3 c1 c2 c3 _; first | exact HS0 | exact hs9 | exact S9.alloc hs9 _ | exact S9.alloc HS0 _ | exact S9.set (S9.set (S9.set hs9 hz.1 _ rfl _) hz.1 _ rfl _) hz.1 _ rfl _)) (first | (go_at_call 11; refine (HL.out _ _ _ _ _ _ _ _ _ _ (by assumption)).mono ?_; rintro e w1 ⟨rfl, hb1⟩; refine S9.use (w := w) a1 a2 a3 b1 b2 b3 c1 c2 c3 hb1 ?_ ?_; (first | exact HS0 | exact hs9 | exact S9.alloc hs9 _ | exact S9.alloc HS0 _); intro hs9'; (first | (refine Zero.use (w := w) a1 a2 a3 b1 b2 b3 c1 c2 c3 hb1 ?_ ?_; (first | exact HS0 | exact hs9); intro hz; obtain ⟨g1, g2, g3, g4⟩ := hz.facts; (try dsimp only [World.drew] at g1 g2 g3 g4)) | (refine Zero.useD (w := w) a1 a2 a3 b1 b2 b3 c1 c2 c3 hb1 ?_ ?_; (exact HS0); intro hz; obtain ⟨g1, g2, g3, g4⟩ := hz.facts) | (replace hz := Zero.over hz hb1; clear g1 g2 g3 g4; obtain ⟨g1, g2, g3, g4⟩ := hz.facts; (try dsimp only [World.drew] at g1 g2 g3 g4)) | skip); (try clear hs9); have hs9 := hs9'; clear hs9'))
      all_goals (go_wp2_with fail; go_meet; first | exact ⟨_, rfl, hs9.three.alloc _, Box.new _ _ _ _⟩ | exact ⟨_, rfl, (S9.set (S9.set (S9.set hs9 hz.1 _ rfl _) hz.1 _ rfl _) hz.1 _ rfl _).three, hz.put _ _ _⟩)
    case rest =>
      obtain ⟨g, rfl, HG1⟩ := hcut
      obtain ⟨z1, z2, z3⟩ := HG1.out.2.cell
      obtain ⟨x1, x2, x3⟩ := HG1.out.1.2.1.cell
      go_wp2_with fail
      refine (HC.out _ _ _ _ _ _ _).mono ?_
      rintro e w4 ⟨rfl, hb4⟩
      clear z1 z2 z3 x1 x2 x3
      have HG2 : Hid (Three w a1 a2 a3 b1 b2 b3 c1 c2 c3 w4 ∧ Box w4 g l1 l2 l3) := ⟨HG1.out.1.next hb4, HG1.out.2.over hb4⟩
      clear HG1 hb4
      obtain ⟨z1, z2, z3⟩ := HG2.out.2.cell
      obtain ⟨x1, x2, x3⟩ := HG2.out.1.2.2.1.cell
      go_wp2_with fail
      refine (HC.out _ _ _ _ _ _ _).mono ?_
      rintro e w5 ⟨rfl, hb5⟩
      clear z1 z2 z3 x1 x2 x3
      have HG3 : Hid (Three w a1 a2 a3 b1 b2 b3 c1 c2 c3 w5 ∧ Box w5 g l1 l2 l3) := ⟨HG2.out.1.next hb5, HG2.out.2.over hb5⟩
      clear HG2 hb5
      obtain ⟨z1, z2, z3⟩ := HG3.out.2.cell
      obtain ⟨x1, x2, x3⟩ := HG3.out.1.2.2.2.cell
      go_wp2_with fail
      refine (HC.out _ _ _ _ _ _ _).mono ?_
      rintro e w6 ⟨rfl, hb6⟩
      clear z1 z2 z3 x1 x2 x3
      have HG4 : Hid (Three w a1 a2 a3 b1 b2 b3 c1 c2 c3 w6 ∧ Box w6 g l1 l2 l3) := ⟨HG3.out.1.next hb6, HG3.out.2.over hb6⟩
      clear HG3 hb6
      obtain ⟨z1, z2, z3⟩ := HG4.out.2.cell
      obtain ⟨x1, x2, x3⟩ := HG4.out.1.2.1.cell
      obtain ⟨y1, y2, y3⟩ := HG4.out.1.2.2.1.cell
      obtain ⟨u1, u2, u3⟩ := HG4.out.1.2.2.2.cell
      have qea := HEA.out
      have qeb := HEB.out
      have qec := HEC.out
      rcases hd with rfl | ⟨rfl, rfl⟩ | ⟨rfl, rfl, rfl⟩
      all_goals
        go_wp2_with fail
        refine (HAW.out _).mono ?_
        rintro e w7 ⟨rfl, hb7⟩
        have hbb := HG4.out.1.1.trans (hb7.mono HG4.out.1.1.size)
        clear hb7 z1 z2 z3 x1 x2 x3 y1 y2 y3 u1 u2 u3 qea qeb qec
        go_wp2_with fail
        go_ret
        exact ⟨rfl, hbb⟩

end Go.Proofs.YtccieoofjopbkaaDoor
