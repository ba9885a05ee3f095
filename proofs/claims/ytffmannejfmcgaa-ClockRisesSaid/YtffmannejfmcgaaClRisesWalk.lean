/-
  The walk of ClockRises.
-/
import Derived.Test.YtffmannejfmcgaaClRisesBase
set_option linter.unusedVariables false
namespace Go.Proofs.Ytffmannejfmcgaa
open Go.RowKit

set_option maxRecDepth 100000 in
set_option maxHeartbeats 400000 in
theorem clockRises_no (w : World) (n : Int) (o : Option Addr) (len cap : Nat) (h : inB n 255 = false) : Calls Try.prog 6 #[.int .i64 n, .slice o len cap] w fun e w' => e = .returned (.bool true) ∧ Below w.heap.size w w' := by
  have HAW : Hid (∀ W, Calls Try.prog 12 #[] W fun e w' => e = .returned (.bool true) ∧ Below W.heap.size W w') := fun W => awake_any W
  have HN : Hid (∀ W, Calls Try.prog 18 #[.int .i64 n] W fun e w' => e = .returned (.tuple #[(Go.Value.agg #[Go.Value.int Go.IntKind.i64 0, Go.Value.int Go.IntKind.i64 0, Go.Value.int Go.IntKind.i64 0]), .int .i64 1]) ∧ Below W.heap.size W w') := fun W => New_no n W h
  clear h
  go_enter Try.func6, Try.ntmps6
  go_wp2_with fail
  refine (HN.out _).mono ?_
  rintro e w1 ⟨rfl, hb1⟩
  go_wp2_with fail
  refine (HAW.out _).mono ?_
  rintro e w2 ⟨rfl, hb2⟩
  go_wp2_with fail
  go_ret
  exact ⟨rfl, (hb1.alloc hb1.size _).trans (hb2.mono (by have := hb1.size; simp; omega))⟩

set_option maxRecDepth 100000 in
set_option maxHeartbeats 4000000 in
theorem clockRises_yes (w : World) (n : Int) (o : Option Addr) (len cap : Nat) (T : Nat → Int × Bool × Int × Int × Int) (hT : IsTicks w o len T) (h : inB n 255 = true) : Calls Try.prog 6 #[.int .i64 n, .slice o len cap] w fun e w' => e = .returned (.bool true) ∧ Below w.heap.size w w' := by
  have HAW : Hid (∀ W, Calls Try.prog 12 #[] W fun e w' => e = .returned (.bool true) ∧ Below W.heap.size W w') := fun W => awake_any W
  have HN : Hid (∀ W, Calls Try.prog 18 #[.int .i64 n] W fun e w' => e = .returned (.tuple #[(Go.Value.agg #[Go.Value.int Go.IntKind.i64 0, Go.Value.int Go.IntKind.i64 0, Go.Value.int Go.IntKind.i64 n]), .int .i64 0]) ∧ Below W.heap.size W w') := fun W => New_ok n W h
  have HT := Lib.hid hT
  have HT0 : Hid (Tops n 0 0 0 0) := ⟨rightB_yes (by omega) (by omega) (inB_true h), by omega⟩
  clear h hT
  go_enter Try.func6, Try.ntmps6
  go_wp2_with fail
  refine (HN.out _).mono ?_
  rintro e w1 ⟨rfl, hb1⟩
  go_upto_region 5 with (fail)
  have H1 : Hid (RR w w1.heap.size n 0 0 0 0 0 (((w1.alloc (.cells #[.int .i64 0, .int .i64 0, .int .i64 n] 25))).alloc (.cells #[.int .i64 0, .int .i64 0, .int .i64 0] 23))) := by
    have h3 := Box.new (w1.alloc (.cells #[.int .i64 0, .int .i64 0, .int .i64 n] 25)) 0 0 0
    simp only [size_alloc] at h3
    exact ⟨(hb1.alloc hb1.size _).alloc (by have := hb1.size; rw [size_alloc]; omega) _, hb1.size, (CBox.new w1 0 0 n).alloc _, h3⟩
  clear hb1
  generalize (((w1.alloc (.cells #[.int .i64 0, .int .i64 0, .int .i64 n] 25))).alloc (.cells #[.int .i64 0, .int .i64 0, .int .i64 0] 23)) = w2 at H1 ⊢
  generalize w1.heap.size = g at H1 ⊢
  go_wp2_with fail
  go_loopw [8] (fun i wr => ∃ (k : Nat) (p q x y z : Int), k ≤ len ∧ k ≤ 200 ∧ i = .int .i64 k ∧ Hid (Tops n p q x y) ∧ Hid (RR w g n p q x y z wr)) (fun i _ => 200 - (intOf i).toNat)
  case atStart => exact ⟨0, 0, 0, 0, 0, 0, by omega, by omega, rfl, HT0, H1⟩
  case round =>
    obtain ⟨k, p, q, x, y, z, hk, hk2, rfl, hto, hrr⟩ := hrel
    by_cases hlt : k < len
    · by_cases hlt2 : k < 200
      · rcases HT.out with h0 | ⟨b, off, rfl, hbl, htk⟩
        · omega
        have HK := Lib.hid (htk k hlt)
        clear htk
        obtain ⟨⟨t0, th, t2, t3, t4⟩, hq⟩ : ∃ q, q = T k := ⟨_, rfl⟩
        rw [← hq] at HK
        clear hq
        have HK2 : Hid (TickAt wr b (off + k * 5) (t0, th, t2, t3, t4)) := HK.out.next hrr.out.1 hbl
        obtain ⟨k0, k1, k2, k3, k4⟩ := HK2.out
        dsimp only at k0 k1 k2 k3 k4
        cases th
        · go_upto_region 12 with (fail)
          obtain ⟨p', q', r', e, hv⟩ : ∃ p' q' r' e, nowV p q n t0 = (p', q', r', e) := ⟨_, _, _, _, rfl⟩
          have HNW : Hid (∀ W, Calls Try.prog 10 #[(Go.Value.agg #[Go.Value.int Go.IntKind.i64 p, Go.Value.int Go.IntKind.i64 q, Go.Value.int Go.IntKind.i64 n]), .int .i64 t0] W fun e' w' => e' = .returned (.tuple #[(Go.Value.agg #[Go.Value.int Go.IntKind.i64 p', Go.Value.int Go.IntKind.i64 q', Go.Value.int Go.IntKind.i64 r']), (Go.Value.agg #[Go.Value.int Go.IntKind.i64 p', Go.Value.int Go.IntKind.i64 q', Go.Value.int Go.IntKind.i64 r']), .int .i64 e]) ∧ Below W.heap.size W w') := fun W => Now_any _ _ _ _ _ _ _ _ W hv
          have HV := Lib.hid hv
          clear hv
          go_cut [11, 12, 13] (fun s11 s12 s13 wx => ∃ h11 h12 : Nat, s11 = .pointer (some ⟨h11, 0, none⟩) ∧ s12 = .pointer (some ⟨h12, 0, none⟩) ∧ s13 = .int .i64 e ∧ Hid (SN w g n p q x y z h11 h12 p' q' r' wx))
          case first =>
            have HSW : SR w g n p q x y z b (off + k * 5) t0 t2 t3 t4 wr := SR.of hbl hrr.out HK2.out
            clear k0 k1 k2 k3 k4
            go_region_held3 (fun W => W.cell? ⟨g, 0, none⟩ = some (.int .i64 p) ∧ W.cell? ⟨g, 1, none⟩ = some (.int .i64 q) ∧ W.cell? ⟨g, 2, none⟩ = some (.int .i64 n) ∧ W.cell? ⟨b, off + k * 5, none⟩ = some (.int .i64 t0) ∧ W.cell? ⟨b, off + k * 5 + 2, none⟩ = some (.int .i64 t2) ∧ W.cell? ⟨b, off + k * 5 + 3, none⟩ = some (.int .i64 t3) ∧ W.cell? ⟨b, off + k * 5 + 4, none⟩ = some (.int .i64 t4) ∧ (b < w.heap.size ∧ RR w g n p q x y z W)) ((show SR w g n p q x y z b (off + k * 5) t0 t2 t3 t4 _; repeat (first | (with_reducible exact HSW) | (with_reducible exact hs9) | (with_reducible refine SR.alloc ?_ _) | (with_reducible refine SR.drew ?_) | (refine SR.set ?_ hz.1 _ rfl _) | (refine SR.set ?_ hy.1 _ rfl _) | (refine SR.set ?_ hs9.size _ rfl _)))) ((go_at_call 10; refine (HNW.out _).mono ?_; rintro e w1 ⟨rfl, hb1⟩; refine SR.use (w := w) g n p q x y z b (off + k * 5) t0 t2 t3 t4 hb1 ?_ ?_; (repeat (first | (with_reducible exact HSW) | (with_reducible refine SR.alloc ?_ _) | (with_reducible refine SR.drew ?_))); intro hs9; (first | (refine laid_cs (w := w) g n p q x y z b (off + k * 5) t0 t2 t3 t4 hb1 ?_ ?_; (exact HSW); intro hz hy; obtain ⟨g1, g2, g3, g4⟩ := hz.facts; obtain ⟨y1, y2, y3, y4⟩ := hy.facts; have lz := hz.2.lt; have ly := hy.2.lt) | (refine laid_sc (w := w) g n p q x y z b (off + k * 5) t0 t2 t3 t4 hb1 ?_ ?_; (exact HSW); intro hz hy; obtain ⟨g1, g2, g3, g4⟩ := hz.facts; obtain ⟨y1, y2, y3, y4⟩ := hy.facts; have lz := hz.2.lt; have ly := hy.2.lt) | (refine laid_c (w := w) g n p q x y z b (off + k * 5) t0 t2 t3 t4 hb1 ?_ ?_; (exact HSW); intro hz; obtain ⟨g1, g2, g3, g4⟩ := hz.facts; have lz := hz.2.lt; have nz : ¬ w1.heap.size = wr.heap.size := by omega) | (refine laid_s (w := w) g n p q x y z b (off + k * 5) t0 t2 t3 t4 hb1 ?_ ?_; (exact HSW); intro hy; obtain ⟨y1, y2, y3, y4⟩ := hy.facts; have ly := hy.2.lt; have ny : ¬ w1.heap.size = wr.heap.size := by omega) | skip)))
            all_goals (go_wp2_with fail; go_meet; first | exact ⟨_, _, rfl, rfl, rfl, SN.e1 hs9 p' q' r'⟩ | exact ⟨_, _, rfl, rfl, rfl, SN.e2 hs9 p' q' r'⟩ | exact ⟨_, _, rfl, rfl, rfl, SN.e4 hs9 hz hy (by omega) p' q' r'⟩ | exact ⟨_, _, rfl, rfl, rfl, SN.e3 hs9 hz p' q' r'⟩ | exact ⟨_, _, rfl, rfl, rfl, SN.e5 hs9 hy p' q' r'⟩)
          case rest =>
            obtain ⟨h11, h12, rfl, rfl, rfl, HN1⟩ := hcut
            clear HNW HK2
            rcases now_cases HV.out with ⟨he, _⟩ | ⟨rfl, _⟩
            · have hRR : Hid (RR w g n p q x y z wc) := HN1.out.2.2.1
              rcases he with rfl | rfl
              all_goals
                go_wp2_with fail
                go_roundw
                case rel => exact ⟨k + 1, p, q, x, y, z, by omega, by omega, by go_num, hto, hRR⟩
                case measure => simp [intOf]; omega
            · obtain ⟨j1, rfl, j3, j4⟩ := Tops.now z hto.out HV.out
              have HT1 := Lib.hid j4
              have HC : Hid (∀ W, Calls Try.prog 20 #[(Go.Value.agg #[Go.Value.int Go.IntKind.i64 p', Go.Value.int Go.IntKind.i64 q', Go.Value.int Go.IntKind.i64 r']), (Go.Value.agg #[Go.Value.int Go.IntKind.i64 x, Go.Value.int Go.IntKind.i64 y, Go.Value.int Go.IntKind.i64 z])] W fun e w' => e = .returned (.int .i64 1) ∧ Below W.heap.size W w') := fun W => by rw [← j3]; exact Compare_any _ _ _ _ _ _ W
              have HR : Hid (∀ W, Calls Try.prog 21 #[(Go.Value.agg #[Go.Value.int Go.IntKind.i64 p', Go.Value.int Go.IntKind.i64 q', Go.Value.int Go.IntKind.i64 r'])] W fun e w' => e = .returned (.bool true) ∧ Below W.heap.size W w') := fun W => by rw [← j1]; exact Right_any p' q' r' W
              clear j1 j3 j4
              go_upto_region 14 with (fail)
              obtain ⟨y1, y2, y3⟩ := HN1.out.2.2.2.2.cell
              obtain ⟨x1, x2, x3⟩ := HN1.out.2.2.1.2.2.2.cell
              go_wp2_with fail
              refine (HC.out _).mono ?_
              rintro e w3 ⟨rfl, hb3⟩
              have HN2 : Hid (SN w g r' p q x y z h11 h12 p' q' r' w3) := HN1.out.next hb3
              clear hb3 HN1 y1 y2 y3 x1 x2 x3 HC
              obtain ⟨y1, y2, y3⟩ := HN2.out.2.2.2.2.cell
              go_wp2_with fail
              refine (HR.out _).mono ?_
              rintro e w4 ⟨rfl, hb4⟩
              have HN3 : Hid (SN w g r' p q x y z h11 h12 p' q' r' w4) := HN2.out.next hb4
              clear hb4 HN2 y1 y2 y3 HR
              go_upto_region 16 with (fail)
              have HW6 : C6 h11 h12 p' q' r' w4 := HN3.out.c6
              have HP := Lib.hid HN3.out.put
              have hh : g < h11 ∧ g < h12 ∧ g + 1 < h11 ∧ g + 1 < h12 := by
                obtain ⟨e1, e2, _⟩ := HN3.out
                omega
              obtain ⟨x1, x2, x3⟩ := HN3.out.2.2.1.2.2.1.cell
              obtain ⟨y1, y2, y3⟩ := HN3.out.2.2.1.2.2.2.cell
              have x4 : ∀ i, w4.frozen? ⟨g, i, none⟩ = false := HN3.out.2.2.1.2.2.1.frozen
              have y4 : ∀ i, w4.frozen? ⟨g + 1, i, none⟩ = false := HN3.out.2.2.1.2.2.2.frozen
              go_region_held3 (fun W => W.cell? ⟨h11, 0, none⟩ = some (.int .i64 p') ∧ W.cell? ⟨h11, 1, none⟩ = some (.int .i64 q') ∧ W.cell? ⟨h11, 2, none⟩ = some (.int .i64 r') ∧ W.cell? ⟨h12, 0, none⟩ = some (.int .i64 p') ∧ W.cell? ⟨h12, 1, none⟩ = some (.int .i64 q') ∧ W.cell? ⟨h12, 2, none⟩ = some (.int .i64 r')) ((show C6 h11 h12 p' q' r' _; repeat (first | (with_reducible exact HW6) | (with_reducible refine C6.drew ?_) | (refine C6.set ?_ g hh.1 hh.2.1 _ rfl _) | (refine C6.set ?_ (g + 1) hh.2.2.1 hh.2.2.2 _ rfl _)))) (fail)
              go_wp2_with fail
              go_roundw
              case rel => exact ⟨k + 1, p', q', p', q', r', by omega, by omega, by go_num, HT1, HP⟩
              case measure => simp [intOf]; omega
        · go_upto_region 9 with (fail)
          obtain ⟨p', q', r', e, hv⟩ : ∃ p' q' r' e, hearV p q n t0 t2 t3 t4 = (p', q', r', e) := ⟨_, _, _, _, rfl⟩
          have HH : Hid (∀ W, Calls Try.prog 13 #[(Go.Value.agg #[Go.Value.int Go.IntKind.i64 p, Go.Value.int Go.IntKind.i64 q, Go.Value.int Go.IntKind.i64 n]), .int .i64 t0, (Go.Value.agg #[Go.Value.int Go.IntKind.i64 t2, Go.Value.int Go.IntKind.i64 t3, Go.Value.int Go.IntKind.i64 t4])] W fun e' w' => e' = .returned (.tuple #[(Go.Value.agg #[Go.Value.int Go.IntKind.i64 p', Go.Value.int Go.IntKind.i64 q', Go.Value.int Go.IntKind.i64 r']), .int .i64 e]) ∧ Below W.heap.size W w') := fun W => Hear_any _ _ _ _ _ _ _ _ _ _ _ W hv
          have HV := Lib.hid hv
          clear hv
          go_cut [9, 10] (fun s9 s10 wx => ∃ g9 : Nat, s9 = .pointer (some ⟨g9, 0, none⟩) ∧ s10 = .int .i64 e ∧ Hid (g + 2 ≤ g9 ∧ SR w g n p q x y z b (off + k * 5) t0 t2 t3 t4 wx ∧ CBox wx g9 p' q' r'))
          case first =>
            have HS0 : SR w g n p q x y z b (off + k * 5) t0 t2 t3 t4 wr.drew := SR.drew (SR.of hbl hrr.out HK2.out)
            clear k0 k1 k2 k3 k4
            go_region_held3 (fun W => W.cell? ⟨g, 0, none⟩ = some (.int .i64 p) ∧ W.cell? ⟨g, 1, none⟩ = some (.int .i64 q) ∧ W.cell? ⟨g, 2, none⟩ = some (.int .i64 n) ∧ W.cell? ⟨b, off + k * 5, none⟩ = some (.int .i64 t0) ∧ W.cell? ⟨b, off + k * 5 + 2, none⟩ = some (.int .i64 t2) ∧ W.cell? ⟨b, off + k * 5 + 3, none⟩ = some (.int .i64 t3) ∧ W.cell? ⟨b, off + k * 5 + 4, none⟩ = some (.int .i64 t4) ∧ (b < w.heap.size ∧ RR w g n p q x y z W)) ((show SR w g n p q x y z b (off + k * 5) t0 t2 t3 t4 _; first | exact HS0 | exact hs9 | exact SR.alloc hs9 _ | exact SR.alloc HS0 _ | exact SR.set (SR.set (SR.set hs9 hz.1 _ rfl _) hz.1 _ rfl _) hz.1 _ rfl _)) (first | (go_at_call 13; refine (HH.out _).mono ?_; rintro e w1 ⟨rfl, hb1⟩; refine SR.use (w := w) g n p q x y z b (off + k * 5) t0 t2 t3 t4 hb1 ?_ ?_; (first | exact HS0 | exact hs9 | exact SR.alloc hs9 _ | exact SR.alloc HS0 _); intro hs9'; (first | (refine ZC.new (w := w) g n p q x y z b (off + k * 5) t0 t2 t3 t4 hb1 ?_ ?_; (first | exact HS0 | exact hs9); intro hz; obtain ⟨g1, g2, g3, g4⟩ := hz.facts; (try dsimp only [World.drew] at g1 g2 g3 g4)) | (refine ZC.newD (w := w) g n p q x y z b (off + k * 5) t0 t2 t3 t4 hb1 ?_ ?_; (exact HS0); intro hz; obtain ⟨g1, g2, g3, g4⟩ := hz.facts; have lz := hz.2.lt; have nz : ¬ w1.heap.size = wr.heap.size := by omega) | skip); have hs9 := hs9'; clear hs9'))
            all_goals (go_wp2_with fail; go_meet; first | exact ⟨_, rfl, rfl, hs9.size, hs9.alloc _, CBox.new _ _ _ _⟩ | exact ⟨_, rfl, rfl, hz.1, SR.set (SR.set (SR.set hs9 hz.1 _ rfl _) hz.1 _ rfl _) hz.1 _ rfl _, hz.put _ _ _⟩)
          case rest =>
            obtain ⟨g9, rfl, rfl, HD0⟩ := hcut
            have HD : Hid (SD w g n p q x y z b (off + k * 5) t0 t2 t3 t4 g9 p' q' r' wc) := HD0
            clear HD0 HH HK2
            rcases hear_cases HV.out with ⟨he, _⟩ | ⟨rfl, _⟩
            · have hRR : Hid (RR w g n p q x y z wc) := HD.out.2.1.rr
              rcases he with rfl | rfl
              all_goals
                go_wp2_with fail
                go_roundw
                case rel => exact ⟨k + 1, p, q, x, y, z, by omega, by omega, by go_num, hto, hRR⟩
                case measure => simp [intOf]; omega
            · obtain ⟨rfl, g1, g2⟩ := Tops.hear hto.out HV.out
              obtain ⟨l1, l2, l3, hl, hL⟩ := Later_one x y z t2 t3 t4
              have HL := Lib.hid hL
              have HTL : Hid (Tops r' p' q' l1 l2) := by
                rcases hl with ⟨rfl, rfl, rfl⟩ | ⟨rfl, rfl, rfl⟩
                · exact g1
                · exact g2
              clear hl hL g1 g2
              go_upto_region 11 with (fail)
              refine wp_region_calm_tail 8 (SD w g r' p q x y z b (off + k * 5) t0 t2 t3 t4 g9 p' q' r') (by kernel_rfl) (by kernel_rfl) HD.out.drew ?_
              simp only [List.take_succ_cons, List.take_zero, List.drop_succ_cons, List.drop_zero]
              repeat (refine wpQuiet_step (fun K hK => ?_); go_simp; first | (refine hK _ ?_; clear hK K) | (apply Exists.intro; refine ⟨fun wc hwc => ?_, hK _ ?_⟩; (focus (first | (first | (go_at_call 19; refine (HL.out _).mono ?_; rintro e w1 ⟨rfl, hb1⟩; exact ⟨rfl, hwc.next hb1⟩)) | (((obtain ⟨_, hsr, hd⟩ := hwc; obtain ⟨z1, z2, z3⟩ := hd.cell; obtain ⟨x1, x2, x3⟩ := hsr.rr.2.2.2.cell; obtain ⟨_, _, _, m0, m2, m3, m4, _⟩ := hsr; clear hd)); go_simp; done) | (((obtain ⟨_, hsr, hd⟩ := hwc; obtain ⟨z1, z2, z3⟩ := hd.cell; obtain ⟨x1, x2, x3⟩ := hsr.rr.2.2.2.cell; obtain ⟨_, _, _, m0, m2, m3, m4, _⟩ := hsr; clear hd)); go_simp; exact rfl))); clear hK K))
              refine wpQuiet_nil ?_
              intro wc hwc
              have HW := Lib.hid hwc
              have HP := Lib.hid (hwc.put l1 l2 l3)
              clear hwc
              go_wp2_with (first | (refine cbox_store g HW.out.2.1.rr.2.2.1 rfl _ _ rfl rfl rfl ?_) | (refine box_store (g + 1) (HW.out.2.1.rr.2.2.2.other _ (by omega)) rfl _ _ rfl rfl rfl ?_))
              go_roundw
              case rel => exact ⟨k + 1, p', q', l1, l2, l3, by omega, by omega, by go_num, HTL, HP⟩
              case measure => simp [intOf]; omega
      · go_wp2_with fail
        refine (HAW.out _).mono ?_
        rintro e w9 ⟨rfl, hb9⟩
        go_wp2_with fail
        go_ret
        exact ⟨rfl, hrr.out.1.trans (hb9.mono hrr.out.1.size)⟩
    · go_wp2_with fail
      refine (HAW.out _).mono ?_
      rintro e w9 ⟨rfl, hb9⟩
      go_wp2_with fail
      go_ret
      exact ⟨rfl, hrr.out.1.trans (hb9.mono hrr.out.1.size)⟩

theorem clockRises_walk (w : World) (n : Int) (hn : -9223372036854775808 ≤ n ∧ n ≤ 9223372036854775807) (o : Option Addr) (len cap : Nat) (T : Nat → Int × Bool × Int × Int × Int) (hT : IsTicks w o len T) : Calls Try.prog 6 #[.int .i64 n, .slice o len cap] w fun e w' => e = .returned (.bool true) ∧ Below w.heap.size w w' := by
  cases h : inB n 255
  · exact clockRises_no w n o len cap h
  · exact clockRises_yes w n o len cap T hT h

end Go.Proofs.Ytffmannejfmcgaa
