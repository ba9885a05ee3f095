/-
  The contract of the document's Cut.
-/
import Derived.Test.YtpmellfgmlgknaaDoorSpRefJoin
import Derived.StillTailTactics
import Derived.Deep.DeepCutAuto
set_option linter.unusedVariables false
namespace Go.Proofs.YtpmellfgmlgknaaDoor
open Go.RowKit

/-- A span's block and two results'. -/
def Q3 (w : World) (a b : ByteArray) (w1 : World) : Prop := Below w.heap.size w w1 ∧ PBox w1 w.heap.size a b ∧ PBox w1 (w.heap.size + 1) emp emp ∧ PBox w1 (w.heap.size + 2) emp emp
theorem Q3.new (w : World) (a b : ByteArray) : Q3 w a b (((((w.alloc (.cells #[.string a, .string b] 23))).alloc (.cells #[.string emp, .string emp] 23))).alloc (.cells #[.string emp, .string emp] 23)) := by
  obtain ⟨h1, h2, h3, h4⟩ := J3.new w a b emp emp
  exact ⟨h1, h2, h3, h4⟩
theorem Q3.next {w w1 w2 : World} {a b : ByteArray} (H : Q3 w a b w1) (hb : Below w1.heap.size w1 w2) : Q3 w a b w2 :=
  ⟨H.1.trans (hb.mono H.1.size), H.2.1.over hb, H.2.2.1.over hb, H.2.2.2.over hb⟩
theorem q3_res {w w1 : World} {a b : ByteArray} (H : Q3 w a b w1) (x y x' y' : ByteArray) :
    PBox ((w1.setRow (w.heap.size + 1) #[.string x, .string y]).setRow (w.heap.size + 2) #[.string x', .string y']) (w.heap.size + 1) x y ∧
    PBox ((w1.setRow (w.heap.size + 1) #[.string x, .string y]).setRow (w.heap.size + 2) #[.string x', .string y']) (w.heap.size + 2) x' y' ∧
    Below w.heap.size w ((w1.setRow (w.heap.size + 1) #[.string x, .string y]).setRow (w.heap.size + 2) #[.string x', .string y']) :=
  ⟨(H.2.2.1.set x y).other _ (by omega), (H.2.2.2.other _ (by omega)).set x' y', below_setRow (below_setRow H.1 (by omega) _) (by omega) _⟩

/-- The two parts laid: their blocks. -/
def Q5 (w : World) (a b k : ByteArray) (g h : Nat) (wx : World) : Prop := Q3 w a b wx ∧ w.heap.size + 3 ≤ g ∧ w.heap.size + 3 ≤ h ∧ PBox wx g a k ∧ PBox wx h k b
theorem Q3.big {w w2 : World} {a b : ByteArray} (H : Q3 w a b w2) : w.heap.size + 3 ≤ w2.heap.size := H.2.2.2.lt
theorem Q5.one {w w2 : World} {a b k : ByteArray} (H : Q3 w a b w2) : Q5 w a b k w2.heap.size (w2.heap.size + 1) (((w2.alloc (.cells #[.string a, .string k] 23))).alloc (.cells #[.string k, .string b] 23)).drew := by
  refine ⟨H.next ((((Below.refl _ _).alloc (Nat.le_refl _) _).alloc (by simp) _).drew), H.big, by have := H.big; omega, (PBox.new w2 a k).alloc _, ?_⟩
  have h := PBox.new (w2.alloc (.cells #[.string a, .string k] 23)) k b
  rw [psize_alloc] at h
  exact h
theorem Q5.two {w w2 : World} {a b k : ByteArray} (H : Q3 w a b w2) : Q5 w a b k (w2.heap.size + 1) w2.heap.size (((w2.alloc (.cells #[.string k, .string b] 23))).alloc (.cells #[.string a, .string k] 23)).drew := by
  refine ⟨H.next ((((Below.refl _ _).alloc (Nat.le_refl _) _).alloc (by simp) _).drew), by have := H.big; omega, H.big, ?_, (PBox.new w2 k b).alloc _⟩
  have h := PBox.new (w2.alloc (.cells #[.string k, .string b] 23)) a k
  rw [psize_alloc] at h
  exact h
theorem Q5.next {w w1 w2 : World} {a b k : ByteArray} {g h : Nat} (H : Q5 w a b k g h w1) (hb : Below w1.heap.size w1 w2) : Q5 w a b k g h w2 :=
  ⟨H.1.next hb, H.2.1, H.2.2.1, H.2.2.2.1.over hb, H.2.2.2.2.over hb⟩

/-- The cells of both parts. -/
def G2 (g h : Nat) (a b k : ByteArray) (W : World) : Prop := W.cell? ⟨g, 0, none⟩ = some (.string a) ∧ W.cell? ⟨g, 1, none⟩ = some (.string k) ∧ W.cell? ⟨h, 0, none⟩ = some (.string k) ∧ W.cell? ⟨h, 1, none⟩ = some (.string b)
theorem G2.drew {g h : Nat} {a b k : ByteArray} {W : World} (H : G2 g h a b k W) : G2 g h a b k W.drew := H
theorem G2.set {g h : Nat} {a b k : ByteArray} {W : World} (H : G2 g h a b k W) (p : Addr) (v : Value) (n1 : g ≠ p.block) (n2 : h ≠ p.block) : G2 g h a b k (W.setCell p v) := by
  obtain ⟨h1, h2, h3, h4⟩ := H
  refine ⟨?_, ?_, ?_, ?_⟩
  all_goals
    rw [World.cell?_setCell_other _ _ _ _ (by intro e; subst e; first | exact n1 rfl | exact n2 rfl)]
    assumption
/-- Both results written. -/
theorem Q3.put {w W : World} {a b : ByteArray} (H : Q3 w a b W) (x y x' y' : ByteArray) :
    Below w.heap.size w ((((W.setCell ⟨w.heap.size + 1, 0, none⟩ (.string x)).setCell ⟨w.heap.size + 1, 1, none⟩ (.string y)).setCell ⟨w.heap.size + 1 + 1, 0, none⟩ (.string x')).setCell ⟨w.heap.size + 1 + 1, 1, none⟩ (.string y')).drew ∧
    PBox ((((W.setCell ⟨w.heap.size + 1, 0, none⟩ (.string x)).setCell ⟨w.heap.size + 1, 1, none⟩ (.string y)).setCell ⟨w.heap.size + 1 + 1, 0, none⟩ (.string x')).setCell ⟨w.heap.size + 1 + 1, 1, none⟩ (.string y')).drew (w.heap.size + 1) x y ∧
    PBox ((((W.setCell ⟨w.heap.size + 1, 0, none⟩ (.string x)).setCell ⟨w.heap.size + 1, 1, none⟩ (.string y)).setCell ⟨w.heap.size + 1 + 1, 0, none⟩ (.string x')).setCell ⟨w.heap.size + 1 + 1, 1, none⟩ (.string y')).drew (w.heap.size + 1 + 1) x' y' := by
  obtain ⟨h1, h2, h3, h4⟩ := H
  refine ⟨?_, ?_, ?_⟩
  · exact ((((h1.setCell (by simp) _).setCell (by simp) _).setCell (by simp; omega) _).setCell (by simp; omega) _).drew
  · exact ((((h3.set0 x).set1 y).off _ _ (by simp)).off _ _ (by simp)).drew
  · exact ((((h4.off _ _ (by simp)).off _ _ (by simp)).set0 x').set1 y').drew

set_option maxRecDepth 100000 in
set_option maxHeartbeats 400000 in
theorem spRefCut_any (a b k : ByteArray) (w : World) : Calls Tryd.prog 16 #[(Go.Value.agg #[Go.Value.string a, Go.Value.string b]), .string k] w fun e w' => e = .returned (.tuple #[(Go.Value.agg #[Go.Value.string ((cutA (a, b) k).1), Go.Value.string ((cutA (a, b) k).2)]), (Go.Value.agg #[Go.Value.string ((cutB (a, b) k).1), Go.Value.string ((cutB (a, b) k).2)]), .int .i64 (cutE (a, b) k)]) ∧ Below w.heap.size w w' := by
  obtain ⟨p, hp⟩ : ∃ p, p = spR (a, b) := ⟨_, rfl⟩
  obtain ⟨q, hq⟩ : ∃ q, q = Ky.right k := ⟨_, rfl⟩
  obtain ⟨u, hu⟩ : ∃ u, u = spR (a, k) := ⟨_, rfl⟩
  obtain ⟨v, hv⟩ : ∃ v, v = spR (k, b) := ⟨_, rfl⟩
  have HP : Hid (∀ W, Calls Tryd.prog 11 #[(Go.Value.agg #[Go.Value.string a, Go.Value.string b])] W fun e w' => e = .returned (.bool p) ∧ Below W.heap.size W w') := fun W => by rw [hp]; exact spRefRight_any a b W
  have HQ : Hid (∀ W, Calls Tryd.prog 23 #[.string k] W fun e w' => e = .returned (.bool q) ∧ Below W.heap.size W w') := fun W => by rw [hq]; exact (kRefRight_any k W).mono fun e w' h => ⟨h.1, h.2 ▸ Below.refl _ _⟩
  have HU : Hid (∀ W, Calls Tryd.prog 11 #[(Go.Value.agg #[Go.Value.string a, Go.Value.string k])] W fun e w' => e = .returned (.bool u) ∧ Below W.heap.size W w') := fun W => by rw [hu]; exact spRefRight_any a k W
  have HV : Hid (∀ W, Calls Tryd.prog 11 #[(Go.Value.agg #[Go.Value.string k, Go.Value.string b])] W fun e w' => e = .returned (.bool v) ∧ Below W.heap.size W w') := fun W => by rw [hv]; exact spRefRight_any k b W
  have hcase : ((p && q) = false ∧ cutE (a, b) k = 1 ∧ cutA (a, b) k = (emp, emp) ∧ cutB (a, b) k = (emp, emp)) ∨ (p = true ∧ q = true ∧ (u && v) = false ∧ cutE (a, b) k = 9 ∧ cutA (a, b) k = (emp, emp) ∧ cutB (a, b) k = (emp, emp)) ∨ (p = true ∧ q = true ∧ u = true ∧ v = true ∧ cutE (a, b) k = 0 ∧ cutA (a, b) k = (a, k) ∧ cutB (a, b) k = (k, b)) := by
    have hd : cutE (a, b) k = (if p && q then (if u && v then 0 else 9) else 1) := by rw [hp, hq, hu, hv]; rfl
    cases h1 : (p && q)
    · have h2 : cutE (a, b) k = 1 := by rw [hd, h1]; rfl
      exact .inl ⟨rfl, h2, cut_not (by omega)⟩
    · have hpq : p = true ∧ q = true := by simpa using h1
      cases h3 : (u && v)
      · have h2 : cutE (a, b) k = 9 := by rw [hd, h1, h3]; rfl
        exact .inr (.inl ⟨hpq.1, hpq.2, rfl, h2, cut_not (by omega)⟩)
      · have huv : u = true ∧ v = true := by simpa using h3
        have h2 : cutE (a, b) k = 0 := by rw [hd, h1, h3]; rfl
        exact .inr (.inr ⟨hpq.1, hpq.2, huv.1, huv.2, h2, cut_zero h2⟩)
  clear hp hq hu hv
  rcases hcase with ⟨h1, e1, e2, e3⟩ | ⟨rfl, rfl, h1, e1, e2, e3⟩ | ⟨rfl, rfl, rfl, rfl, e1, e2, e3⟩
  all_goals rw [e1, e2, e3]; clear e1 e2 e3
  · clear HU HV
    cases p
    · clear HQ h1
      go_enter Tryd.func16, Tryd.ntmps16
      go_wp2_with fail
      refine (HP.out _).mono ?_
      rintro e w1 ⟨rfl, hb1⟩
      have H1 : Hid (Q3 w a b w1) := (Q3.new w a b).next hb1
      clear hb1
      go_wp2_with (first | (refine pbox_store (w.heap.size + 1) H1.out.2.2.1 rfl _ _ rfl rfl rfl ?_) | (refine pbox_store (w.heap.size + 2) (H1.out.2.2.2.other _ (by omega)) rfl _ _ rfl rfl rfl ?_))
      exact bodyPost_ret (pbox_result3 rfl _ _ (w.heap.size + 1) (w.heap.size + 2) rfl rfl (q3_res H1.out _ _ _ _).1 (q3_res H1.out _ _ _ _).2.1) rfl ⟨rfl, (q3_res H1.out _ _ _ _).2.2⟩
    · rw [Bool.true_and] at h1
      subst h1
      go_enter Tryd.func16, Tryd.ntmps16
      go_wp2_with fail
      refine (HP.out _).mono ?_
      rintro e w1 ⟨rfl, hb1⟩
      have H1 : Hid (Q3 w a b w1) := (Q3.new w a b).next hb1
      clear hb1
      go_wp2_with fail
      refine (HQ.out _).mono ?_
      rintro e w2 ⟨rfl, hb2⟩
      have H2 : Hid (Q3 w a b w2) := H1.out.next hb2
      clear hb2 H1
      go_wp2_with (first | (refine pbox_store (w.heap.size + 1) H2.out.2.2.1 rfl _ _ rfl rfl rfl ?_) | (refine pbox_store (w.heap.size + 2) (H2.out.2.2.2.other _ (by omega)) rfl _ _ rfl rfl rfl ?_))
      exact bodyPost_ret (pbox_result3 rfl _ _ (w.heap.size + 1) (w.heap.size + 2) rfl rfl (q3_res H2.out _ _ _ _).1 (q3_res H2.out _ _ _ _).2.1) rfl ⟨rfl, (q3_res H2.out _ _ _ _).2.2⟩
  · go_enter Tryd.func16, Tryd.ntmps16
    go_wp2_with fail
    refine (HP.out _).mono ?_
    rintro e w1 ⟨rfl, hb1⟩
    have H1 : Hid (Q3 w a b w1) := (Q3.new w a b).next hb1
    clear hb1
    go_wp2_with fail
    refine (HQ.out _).mono ?_
    rintro e w2 ⟨rfl, hb2⟩
    have H2 : Hid (Q3 w a b w2) := H1.out.next hb2
    clear hb2 H1
    obtain ⟨x1, x2⟩ := H2.out.2.1.cell
    go_upto_region 3 with (fail)
    go_cut [7, 8] (fun s7 s8 wx => Hid (∃ g h, s7 = .pointer (some ⟨g, 0, none⟩) ∧ s8 = .pointer (some ⟨h, 0, none⟩) ∧ Q5 w a b k g h wx))
    case first =>
      go_region_held3 (fun W => W.cell? ⟨w.heap.size, 0, none⟩ = some (.string a) ∧ W.cell? ⟨w.heap.size, 1, none⟩ = some (.string b)) (first | go_keep) (fail)
      all_goals (go_wp2_with fail; go_meet; first | exact ⟨_, _, rfl, rfl, Q5.one H2.out⟩ | exact ⟨_, _, rfl, rfl, Q5.two H2.out⟩)
    case rest =>
      obtain ⟨g, h, rfl, rfl, H3⟩ := hcut.out
      replace H3 := Lib.hid H3
      clear hcut H2 x1 x2
      obtain ⟨x1, x2⟩ := H3.out.2.2.2.1.cell
      go_wp2_with fail
      refine (HU.out _).mono ?_
      rintro e w4 ⟨rfl, hb4⟩
      have H4 := Lib.hid (H3.out.next hb4)
      clear hb4 H3 x1 x2
      cases u
      · clear HV h1
        go_wp2_with (first | (refine pbox_store (w.heap.size + 1) H4.out.1.2.2.1 rfl _ _ rfl rfl rfl ?_) | (refine pbox_store (w.heap.size + 2) (H4.out.1.2.2.2.other _ (by omega)) rfl _ _ rfl rfl rfl ?_))
        exact bodyPost_ret (pbox_result3 rfl _ _ (w.heap.size + 1) (w.heap.size + 2) rfl rfl (q3_res H4.out.1 _ _ _ _).1 (q3_res H4.out.1 _ _ _ _).2.1) rfl ⟨rfl, (q3_res H4.out.1 _ _ _ _).2.2⟩
      · rw [Bool.true_and] at h1
        subst h1
        obtain ⟨x1, x2⟩ := H4.out.2.2.2.2.cell
        go_wp2_with fail
        refine (HV.out _).mono ?_
        rintro e w5 ⟨rfl, hb5⟩
        have H5 := Lib.hid (H4.out.next hb5)
        clear hb5 H4 x1 x2
        go_wp2_with (first | (refine pbox_store (w.heap.size + 1) H5.out.1.2.2.1 rfl _ _ rfl rfl rfl ?_) | (refine pbox_store (w.heap.size + 2) (H5.out.1.2.2.2.other _ (by omega)) rfl _ _ rfl rfl rfl ?_))
        exact bodyPost_ret (pbox_result3 rfl _ _ (w.heap.size + 1) (w.heap.size + 2) rfl rfl (q3_res H5.out.1 _ _ _ _).1 (q3_res H5.out.1 _ _ _ _).2.1) rfl ⟨rfl, (q3_res H5.out.1 _ _ _ _).2.2⟩
  · go_enter Tryd.func16, Tryd.ntmps16
    go_wp2_with fail
    refine (HP.out _).mono ?_
    rintro e w1 ⟨rfl, hb1⟩
    have H1 : Hid (Q3 w a b w1) := (Q3.new w a b).next hb1
    clear hb1
    go_wp2_with fail
    refine (HQ.out _).mono ?_
    rintro e w2 ⟨rfl, hb2⟩
    have H2 : Hid (Q3 w a b w2) := H1.out.next hb2
    clear hb2 H1
    obtain ⟨x1, x2⟩ := H2.out.2.1.cell
    go_upto_region 3 with (fail)
    go_cut [7, 8] (fun s7 s8 wx => Hid (∃ g h, s7 = .pointer (some ⟨g, 0, none⟩) ∧ s8 = .pointer (some ⟨h, 0, none⟩) ∧ Q5 w a b k g h wx))
    case first =>
      go_region_held3 (fun W => W.cell? ⟨w.heap.size, 0, none⟩ = some (.string a) ∧ W.cell? ⟨w.heap.size, 1, none⟩ = some (.string b)) (first | go_keep) (fail)
      all_goals (go_wp2_with fail; go_meet; first | exact ⟨_, _, rfl, rfl, Q5.one H2.out⟩ | exact ⟨_, _, rfl, rfl, Q5.two H2.out⟩)
    case rest =>
      obtain ⟨g, h, rfl, rfl, H3⟩ := hcut.out
      replace H3 := Lib.hid H3
      clear hcut H2 x1 x2
      obtain ⟨x1, x2⟩ := H3.out.2.2.2.1.cell
      go_wp2_with fail
      refine (HU.out _).mono ?_
      rintro e w4 ⟨rfl, hb4⟩
      have H4 := Lib.hid (H3.out.next hb4)
      clear hb4 H3 x1 x2
      obtain ⟨x1, x2⟩ := H4.out.2.2.2.2.cell
      go_wp2_with fail
      refine (HV.out _).mono ?_
      rintro e w5 ⟨rfl, hb5⟩
      have H5 := Lib.hid (H4.out.next hb5)
      clear hb5 H4 x1 x2
      obtain ⟨x1, x2⟩ := H5.out.2.2.2.1.cell
      obtain ⟨y1, y2⟩ := H5.out.2.2.2.2.cell
      have y3 : ∀ i, w5.frozen? ⟨w.heap.size + 1, i, none⟩ = false := H5.out.1.2.2.1.frozen
      have z3 : ∀ i, w5.frozen? ⟨w.heap.size + 1 + 1, i, none⟩ = false := H5.out.1.2.2.2.frozen
      obtain ⟨y4, y5⟩ := H5.out.1.2.2.1.cell
      have HZ : PBox w5 (w.heap.size + 1 + 1) emp emp := H5.out.1.2.2.2
      obtain ⟨z4, z5⟩ := HZ.cell
      clear HZ
      have HS0 : G2 g h a b k w5 := ⟨x1, x2, y1, y2⟩
      have n1 : g ≠ w.heap.size + 1 := by have := H5.out.2.1; omega
      have n2 : g ≠ w.heap.size + 1 + 1 := by have := H5.out.2.1; omega
      have n3 : h ≠ w.heap.size + 1 := by have := H5.out.2.2.1; omega
      have n4 : h ≠ w.heap.size + 1 + 1 := by have := H5.out.2.2.1; omega
      go_upto_region 6 with (fail)
      go_region_held3 (fun W => W.cell? ⟨g, 0, none⟩ = some (.string a) ∧ W.cell? ⟨g, 1, none⟩ = some (.string k) ∧ W.cell? ⟨h, 0, none⟩ = some (.string k) ∧ W.cell? ⟨h, 1, none⟩ = some (.string b)) ((show G2 g h a b k _; refine G2.drew ?_; first | (with_reducible exact HS0) | (refine G2.set (G2.set ?_ _ _ (by assumption) (by assumption)) _ _ (by assumption) (by assumption); first | (with_reducible exact HS0) | (refine G2.set (G2.set ?_ _ _ (by assumption) (by assumption)) _ _ (by assumption) (by assumption); with_reducible exact HS0)))) (fail)
      have HF := Lib.hid (H5.out.1.put a k k b)
      go_wp2_with fail
      obtain ⟨f1, f2, f3⟩ := HF.out
      exact bodyPost_ret (pbox_result3 rfl _ _ (w.heap.size + 1) (w.heap.size + 1 + 1) rfl rfl f2 f3) rfl ⟨rfl, f1⟩

end Go.Proofs.YtpmellfgmlgknaaDoor
