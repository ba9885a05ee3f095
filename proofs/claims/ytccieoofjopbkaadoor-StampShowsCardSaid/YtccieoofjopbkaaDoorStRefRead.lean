/-
  The contract of the document's Read of a stamp.
-/
import Derived.Test.YtccieoofjopbkaaDoorStNumber
import Derived.Test.YtccieoofjopbkaaDoorStWalks
import Derived.Test.YtccieoofjopbkaaDoorStBox
import Derived.Test.YtccieoofjopbkaaDoorPkRef
set_option linter.unusedVariables false
namespace Go.Proofs.YtccieoofjopbkaaDoor
open Go.RowKit

def zsV (l : List Int) : List Value := l.map fun z => .int .i64 z
theorem zsV_snoc (l : List Int) (z : Int) : zsV l ++ [.int .i64 z] = zsV (l ++ [z]) := by simp [zsV]
/-- A slice value that owns numbers. -/
def OwnsZ (w : World) (base : Nat) (v : Value) (l : List Int) : Prop := w.ownsRow base 3 1 v l.length (zsV l)

/-- The numbers of the parts. -/
def nums (l : List UInt8) : List Int := (Dc.parts l).map Dc.num

/-- Where the loop stands: the text s, at k, the part begun at f, the numbers so far. -/
def PRel (s : ByteArray) (k f : Nat) (l : List Int) : Prop :=
  (f ≤ k ∧ k ≤ s.size ∧ l ++ nums (s.data.toList.drop f) = nums s.data.toList ∧ ∀ j (hj : j < s.size), f ≤ j → j < k → s[j].toNat ≠ 46) ∨ (k = s.size + 1 ∧ f ≤ k ∧ l = nums s.data.toList)
theorem PRel.zero (s : ByteArray) : PRel s 0 0 [] := .inl ⟨Nat.le_refl _, Nat.zero_le _, rfl, fun j hj _ h => absurd h (Nat.not_lt_zero _)⟩
theorem part_at (s : ByteArray) (f k : Nat) : (s.extract f k).data.toList = (s.data.toList.drop f).take (k - f) := extract_list s f k
theorem piece_nodot {s : ByteArray} {f k : Nat} (hk : k ≤ s.size) (hn : ∀ j (hj : j < s.size), f ≤ j → j < k → s[j].toNat ≠ 46) : ∀ c ∈ (s.data.toList.drop f).take (k - f), c ≠ Dc.dot := by
  intro c hc e
  obtain ⟨i, hi, rfl⟩ := List.getElem_of_mem hc
  simp only [List.length_take, List.length_drop, bytes_len] at hi
  rw [List.getElem_take, List.getElem_drop] at e
  have h1 := hn (f + i) (by omega) (by omega) (by omega)
  have e2 : s[f + i]'(by omega) = s.data.toList[f + i]'(by rw [bytes_len]; omega) := rfl
  rw [e2, e] at h1
  exact h1 rfl
theorem PRel.dot {s : ByteArray} {k f : Nat} {l : List Int} (H : PRel s k f l) (hk : k < s.size) (hd : s[k].toNat = 46) : PRel s (k + 1) (k + 1) (l ++ [numI (s.extract f k)]) := by
  rcases H with ⟨h1, h2, h3, h4⟩ | ⟨h1, _⟩
  · refine .inl ⟨Nat.le_refl _, hk, ?_, fun j hj h5 h6 => absurd h6 (by omega)⟩
    rw [← h3]
    have hdrop : s.data.toList.drop f = (s.data.toList.drop f).take (k - f) ++ Dc.dot :: s.data.toList.drop (k + 1) := by
      conv => lhs; rw [← List.take_append_drop (k - f) (s.data.toList.drop f)]
      congr 1
      rw [List.drop_drop, show f + (k - f) = k by omega, List.drop_eq_getElem_cons (by rw [bytes_len]; exact hk)]
      congr 1
      apply UInt8.toNat_inj.1
      exact hd
    have hp := Dc.parts_at _ (s.data.toList.drop (k + 1)) (piece_nodot (by omega) h4)
    unfold nums
    rw [List.append_assoc]
    congr 1
    conv => rhs; rw [hdrop, hp]
    rw [List.map_cons, ← part_at]
    rfl
  · omega
theorem PRel.step {s : ByteArray} {k f : Nat} {l : List Int} (H : PRel s k f l) (hk : k < s.size) (hd : s[k].toNat ≠ 46) : PRel s (k + 1) f l := by
  rcases H with ⟨h1, h2, h3, h4⟩ | ⟨h1, _⟩
  · refine .inl ⟨by omega, hk, h3, fun j hj h5 h6 => ?_⟩
    by_cases h : j < k
    · exact h4 j hj h5 h
    · obtain rfl : j = k := by omega
      exact hd
  · omega
theorem PRel.last {s : ByteArray} {f : Nat} {l : List Int} (H : PRel s s.size f l) : PRel s (s.size + 1) (s.size + 1) (l ++ [numI (s.extract f s.size)]) := by
  rcases H with ⟨h1, h2, h3, h4⟩ | ⟨h1, _⟩
  · refine .inr ⟨rfl, Nat.le_refl _, ?_⟩
    rw [← h3]
    congr 1
    have hd := piece_nodot (Nat.le_refl _) h4
    have e : (s.data.toList.drop f).take (s.size - f) = s.data.toList.drop f := List.take_of_length_le (by simp)
    rw [e] at hd
    unfold nums
    rw [Dc.parts_none _ hd]
    show [numI _] = [Dc.num _]
    unfold numI
    rw [part_at, e]
  · omega
theorem PRel.fk {s : ByteArray} {k f : Nat} {l : List Int} (H : PRel s k f l) : f ≤ k ∧ k ≤ s.size + 1 := by
  rcases H with ⟨h1, h2, _⟩ | ⟨h1, h2, _⟩ <;> omega
theorem PRel.done {s : ByteArray} {f : Nat} {l : List Int} (H : PRel s (s.size + 1) f l) : l = nums s.data.toList := by
  rcases H with ⟨_, h2, _⟩ | ⟨_, _, h3⟩
  · omega
  · exact h3
set_option maxRecDepth 100000 in
set_option maxHeartbeats 1000000 in
theorem refRead_core (s : ByteArray) (w : World) (hs : s.size ≤ 1048576) (R : Value)
    (hR1 : (nums s.data.toList).length ≠ 3 → R = .tuple #[(Go.Value.agg #[Go.Value.int Go.IntKind.i64 0, Go.Value.int Go.IntKind.i64 0, Go.Value.int Go.IntKind.i64 0]), .bool false])
    (hR2 : ∀ x y z, nums s.data.toList = [x, y, z] → rightB x y z = true → R = .tuple #[(Go.Value.agg #[Go.Value.int Go.IntKind.i64 x, Go.Value.int Go.IntKind.i64 y, Go.Value.int Go.IntKind.i64 z]), .bool true])
    (hR3 : ∀ x y z, nums s.data.toList = [x, y, z] → rightB x y z = false → R = .tuple #[(Go.Value.agg #[Go.Value.int Go.IntKind.i64 0, Go.Value.int Go.IntKind.i64 0, Go.Value.int Go.IntKind.i64 0]), .bool false]) :
    Calls Tryd.prog 25 #[.string s] w fun e w' => e = .returned R ∧ Below w.heap.size w w' := by
  obtain ⟨i0, hi, hz0, hz1, hz2⟩ := info_parts info_int
  have HR1 := Lib.hid hR1
  have HR2 := Lib.hid hR2
  have HR3 := Lib.hid hR3
  have HNUM : Hid (∀ t W, t.size ≤ 9223372036854775807 → Calls Tryd.prog 37 #[.string t] W fun e w' => e = .returned (.int .i64 (numI t)) ∧ w' = W) := fun t W h => Number_any t W h
  have HRT : Hid (∀ x y z W, Calls Tryd.prog 16 #[(Go.Value.agg #[Go.Value.int Go.IntKind.i64 x, Go.Value.int Go.IntKind.i64 y, Go.Value.int Go.IntKind.i64 z])] W fun e w' => e = .returned (.bool (rightB x y z)) ∧ Below W.heap.size W w') := fun x y z W => refRight_any x y z W
  clear hR1 hR2 hR3
  go_enter Tryd.func25, Tryd.ntmps25
  go_wp2_with fail
  go_loopw [4, 5, 6] (fun v fr i wr => ∃ (k f : Nat) (l : List Int), i = .int .i64 k ∧ fr = .int .i64 f ∧ f ≤ k ∧ k ≤ s.size + 1 ∧ l.length ≤ k ∧ Hid (PRel s k f l) ∧ OwnsZ wr (w.heap.size + 1) v l ∧ Hid (Below w.heap.size w wr ∧ Box wr w.heap.size 0 0 0)) (fun _ _ i _ => s.size + 1 - (intOf i).toNat)
  case atStart => exact ⟨0, 0, [], rfl, rfl, Nat.le_refl _, by omega, Nat.le_refl _, PRel.zero s, World.ownsRow_nil _ _ _ _, (Below.refl _ _).alloc (Nat.le_refl _) _, Box.new w 0 0 0⟩
  case round =>
    obtain ⟨k, f, l, rfl, rfl, hfk, hk, hlk, hp, ho, hbx⟩ := hrel
    have ho' : wr.ownsRow (w.heap.size + 1) 3 1 u4 l.length (zsV l) := ho
    have hsz := hbx.out.2.lt
    by_cases hlt : k ≤ s.size
    · have hq : ((k : Int) == (s.size : Int)) = true ∨ (((k : Int) == (s.size : Int)) = false ∧ k < s.size) := by
        by_cases h : k = s.size
        · exact .inl (by rw [beq_iff_eq]; omega)
        · exact .inr ⟨by rw [beq_eq_false_iff_ne]; omega, by omega⟩
      rcases hq with hq | ⟨hq, hks⟩
      · have hke : k = s.size := by
          rw [beq_iff_eq] at hq; omega
        subst hke
        have hext : (s.extract f s.size).size ≤ 9223372036854775807 := by rw [ByteArray.size_extract]; omega
        have HP2 : Hid (PRel s (s.size + 1) (s.size + 1) (l ++ [numI (s.extract f s.size)])) := hp.out.last
        clear hp
        go_wp2_with fail
        refine (HNUM.out _ _ hext).mono ?_
        rintro e w1 ⟨rfl, rfl⟩
        generalize numI (s.extract f s.size) = z at *
        go_wp2_with (at_builtin; refine wpList_append_own _ rfl (.tmp 24) (.tmp 30) 57 rfl (w.heap.size + 1) 3 i0 (.int .i64 0) 1 8 Tryd.underlying57 hi hz0 hz1 hz2 rfl (by decide) _ _ _ rfl (ho'.alloc _) ⟨w1.heap.size, 0, none⟩ 1 1 [.int .i64 z] rfl rfl (cell_one_new _ _ _) (ints_oneCell .i64 [z]) (by unfold maxLen; omega) (by omega) (by simp; omega) ?_; intro v' w2 hown1 hgrow1 _)
        have hb2 : Below (w.heap.size + 1) w1 w2 := ((Below.refl (w.heap.size + 1) w1).alloc (by omega) _).grown hgrow1 (by simp; omega) (fun k hk => (ho'.lt k hk).1)
        have HBX2 : Hid (Below w.heap.size w w2 ∧ Box w2 w.heap.size 0 0 0) := ⟨hbx.out.1.trans (hb2.mono (by omega)), hbx.out.2.next hb2 (by omega)⟩
        have ho1 := hown1
        rw [zsV_snoc l z] at ho1
        have HO1 : OwnsZ w2 (w.heap.size + 1) v' (l ++ [z]) := by simpa [OwnsZ] using ho1
        have hln : (l ++ [z]).length ≤ (s.size + 1) := by simp only [List.length_append, List.length_singleton]; omega
        clear ho1 hown1 hgrow1 ho' hb2 hbx ho
        go_wp2_with fail
        go_roundw
        case rel => exact ⟨(s.size + 1), (s.size + 1), _, by go_num, by go_num, by omega, by omega, hln, HP2, HO1, HBX2⟩
        case measure => (simp [intOf]; try omega)
      · by_cases hd : s[k].toNat = 46
        · have qd : ((s[k].toNat : Int) == 46) = true := by rw [beq_iff_eq]; omega
          have hext : (s.extract f k).size ≤ 9223372036854775807 := by rw [ByteArray.size_extract]; omega
          have HP2 : Hid (PRel s (k + 1) (k + 1) (l ++ [numI (s.extract f k)])) := hp.out.dot hks hd
          clear hp hd
          go_wp2_with fail
          refine (HNUM.out _ _ hext).mono ?_
          rintro e w1 ⟨rfl, rfl⟩
          generalize numI (s.extract f k) = z at *
          go_wp2_with (at_builtin; refine wpList_append_own _ rfl (.tmp 24) (.tmp 30) 57 rfl (w.heap.size + 1) 3 i0 (.int .i64 0) 1 8 Tryd.underlying57 hi hz0 hz1 hz2 rfl (by decide) _ _ _ rfl (ho'.alloc _) ⟨w1.heap.size, 0, none⟩ 1 1 [.int .i64 z] rfl rfl (cell_one_new _ _ _) (ints_oneCell .i64 [z]) (by unfold maxLen; omega) (by omega) (by simp; omega) ?_; intro v' w2 hown1 hgrow1 _)
          have hb2 : Below (w.heap.size + 1) w1 w2 := ((Below.refl (w.heap.size + 1) w1).alloc (by omega) _).grown hgrow1 (by simp; omega) (fun k hk => (ho'.lt k hk).1)
          have HBX2 : Hid (Below w.heap.size w w2 ∧ Box w2 w.heap.size 0 0 0) := ⟨hbx.out.1.trans (hb2.mono (by omega)), hbx.out.2.next hb2 (by omega)⟩
          have ho1 := hown1
          rw [zsV_snoc l z] at ho1
          have HO1 : OwnsZ w2 (w.heap.size + 1) v' (l ++ [z]) := by simpa [OwnsZ] using ho1
          have hln : (l ++ [z]).length ≤ (k + 1) := by simp only [List.length_append, List.length_singleton]; omega
          clear ho1 hown1 hgrow1 ho' hb2 hbx ho
          go_wp2_with fail
          go_roundw
          case rel => exact ⟨(k + 1), (k + 1), _, by go_num, by go_num, by omega, by omega, hln, HP2, HO1, HBX2⟩
          case measure => (simp [intOf]; try omega)
        · have qd : ((s[k].toNat : Int) == 46) = false := by rw [beq_eq_false_iff_ne]; omega
          have HP2 : Hid (PRel s (k + 1) f l) := hp.out.step hks hd
          clear hp hd
          go_wp2_with fail
          go_roundw
          case rel => exact ⟨k + 1, f, l, by go_num, rfl, by omega, by omega, by omega, HP2, ho, hbx⟩
          case measure => (simp [intOf]; try omega)
    · have hke : k = s.size + 1 := by omega
      subst hke
      have hl := hp.out.done
      have HL := Lib.hid hl
      clear hl hp
      by_cases h3 : l.length = 3
      · match l, h3, ho', HL with
        | [x, y, z], _, ho', HL =>
          obtain ⟨g, cap, rfl⟩ := Joins.ownsRow_form ho' (by show 0 < 3; omega)
          have c0 : wr.cell? ⟨g, 0, none⟩ = some (.int .i64 x) := ho'.cellAt 0 (by show 0 < 3; omega)
          have c1 : wr.cell? ⟨g, 1, none⟩ = some (.int .i64 y) := ho'.cellAt 1 (by show 1 < 3; omega)
          have c2 : wr.cell? ⟨g, 2, none⟩ = some (.int .i64 z) := ho'.cellAt 2 (by show 2 < 3; omega)
          have HRX : Hid (∀ W, Calls Tryd.prog 16 #[(Go.Value.agg #[Go.Value.int Go.IntKind.i64 x, Go.Value.int Go.IntKind.i64 y, Go.Value.int Go.IntKind.i64 z])] W fun e w' => e = .returned (.bool (rightB x y z)) ∧ Below W.heap.size W w') := fun W => HRT.out x y z W
          have HRA := Lib.hid (HR2.out x y z HL.out.symm)
          have HRB := Lib.hid (HR3.out x y z HL.out.symm)
          clear HR1 HR2 HR3 HRT ho' ho HL HNUM
          generalize rightB x y z = rb at *
          go_wp2_with fail
          go_region_held3 (fun W => W.cell? ⟨g, 0, none⟩ = some (.int .i64 x) ∧ W.cell? ⟨g, 1, none⟩ = some (.int .i64 y) ∧ W.cell? ⟨g, 2, none⟩ = some (.int .i64 z)) (go_keep) (fail)
          go_wp2_with fail
          refine (HRX.out _).mono ?_
          rintro e w1 ⟨rfl, hb1⟩
          have hba : Below wr.heap.size wr (wr.alloc (.cells #[.int .i64 x, .int .i64 y, .int .i64 z] 23)).drew := ((Below.refl _ _).alloc (Nat.le_refl _) _).drew
          have hsa : wr.heap.size ≤ ((wr.alloc (.cells #[.int .i64 x, .int .i64 y, .int .i64 z] 23)).drew).heap.size := hba.size
          have HY : Hid (Box w1 wr.heap.size x y z) := (Box.new wr x y z).drew.over hb1
          have hbz := hba.trans (hb1.mono hsa)
          have HX : Hid (Box w1 w.heap.size 0 0 0) := hbx.out.2.over hbz
          have hbb : Below w.heap.size w w1 := hbx.out.1.trans (hbz.mono hbx.out.1.size)
          clear hba hsa hb1 hbz hbx
          cases rb
          · go_wp2_with (refine box_store w.heap.size HX.out rfl _ _ rfl rfl rfl ?_)
            exact bodyPost_ret (box_result2 rfl _ _ w.heap.size rfl (HX.out.set 0 0 0)) rfl ⟨by rw [HRB.out (by first | rfl | trivial)]; rfl, below_setRow hbb (Nat.le_refl _) _⟩
          · go_wp2_with (first | (refine box_load wr.heap.size HY.out rfl _ rfl rfl ?_) | (refine box_store w.heap.size HX.out rfl _ _ rfl rfl rfl ?_))
            exact bodyPost_ret (box_result2 rfl _ _ w.heap.size rfl (HX.out.set x y z)) rfl ⟨by rw [HRA.out (by first | rfl | trivial)]; rfl, below_setRow hbb (Nat.le_refl _) _⟩
      · have hne : ((l.length : Int) == 3) = false := by rw [beq_eq_false_iff_ne]; omega
        have HRA : Hid (R = .tuple #[(Go.Value.agg #[Go.Value.int Go.IntKind.i64 0, Go.Value.int Go.IntKind.i64 0, Go.Value.int Go.IntKind.i64 0]), .bool false]) := HR1.out (by rw [← HL.out]; exact h3)
        obtain ⟨rfl, h0⟩ | ⟨g, cap, rfl⟩ := Joins.ownsRow_forms ho'
        · rw [h0] at hne
          clear h3 ho' ho
          go_wp2_with (refine box_store w.heap.size hbx.out.2 rfl _ _ rfl rfl rfl ?_)
          exact bodyPost_ret (box_result2 rfl _ _ w.heap.size rfl (hbx.out.2.set 0 0 0)) rfl ⟨by rw [HRA.out]; rfl, below_setRow hbx.out.1 (Nat.le_refl _) _⟩
        · clear h3 ho' ho
          go_wp2_with (refine box_store w.heap.size hbx.out.2 rfl _ _ rfl rfl rfl ?_)
          exact bodyPost_ret (box_result2 rfl _ _ w.heap.size rfl (hbx.out.2.set 0 0 0)) rfl ⟨by rw [HRA.out]; rfl, below_setRow hbx.out.1 (Nat.le_refl _) _⟩

end Go.Proofs.YtccieoofjopbkaaDoor
