/-
  Read of any text: the stamp whose printed form it is, or none. Likewise the document's.
-/
import Derived.Test.YtccieoofjopbkaaDoorStRead
import Derived.Test.YtccieoofjopbkaaDoorStRefRead
set_option linter.unusedVariables false
namespace Go.Proofs.YtccieoofjopbkaaDoor
open Go.RowKit

theorem index_dot : ∀ (l r : List UInt8), (∀ c ∈ l, c ≠ Dc.dot) → Lib.index (l ++ Dc.dot :: r) [46] = l.length := by
  intro l r h
  refine Lib.index_first (by simp) ?_ (fun j hj => ?_)
  · unfold Lib.occAt
    rw [List.drop_left]; rfl
  · unfold Lib.occAt
    rw [List.drop_append_of_le_length (by omega), List.drop_eq_getElem_cons hj]
    have hne := h l[j] (List.getElem_mem _)
    have e : ((46 : UInt8) == l[j]) = false := by
      rw [beq_eq_false_iff_ne]
      intro e; exact hne e.symm
    show ([46] : List UInt8).isPrefixOf (l[j] :: _) = false
    simp [List.isPrefixOf, e]
theorem split_dot (k : Nat) (l r : List UInt8) (h : ∀ c ∈ l, c ≠ Dc.dot) : Lib.splitB dotS 0 (k + 1) (S (l ++ Dc.dot :: r)) = S l :: Lib.splitB dotS 0 k (S r) := by
  rw [Lib.splitB_hit dotS 0 k (S (l ++ Dc.dot :: r)) l.length (index_dot l r h)]
  congr 1
  · rw [extract_front, S_list, Nat.add_zero, List.take_left]
  · have e : dotS.size = 1 := rfl
    rw [e, extract_back, S_list]
    congr 2
    have : l ++ Dc.dot :: r = (l ++ [Dc.dot]) ++ r := by simp
    rw [this]
    exact List.drop_left' (by simp)

theorem showS_text {a b c : Int} : showS a b c = S (Dc.text a.toNat b.toNat c.toNat) := by
  have e : ({ data := #[46] } : ByteArray) = S [Dc.dot] := rfl
  unfold showS Dc.text decI
  have f : ∀ n, decS n = S (Lib.decDigits n) := fun n => rfl
  rw [f, f, f, e, S_append, S_append, S_append, S_append]
  simp
theorem text_len (x y z : Nat) : 5 ≤ (Dc.text x y z).length := by
  have h1 := Dc.dec_pos x
  have h2 := Dc.dec_pos y
  have h3 := Dc.dec_pos z
  unfold Dc.text
  simp only [List.length_append, List.length_cons]
  omega
theorem pieces_text (x y z : Nat) : pieces (S (Dc.text x y z)) = [S (Lib.decDigits x), S (Lib.decDigits y), S (Lib.decDigits z)] := by
  have hl := text_len x y z
  unfold pieces
  have e : min 3 ((S (Dc.text x y z)).size + 1) - 1 = 1 + 1 := by rw [S_size]; omega
  rw [e]
  unfold Dc.text
  rw [split_dot 1 _ _ (Dc.no_dot x), split_dot 0 _ _ (Dc.no_dot y)]
  rfl
theorem showS_size {a b c : Int} (h : rightB a b c = true) : (showS a b c).size ≤ 100 := by
  obtain ⟨ha, hb, hc⟩ := rightB_true h
  have h1 := decI_size (n := a) (by omega)
  have h2 := decI_size (n := b) (by omega)
  have h3 := decI_size (n := c) (by omega)
  unfold showS
  simp only [ByteArray.size_append]
  have e : ({ data := #[46] } : ByteArray).size = 1 := rfl
  omega
theorem toList_eq_of {t s : ByteArray} (h : t = s) : (t.toList == s.toList) = true := by rw [h]; simp

theorem Read_yes (a b c : Int) (w : World) (hT : StTab w) (h : rightB a b c = true) : Calls Tryd.prog 23 #[.string (showS a b c)] w fun e w' => e = .returned (.tuple #[(Go.Value.agg #[Go.Value.int Go.IntKind.i64 a, Go.Value.int Go.IntKind.i64 b, Go.Value.int Go.IntKind.i64 c]), .int .i64 0]) ∧ Below w.heap.size w w' := by
  obtain ⟨ha, hb, hc⟩ := rightB_true h
  have hz := showS_size h
  obtain ⟨x, rfl⟩ := Int.eq_ofNat_of_zero_le ha.1
  obtain ⟨y, rfl⟩ := Int.eq_ofNat_of_zero_le hb.1
  obtain ⟨z, rfl⟩ := Int.eq_ofNat_of_zero_le hc.1
  refine Read_true (showS x y z) (showS x y z) x y z w true (toList_eq_of rfl) (fun h => by cases h) (fun _ => rfl) (fun W hW => ?_) (fun W hW => Show_any x y z W hW h) hT _ rfl
  have hp : pieces (showS x y z) = [S (Lib.decDigits x), S (Lib.decDigits y), S (Lib.decDigits z)] := by
    rw [showS_text]
    simpa only [Int.toNat_natCast] using pieces_text x y z
  refine parsed_three (showS x y z) (fun k => S (Lib.decDigits (if k = 0 then x else if k = 1 then y else z))) (fun k => if k = 0 then (x : Int) else if k = 1 then (y : Int) else (z : Int)) 3 (Nat.le_refl _) W hW (by omega) hp (fun k => ?_) (fun k hk => ?_) (fun h => absurd h (by omega)) _ (fun h => absurd h (by omega)) (fun _ => rfl)
  · have key : ∀ n : Nat, n ≤ 1099511627776 → (S (Lib.decDigits n)).size ≤ 281474976710656 := fun n hn => by
      have := decI_size (n := (n : Int)) (by omega)
      rw [decI_nat] at this
      omega
    refine key _ ?_
    split
    · omega
    · split <;> omega
  · have : k = 0 ∨ k = 1 ∨ k = 2 := by omega
    rcases this with rfl | rfl | rfl
    · exact Dc.atoi_dec (n := x) (by omega)
    · exact Dc.atoi_dec (n := y) (by omega)
    · exact Dc.atoi_dec (n := z) (by omega)

/-- What Show makes of any stamp. -/
def showR (x y z : Int) : ByteArray := if rightB x y z then showS x y z else { data := #[] }
theorem ShowR_any (x y z : Int) (W : World) (hW : StTab W) : Calls Tryd.prog 22 #[(Go.Value.agg #[Go.Value.int Go.IntKind.i64 x, Go.Value.int Go.IntKind.i64 y, Go.Value.int Go.IntKind.i64 z])] W fun e w' => e = .returned (.string (showR x y z)) ∧ Below W.heap.size W w' := by
  unfold showR
  cases h : rightB x y z
  · exact Show_bad x y z W h
  · exact Show_any x y z W hW h

theorem okEx (p : ByteArray) : (∃ v, Lib.atoiAll p.data.toList = .ok v) ∨ (∀ v, Lib.atoiAll p.data.toList ≠ .ok v) := by
  by_cases h : ∃ v, Lib.atoiAll p.data.toList = .ok v
  · exact .inl h
  · exact .inr fun v hv => h ⟨v, hv⟩

/-- How far the three pieces are numbers. -/
theorem upto_ok (p q r : ByteArray) : ∃ (K : Nat) (v : Nat → Int), K ≤ 3 ∧ (∀ k, k < K → Lib.atoiAll ((fun k => if k = 0 then p else if k = 1 then q else r) k).data.toList = .ok (v k)) ∧ (K < 3 → ∀ x, Lib.atoiAll ((fun k => if k = 0 then p else if k = 1 then q else r) K).data.toList ≠ .ok x) := by
  rcases okEx p with ⟨x, hx⟩ | hx
  · rcases okEx q with ⟨y, hy⟩ | hy
    · rcases okEx r with ⟨z, hz⟩ | hz
      · refine ⟨3, fun k => if k = 0 then x else if k = 1 then y else z, Nat.le_refl _, fun k hk => ?_, fun h => absurd h (by omega)⟩
        have : k = 0 ∨ k = 1 ∨ k = 2 := by omega
        rcases this with rfl | rfl | rfl <;> assumption
      · refine ⟨2, fun k => if k = 0 then x else y, by omega, fun k hk => ?_, fun _ => hz⟩
        have : k = 0 ∨ k = 1 := by omega
        rcases this with rfl | rfl <;> assumption
    · refine ⟨1, fun k => x, by omega, fun k hk => ?_, fun _ => hy⟩
      have : k = 0 := by omega
      subst this; assumption
  · exact ⟨0, fun _ => 0, by omega, fun k hk => absurd hk (by omega), fun _ => hx⟩

theorem piece_size (s : ByteArray) {p q r : ByteArray} (h : pieces s = [p, q, r]) : p.size ≤ s.size ∧ q.size ≤ s.size ∧ r.size ≤ s.size := by
  have key : ∀ (k : Nat) (t : ByteArray), ∀ x ∈ Lib.splitB dotS 0 k t, x.size ≤ t.size := by
    intro k
    induction k with
    | zero => intro t x hx; obtain rfl := List.mem_singleton.1 hx; exact Nat.le_refl _
    | succ k ih =>
      intro t x hx
      unfold Lib.splitB at hx
      split at hx
      · obtain rfl := List.mem_singleton.1 hx; exact Nat.le_refl _
      · rcases List.mem_cons.1 hx with rfl | hx
        · rw [ByteArray.size_extract]; omega
        · have := ih _ x hx
          rw [ByteArray.size_extract] at this; omega
  have h1 := key (min 3 (s.size + 1) - 1) s
  unfold pieces at h
  rw [h] at h1
  exact ⟨h1 p (by simp), h1 q (by simp), h1 r (by simp)⟩

theorem Read_no (s : ByteArray) (w : World) (hT : StTab w) (hs : s.size ≤ 1048576) (h : ∀ a b c, rightB a b c = true → s ≠ showS a b c) : Calls Tryd.prog 23 #[.string s] w fun e w' => e = .returned (.tuple #[(Go.Value.agg #[Go.Value.int Go.IntKind.i64 0, Go.Value.int Go.IntKind.i64 0, Go.Value.int Go.IntKind.i64 0]), .int .i64 3]) ∧ Below w.heap.size w w' := by
  have hle := pieces_le s
  by_cases h3 : (pieces s).length < 3
  · exact Read_false s 0 0 0 w (fun W hW => parsed_short s W hW (by omega) h3) hT
  · have h4 : (pieces s).length = 3 := by omega
    match hp : pieces s, h4 with
    | [p, q, r], _ =>
      have hz := piece_size s hp
      obtain ⟨K, v, hK, hok, hbad⟩ := upto_ok p q r
      have hzz : ∀ k, ((fun k => if k = 0 then p else if k = 1 then q else r) k).size ≤ 281474976710656 := by
        intro k
        show (if k = 0 then p else if k = 1 then q else r).size ≤ _
        split
        · omega
        · split <;> omega
      by_cases hk3 : K < 3
      · exact Read_false s 0 0 0 w (fun W hW => parsed_three s _ v K hK W hW (by omega) hp hzz hok hbad _ (fun _ => rfl) (fun h => absurd h (by omega))) hT
      · have hK3 : K = 3 := by omega
        have hpos : 0 < s.size := by
          rcases Nat.eq_zero_or_pos s.size with h0 | h0
          · exfalso
            have h5 := Lib.splitB_length_le dotS 0 (min 3 (s.size + 1) - 1) s
            have h6 : (pieces s).length = 3 := by rw [hp]; rfl
            unfold pieces at h6
            omega
          · exact h0
        have hne : showR (v 0) (v 1) (v 2) ≠ s := by
          unfold showR
          cases hr : rightB (v 0) (v 1) (v 2)
          · intro e
            have e2 : ({ data := #[] } : ByteArray) = s := e
            rw [← e2] at hpos
            exact absurd hpos (by decide)
          · intro e
            exact h _ _ _ hr e.symm
        have hl : ¬ (showR (v 0) (v 1) (v 2)).toList = s.toList := fun e => hne (list_inj e)
        exact Read_true s (showR (v 0) (v 1) (v 2)) (v 0) (v 1) (v 2) w false (beq_eq_false_iff_ne.2 hl) (fun _ => hl) (fun h => by cases h)
          (fun W hW => parsed_three s _ v K hK W hW (by omega) hp hzz hok hbad _ (fun h => absurd h (by omega)) (fun _ => rfl)) (fun W hW => ShowR_any _ _ _ W hW) hT _ rfl

/-! ### The document's -/
theorem nums_three {l : List UInt8} {x y z : Int} (h : nums l = [x, y, z]) : Dc.three l = some (x, y, z) := by
  unfold Dc.three
  unfold nums at h
  rw [h]
theorem refRead_yes (a b c : Int) (w : World) (h : rightB a b c = true) : Calls Tryd.prog 25 #[.string (showS a b c)] w fun e w' => e = .returned (.tuple #[(Go.Value.agg #[Go.Value.int Go.IntKind.i64 a, Go.Value.int Go.IntKind.i64 b, Go.Value.int Go.IntKind.i64 c]), .bool true]) ∧ Below w.heap.size w w' := by
  obtain ⟨ha, hb, hc⟩ := rightB_true h
  have hz := showS_size h
  have hn : nums (showS a b c).data.toList = [a, b, c] := by
    obtain ⟨x, rfl⟩ := Int.eq_ofNat_of_zero_le ha.1
    obtain ⟨y, rfl⟩ := Int.eq_ofNat_of_zero_le hb.1
    obtain ⟨z, rfl⟩ := Int.eq_ofNat_of_zero_le hc.1
    rw [showS_text]
    show nums (Dc.text (x : Int).toNat (y : Int).toNat (z : Int).toNat) = _
    unfold nums
    simp only [Int.toNat_natCast]
    have e13 : (10 : Nat) ^ 13 = 10000000000000 := by decide
    rw [Dc.parts_text]
    simp only [List.map_cons, List.map_nil]
    rw [Dc.num_dec (by omega), Dc.num_dec (by omega), Dc.num_dec (by omega)]
  refine refRead_core (showS a b c) w (by omega) _ (fun hl => ?_) (fun x y z e hr => ?_) (fun x y z e hr => ?_)
  · rw [hn] at hl; exact absurd rfl hl
  · rw [hn] at e
    simp only [List.cons.injEq, and_true] at e
    obtain ⟨rfl, rfl, rfl⟩ := e
    rfl
  · rw [hn] at e
    simp only [List.cons.injEq, and_true] at e
    obtain ⟨rfl, rfl, rfl⟩ := e
    rw [h] at hr; cases hr
theorem refRead_no (s : ByteArray) (w : World) (hs : s.size ≤ 1048576) (h : ∀ a b c, rightB a b c = true → s ≠ showS a b c) : Calls Tryd.prog 25 #[.string s] w fun e w' => e = .returned (.tuple #[(Go.Value.agg #[Go.Value.int Go.IntKind.i64 0, Go.Value.int Go.IntKind.i64 0, Go.Value.int Go.IntKind.i64 0]), .bool false]) ∧ Below w.heap.size w w' := by
  refine refRead_core s w hs _ (fun _ => rfl) (fun x y z e hr => ?_) (fun _ _ _ _ _ => rfl)
  exfalso
  obtain ⟨ha, hb, hc⟩ := rightB_true hr
  have ht := Dc.text_of (nums_three e) ha.1 hb.1 hc.1
  refine h x y z hr ?_
  rw [showS_text, ← ht, S_of]

end Go.Proofs.YtccieoofjopbkaaDoor
