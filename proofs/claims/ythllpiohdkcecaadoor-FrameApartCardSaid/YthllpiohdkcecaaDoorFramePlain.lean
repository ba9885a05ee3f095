/-
  Plain facts on frames as lists of bytes: a body's frame, what is taken of any bytes, the frames at the beginning of any bytes; frames one behind the other, cut off anywhere. No program, no walk.
-/
import Derived.Test.YthllpiohdkcecaaDoorPkPlain
import Derived.Test.YthllpiohdkcecaaDoorCkPlain
namespace Go.Proofs.YthllpiohdkcecaaDoor.Fm

/-- A body with its length ahead, and its frame. -/
def head (b : List UInt8) : List UInt8 := Pk.enc b.length ++ b
def fr (b : List UInt8) : List UInt8 := head b ++ Ck.four (Ck.sum (head b))
theorem head_len (b : List UInt8) : (head b).length = (Pk.enc b.length).length + b.length := by simp [head]
theorem fr_len (b : List UInt8) : (fr b).length = (Pk.enc b.length).length + b.length + 4 := by
  unfold fr; rw [List.length_append, head_len, Ck.four_length]
theorem fr_pos (b : List UInt8) : 5 ≤ (fr b).length := by
  rw [fr_len]; have := Pk.enc_pos b.length; omega
theorem fr_le {b : List UInt8} (h : b.length ≤ 1048576) : (fr b).length ≤ b.length + 7 := by
  rw [fr_len]
  have := Pk.enc_len 2 b.length (by
    have : (128 : Nat) ^ (2 + 1) = 2097152 := by decide
    omega)
  omega

/-- The frame at the beginning: its body, what stands behind it, the error's number. -/
def takeF (l : List UInt8) : List UInt8 × List UInt8 × Nat :=
  if (Pk.take l).2.2 ≠ 0 then ([], [], (Pk.take l).2.2)
  else if 1048576 < (Pk.take l).1 then ([], [], 3)
  else if (Pk.take l).2.1.length < (Pk.take l).1 + 4 then ([], [], 2)
  else if fr ((Pk.take l).2.1.take (Pk.take l).1) = l.take (fr ((Pk.take l).2.1.take (Pk.take l).1)).length then
    ((Pk.take l).2.1.take (Pk.take l).1, l.drop (fr ((Pk.take l).2.1.take (Pk.take l).1)).length, 0)
  else ([], [], 4)

theorem takeF_err {l : List UInt8} (h : (Pk.take l).2.2 ≠ 0) : takeF l = ([], [], (Pk.take l).2.2) := by unfold takeF; rw [if_pos h]
theorem takeF_long {l r : List UInt8} {n : Nat} (h : Pk.take l = (n, r, 0)) (h1 : 1048576 < n) : takeF l = ([], [], 3) := by
  unfold takeF; rw [h]; rw [if_neg (by simp), if_pos h1]
theorem takeF_short {l r : List UInt8} {n : Nat} (h : Pk.take l = (n, r, 0)) (h1 : ¬ 1048576 < n) (h2 : r.length < n + 4) : takeF l = ([], [], 2) := by
  unfold takeF; rw [h]; rw [if_neg (by simp), if_neg h1, if_pos h2]
theorem takeF_good {l r : List UInt8} {n : Nat} (h : Pk.take l = (n, r, 0)) (h1 : ¬ 1048576 < n) (h2 : ¬ r.length < n + 4) (h3 : fr (r.take n) = l.take (fr (r.take n)).length) :
    takeF l = (r.take n, l.drop (fr (r.take n)).length, 0) := by
  unfold takeF; rw [h]; rw [if_neg (by simp), if_neg h1, if_neg h2, if_pos h3]
theorem takeF_sum {l r : List UInt8} {n : Nat} (h : Pk.take l = (n, r, 0)) (h1 : ¬ 1048576 < n) (h2 : ¬ r.length < n + 4) (h3 : fr (r.take n) ≠ l.take (fr (r.take n)).length) :
    takeF l = ([], [], 4) := by
  unfold takeF; rw [h]; rw [if_neg (by simp), if_neg h1, if_neg h2, if_neg h3]

/-- A frame is taken back, whatever stands behind it. -/
theorem takeF_back {b : List UInt8} (hb : b.length ≤ 1048576) (more : List UInt8) : takeF (fr b ++ more) = (b, more, 0) := by
  have e : fr b ++ more = Pk.enc b.length ++ (b ++ (Ck.four (Ck.sum (head b)) ++ more)) := by unfold fr head; simp
  have h := Pk.take_back (n := b.length) (by omega) (b ++ (Ck.four (Ck.sum (head b)) ++ more))
  rw [← e] at h
  have e2 : (b ++ (Ck.four (Ck.sum (head b)) ++ more)).take b.length = b := List.take_left
  rw [takeF_good h (by omega) (by simp only [List.length_append, Ck.four_length]; omega) (by rw [e2]; exact List.take_left.symm), e2]
  rw [List.drop_left]

/-- What is taken stands there as a frame. -/
theorem takeF_ok {l : List UInt8} (h : (takeF l).2.2 = 0) : l = fr (takeF l).1 ++ (takeF l).2.1 ∧ (takeF l).1.length ≤ 1048576 := by
  rcases ht : Pk.take l with ⟨n, r, q⟩
  by_cases h0 : q = 0
  · subst h0
    by_cases h1 : 1048576 < n
    · rw [takeF_long ht h1] at h; simp at h
    · by_cases h2 : r.length < n + 4
      · rw [takeF_short ht h1 h2] at h; simp at h
      · by_cases h3 : fr (r.take n) = l.take (fr (r.take n)).length
        · rw [takeF_good ht h1 h2 h3]
          refine ⟨?_, by simp; omega⟩
          show l = fr (r.take n) ++ l.drop (fr (r.take n)).length
          have h4 := List.take_append_drop (fr (r.take n)).length l
          rw [← h3] at h4
          exact h4.symm
        · rw [takeF_sum ht h1 h2 h3] at h; simp at h
  · have : (Pk.take l).2.2 ≠ 0 := by rw [ht]; exact h0
    rw [takeF_err this] at h
    exact absurd h this

theorem takeF_bad {l : List UInt8} (h : (takeF l).2.2 ≠ 0) : (takeF l).1 = [] ∧ (takeF l).2.1 = [] := by
  rcases ht : Pk.take l with ⟨n, r, q⟩
  by_cases h0 : q = 0
  · subst h0
    by_cases h1 : 1048576 < n
    · rw [takeF_long ht h1]; simp
    · by_cases h2 : r.length < n + 4
      · rw [takeF_short ht h1 h2]; simp
      · by_cases h3 : fr (r.take n) = l.take (fr (r.take n)).length
        · rw [takeF_good ht h1 h2 h3] at h; simp at h
        · rw [takeF_sum ht h1 h2 h3]; simp
  · have : (Pk.take l).2.2 ≠ 0 := by rw [ht]; exact h0
    rw [takeF_err this]; simp

/-- No frame begins with another one's. -/
theorem fr_prefix {a b more : List UInt8} (ha : a.length ≤ 1048576) (hb : b.length ≤ 1048576) (h : fr b = fr a ++ more) : a = b ∧ more = [] := by
  have h1 := takeF_back hb []
  rw [List.append_nil, h, takeF_back ha more] at h1
  simp only [Prod.mk.injEq, and_true] at h1
  exact h1
theorem fr_inj {a b : List UInt8} (ha : a.length ≤ 1048576) (hb : b.length ≤ 1048576) (h : fr a = fr b) : a = b := (fr_prefix ha hb (by rw [h, List.append_nil])).1

/-- A frame that is cut short is not taken. -/
theorem takeF_cut {b : List UInt8} {k : Nat} (hb : b.length ≤ 1048576) (hk : k < (fr b).length) : (takeF ((fr b).take k)).2.2 ≠ 0 := by
  intro h
  obtain ⟨h1, h2⟩ := takeF_ok h
  have h3 := List.take_append_drop k (fr b)
  generalize (takeF ((fr b).take k)).1 = c at *
  generalize (takeF ((fr b).take k)).2.1 = r at *
  have h4 : fr b = fr c ++ (r ++ (fr b).drop k) := by rw [← List.append_assoc, ← h1]; exact h3.symm
  have h5 := (fr_prefix h2 hb h4).2
  have h6 : ((fr b).drop k).length = 0 := by
    have := congrArg List.length h5
    simp at this ⊢
    omega
  simp at h6; omega
theorem takeF_nil : (takeF []).2.2 ≠ 0 := by decide

/-! ### All frames at the beginning -/
def allN : Nat → List UInt8 → List (List UInt8)
  | 0, _ => []
  | f + 1, l => if (takeF l).2.2 = 0 then (takeF l).1 :: allN f (takeF l).2.1 else []
def lastN : Nat → List UInt8 → List UInt8
  | 0, l => l
  | f + 1, l => if (takeF l).2.2 = 0 then lastN f (takeF l).2.1 else l
/-- The bodies, and what stands behind their frames. -/
def all (l : List UInt8) : List (List UInt8) := allN (l.length + 1) l
def last (l : List UInt8) : List UInt8 := lastN (l.length + 1) l

theorem takeF_lt {l : List UInt8} (h : (takeF l).2.2 = 0) : (takeF l).2.1.length + 5 ≤ l.length := by
  have h1 := (takeF_ok h).1
  have h2 := fr_pos (takeF l).1
  have h3 := congrArg List.length h1
  rw [List.length_append] at h3
  omega
theorem allN_eq : ∀ (f g : Nat) (l : List UInt8), l.length < f → l.length < g → allN f l = allN g l
  | 0, _, _, h, _ => absurd h (Nat.not_lt_zero _)
  | _ + 1, 0, _, _, h => absurd h (Nat.not_lt_zero _)
  | f + 1, g + 1, l, hf, hg => by
    unfold allN
    by_cases h : (takeF l).2.2 = 0
    · have := takeF_lt h
      rw [if_pos h, if_pos h, allN_eq f g _ (by omega) (by omega)]
    · rw [if_neg h, if_neg h]
theorem lastN_eq : ∀ (f g : Nat) (l : List UInt8), l.length < f → l.length < g → lastN f l = lastN g l
  | 0, _, _, h, _ => absurd h (Nat.not_lt_zero _)
  | _ + 1, 0, _, _, h => absurd h (Nat.not_lt_zero _)
  | f + 1, g + 1, l, hf, hg => by
    unfold lastN
    by_cases h : (takeF l).2.2 = 0
    · have := takeF_lt h
      rw [if_pos h, if_pos h, lastN_eq f g _ (by omega) (by omega)]
    · rw [if_neg h, if_neg h]
theorem all_yes {l b r : List UInt8} (h : takeF l = (b, r, 0)) : all l = b :: all r := by
  have h0 : (takeF l).2.2 = 0 := by rw [h]
  have h1 := takeF_lt h0
  rw [h] at h1
  unfold all
  rw [allN, if_pos h0, h]
  show b :: allN l.length r = _
  rw [allN_eq l.length (r.length + 1) r (by simp at h1; omega) (by omega)]
theorem last_yes {l b r : List UInt8} (h : takeF l = (b, r, 0)) : last l = last r := by
  have h0 : (takeF l).2.2 = 0 := by rw [h]
  have h1 := takeF_lt h0
  rw [h] at h1
  unfold last
  rw [lastN, if_pos h0, h]
  show lastN l.length r = _
  rw [lastN_eq l.length (r.length + 1) r (by simp at h1; omega) (by omega)]
theorem all_no {l : List UInt8} (h : (takeF l).2.2 ≠ 0) : all l = [] := by unfold all; rw [allN, if_neg h]
theorem last_no {l : List UInt8} (h : (takeF l).2.2 ≠ 0) : last l = l := by unfold last; rw [lastN, if_neg h]

/-- Frames one behind the other. -/
def row (bs : List (List UInt8)) : List UInt8 := bs.flatMap fr
theorem row_cons (b : List UInt8) (bs : List (List UInt8)) : row (b :: bs) = fr b ++ row bs := by simp [row]
theorem row_append (a b : List (List UInt8)) : row (a ++ b) = row a ++ row b := by simp [row]
theorem all_row : ∀ (bs : List (List UInt8)) (t : List UInt8), (∀ b ∈ bs, b.length ≤ 1048576) → (takeF t).2.2 ≠ 0 → all (row bs ++ t) = bs ∧ last (row bs ++ t) = t
  | [], t, _, ht => by
    have : row [] ++ t = t := rfl
    rw [this]; exact ⟨all_no ht, last_no ht⟩
  | b :: bs, t, hb, ht => by
    have ih := all_row bs t (fun x hx => hb x (List.mem_cons_of_mem _ hx)) ht
    have h := takeF_back (hb b List.mem_cons_self) (row bs ++ t)
    rw [row_cons, List.append_assoc, all_yes h, last_yes h, ih.1, ih.2]
    exact ⟨rfl, rfl⟩

/-- Cut off: if the first k are there as a whole, and not one more, just those are told. -/
theorem all_cut {bs : List (List UInt8)} {k c : Nat} (hb : ∀ b ∈ bs, b.length ≤ 1048576) (hc : (row (bs.take k)).length ≤ c) (hm : k < bs.length → c < (row (bs.take (k + 1))).length) (hl : c ≤ (row bs).length) :
    all ((row bs).take c) = bs.take k ∧ (last ((row bs).take c)).length + (row (bs.take k)).length = c := by
  have e : row bs = row (bs.take k) ++ row (bs.drop k) := by rw [← row_append, List.take_append_drop]
  have e2 : (row bs).take c = row (bs.take k) ++ (row (bs.drop k)).take (c - (row (bs.take k)).length) := by
    rw [e, List.take_append, List.take_of_length_le hc]
  have hbt : ∀ b ∈ bs.take k, b.length ≤ 1048576 := fun b h => hb b (List.mem_of_mem_take h)
  rcases Nat.lt_or_ge k bs.length with h | h
  · have h1 := hm h
    have ed : bs.drop k = bs[k] :: bs.drop (k + 1) := List.drop_eq_getElem_cons h
    have et : bs.take (k + 1) = bs.take k ++ [bs[k]] := List.take_succ_eq_append_getElem h
    have hlen : (row (bs.take (k + 1))).length = (row (bs.take k)).length + (fr bs[k]).length := by
      rw [et, row_append, List.length_append, row_cons]; simp [row]
    have hlt : c - (row (bs.take k)).length < (fr bs[k]).length := by omega
    have e3 : (row (bs.drop k)).take (c - (row (bs.take k)).length) = (fr bs[k]).take (c - (row (bs.take k)).length) := by
      rw [ed, row_cons, List.take_append_of_le_length (by omega)]
    rw [e2, e3]
    have := all_row (bs.take k) ((fr bs[k]).take (c - (row (bs.take k)).length)) hbt (takeF_cut (hb _ (List.getElem_mem h)) hlt)
    rw [this.1, this.2]
    refine ⟨rfl, ?_⟩
    rw [List.length_take]; omega
  · have ed : bs.drop k = [] := List.drop_of_length_le h
    have e3 : (row (bs.drop k)).take (c - (row (bs.take k)).length) = [] := by rw [ed]; simp [row]
    rw [e2, e3]
    have := all_row (bs.take k) [] hbt takeF_nil
    rw [this.1, this.2]
    refine ⟨rfl, ?_⟩
    have : (row bs).length = (row (bs.take k)).length := by rw [List.take_of_length_le h]
    simp; omega

/-- One byte of the body or the sum turned: the length is read as it was, and the sum is wrong. -/
theorem takeF_turn {b : List UInt8} {at_ : Nat} {x : UInt8} (more : List UInt8) (hb : b.length < 128) (h1 : 1 ≤ at_) (h2 : at_ < (fr b).length) (hx : (fr b).getD at_ 0 ≠ x) :
    takeF ((fr b).set at_ x ++ more) = ([], [], 4) := by
  have henc : Pk.enc b.length = [UInt8.ofNat b.length] := Pk.enc_small hb
  have hlen := fr_len b
  rw [henc] at hlen
  simp only [List.length_singleton] at hlen
  have hs : (fr b).set at_ x = Pk.enc b.length ++ (b ++ Ck.four (Ck.sum (head b))).set (at_ - 1) x := by
    have : fr b = UInt8.ofNat b.length :: (b ++ Ck.four (Ck.sum (head b))) := by unfold fr head; rw [henc]; simp
    rw [this, henc]
    obtain ⟨m, rfl⟩ : ∃ m, at_ = m + 1 := ⟨at_ - 1, by omega⟩
    simp
  have ht : Pk.take ((fr b).set at_ x ++ more) = (b.length, (b ++ Ck.four (Ck.sum (head b))).set (at_ - 1) x ++ more, 0) := by
    rw [hs, List.append_assoc]
    exact Pk.take_back (by omega) _
  generalize hr : (b ++ Ck.four (Ck.sum (head b))).set (at_ - 1) x = r at *
  have hrl : r.length = b.length + 4 := by rw [← hr]; simp [Ck.four_length]
  have hbl : ((r ++ more).take b.length).length = b.length := by simp; omega
  refine takeF_sum ht (by omega) (by simp; omega) ?_
  intro h
  have hfl : (fr ((r ++ more).take b.length)).length = (fr b).length := by rw [fr_len, fr_len, hbl]
  rw [hfl] at h
  have h' : fr ((r ++ more).take b.length) = (fr b).set at_ x := by
    rw [h, List.take_append_of_le_length (by rw [List.length_set]; exact Nat.le_refl _), List.take_of_length_le (by rw [List.length_set]; exact Nat.le_refl _)]
  -- both are one text of four bytes more with its sum, and they differ in one byte only
  have hd : ∀ c : List UInt8, Ck.reg (fr c) = Ck.residue := fun c => (Ck.sealed_iff (head c) _ (Ck.four_length _)).1 rfl
  have hr1 := hd ((r ++ more).take b.length)
  rw [h'] at hr1
  have e1 : fr b = (fr b).take at_ ++ [(fr b)[at_]] ++ (fr b).drop (at_ + 1) := by
    rw [List.append_assoc]
    show _ = _ ++ ((fr b)[at_] :: (fr b).drop (at_ + 1))
    rw [← List.drop_eq_getElem_cons h2, List.take_append_drop]
  have e2 : (fr b).set at_ x = (fr b).take at_ ++ [x] ++ (fr b).drop (at_ + 1) := by
    rw [List.set_eq_take_append_cons_drop, if_pos h2]; simp
  have hr0 := hd b
  rw [e1] at hr0
  rw [e2] at hr1
  refine Ck.burst ((fr b).take at_) [(fr b)[at_]] [x] ((fr b).drop (at_ + 1)) rfl (by simp) ?_ (hr0.trans hr1.symm)
  intro h3
  apply hx
  simp only [List.cons.injEq, and_true] at h3
  rw [Pk.getD_at h2]; exact h3

end Go.Proofs.YthllpiohdkcecaaDoor.Fm
