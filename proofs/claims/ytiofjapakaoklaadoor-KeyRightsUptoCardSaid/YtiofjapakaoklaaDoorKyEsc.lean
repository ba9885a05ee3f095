/-
  Escaped bytes: package key's function and the document's.
-/
import Derived.Test.YtiofjapakaoklaaDoorKyCompare
import Derived.Test.YtiofjapakaoklaaDoorKyShow
import Derived.Deep.AppendLies
import Derived.StillTailTactics
namespace Go.Proofs.YtiofjapakaoklaaDoor
open Go.RowKit

theorem digits_at : ∀ x : Fin 16, (({ data := #[48, 49, 50, 51, 52, 53, 54, 55, 56, 57, 65, 66, 67, 68, 69, 70] } : ByteArray)[x.val]'x.isLt) = Ky.hexD x.val := by decide

theorem owns_kind {w : World} {B : Nat} {v : Value} {l : List UInt8} (h : Owns w B v l) : ∀ g, v.ownBlock = some g → ∃ c fz, w.heap[g]? = some (.cells c 5 fz) := by
  have h' : w.ownsRow B 5 1 v l.length (bytesV l) := h
  intro g hg
  rcases h'.2 with ⟨rfl, _⟩ | ⟨g', cap, cur, rfl, _, hgg, _⟩
  · simp [Value.ownBlock] at hg
  · simp [Value.ownBlock] at hg
    subst hg
    exact ⟨cur, _, hgg⟩
theorem owns_alloc {w : World} {B : Nat} {v : Value} {l : List UInt8} (h : Owns w B v l) (o : Obj) : Owns (w.alloc o) B v l := by
  have h' : w.ownsRow B 5 1 v l.length (bytesV l) := h
  exact h'.alloc _

theorem and15b {r : Nat} (h : r < 256) : bits BinOp.and IntKind.u8 (r : Int) 15 = ((r % 16 : Nat) : Int) := by
  have : ∀ x : Fin 256, bits BinOp.and IntKind.u8 ((x.val : Nat) : Int) 15 = ((x.val % 16 : Nat) : Int) := by decide +kernel
  exact this ⟨r, h⟩

theorem digit_parts (x : UInt8) : ∃ (y1 y2 : Nat) (c1 c2 : UInt8), (x.toNat : Int) / 16 = (y1 : Int) ∧ bits BinOp.and IntKind.u8 (x.toNat : Int) 15 = (y2 : Int) ∧ y1 < 16 ∧ y2 < 16 ∧
    (∀ h : y1 < 16, ({ data := #[48, 49, 50, 51, 52, 53, 54, 55, 56, 57, 65, 66, 67, 68, 69, 70] } : ByteArray)[y1]'h = c1) ∧
    (∀ h : y2 < 16, ({ data := #[48, 49, 50, 51, 52, 53, 54, 55, 56, 57, 65, 66, 67, 68, 69, 70] } : ByteArray)[y2]'h = c2) ∧ Ky.hexB x = [37, c1, c2] := by
  have hxl := x.toNat_lt
  exact ⟨x.toNat / 16, x.toNat % 16, Ky.hexD (x.toNat / 16), Ky.hexD (x.toNat % 16), by omega, and15b hxl, by omega, by omega,
    fun h => digits_at ⟨x.toNat / 16, h⟩, fun h => digits_at ⟨x.toNat % 16, h⟩, rfl⟩

set_option maxRecDepth 100000 in
set_option maxHeartbeats 1000000 in
theorem appendEscaped_any (B : Nat) (v0 : Value) (xs : List UInt8) (t : ByteArray) (w : World) (hB : B ≤ w.heap.size) (ht : t.size ≤ 1000000) (hx : xs.length ≤ 1000000) (hown : Owns w B v0 xs) :
    Calls Tryd.prog 29 #[v0, .string t] w fun e w' => ∃ v, e = .returned v ∧ Owns w' B v (xs ++ t.data.toList.flatMap Ky.hexB) ∧ Below B w w' ∧ Lib.OthersKept 5 none w w' := by
  obtain ⟨i0, hi, hz0, hz1, hz2⟩ := info_parts info_byte
  obtain ⟨T, hT⟩ : ∃ T, T = xs ++ t.data.toList.flatMap Ky.hexB := ⟨_, rfl⟩
  rw [← hT]
  have hTl : T.length ≤ 4000000 := by
    rw [hT, List.length_append, Ky.hexFlat_len, bytes_len]; omega
  have HT := Lib.hid hT
  clear hT
  go_enter Tryd.func29, Tryd.ntmps29
  go_wp2
  go_loopw [0, 5, 8] (fun v _ i wr => ∃ (k : Nat) (l : List UInt8), i = .int .i64 k ∧ k ≤ t.size ∧ Hid (l ++ (t.data.toList.drop k).flatMap Ky.hexB = T) ∧ Owns wr B v l ∧ Below B w wr ∧ Lib.OthersKept 5 none w wr) (fun _ _ i _ => t.size - (intOf i).toNat)
  case atStart => exact ⟨0, xs, rfl, Nat.zero_le _, HT.out.symm, hown, Below.refl _ _, Lib.OthersKept.refl _ _ _⟩
  case round =>
    obtain ⟨k, l, rfl, hk, hl, ho, hb, hok⟩ := hrel
    have hsz := hb.size
    by_cases hlt : k < t.size
    · obtain ⟨x, hx⟩ : ∃ x, t[k]'hlt = x := ⟨_, rfl⟩
      have hstep : l ++ Ky.hexB x ++ (t.data.toList.drop (k + 1)).flatMap Ky.hexB = T := by
        rw [← hl.out, List.append_assoc]
        congr 1
        rw [List.drop_eq_getElem_cons (i := k) (by rw [bytes_len]; exact hlt), List.flatMap_cons]
        rw [bytes_at t k hlt, hx]
      have HST := Lib.hid hstep
      have hll : l.length + 3 ≤ 4000000 := by
        have := congrArg List.length hstep
        simp [Ky.hexB] at this; omega
      clear hstep hl
      have hxl := x.toNat_lt
      obtain ⟨y1, y2, c1, c2, q0, q1, i1, i2, d1, d2, hh⟩ := digit_parts x
      have HH := Lib.hid hh
      clear hh
      have j1 : (y1 : Int) < 16 := by omega
      have j2 : (y2 : Int) < 16 := by omega
      have ho' : wr.ownsRow B 5 1 u0 l.length (bytesV l) := ho
      go_wp2
      go_region_held3 (fun _ => True) (trivial)
        ((refine step_append_lies _ (by rfl) _ _ _ (by rfl) B 5 i0 (.int .u8 0) 1 1 Tryd.underlying46 hi hz0 hz1 hz2 rfl (by decide) _ _ _ (by rfl) ((ho'.alloc _).drew) ⟨wr.heap.size, 0, none⟩ 3 3 [.int .u8 37, .int .u8 (c1.toNat : Int), .int .u8 (c2.toNat : Int)] (by rfl) (by rfl) (World.news_of_block (cs := #[.int .u8 37, .int .u8 (c1.toNat : Int), .int .u8 (c2.toNat : Int)]) (t := 5) (fr := (0, 0)) (heap_alloc_new wr _)) (ints_oneCell .u8 [37, (c1.toNat : Int), (c2.toNat : Int)]) (by decide) (by unfold maxLen; omega) (by omega) (by simp; omega) (wr.heap.size + 1) (by simp) ?_; intro gg cap w1 hown1 hgrow1 hat hlt2))
      all_goals
        go_wp2
        have hb1 := ((hb.alloc (by omega) _).drew).grown hgrow1 (by simp; omega) (fun k hk => (ho'.lt k hk).1)
        have hok1 := ((hok.alloc _).drew).grown hgrow1 (fun g hg => owns_kind (owns_alloc ho _) g hg)
        refine ⟨⟨k + 1, l ++ Ky.hexB x, by go_num, by omega, HST, ?_, hb1, hok1⟩, by simp [intOf]; omega⟩
        have e1 : bytesV l ++ [.int .u8 37, .int .u8 (c1.toNat : Int), .int .u8 (c2.toNat : Int)] = bytesV (l ++ Ky.hexB x) := by
          rw [HH.out, bytesV_append]; rfl
        have e2 : (l ++ Ky.hexB x).length = l.length + 3 := by simp [Ky.hexB]
        show w1.ownsRow B 5 1 _ (l ++ Ky.hexB x).length (bytesV (l ++ Ky.hexB x))
        rw [e2, ← e1]; exact hown1
    · go_wp2
      go_ret
      have e : t.data.toList.drop k = [] := List.drop_of_length_le (by rw [bytes_len]; omega)
      have h := hl.out
      rw [e, List.flatMap_nil, List.append_nil] at h
      subst h
      exact ⟨_, rfl, ho, hb, hok⟩

end Go.Proofs.YtiofjapakaoklaaDoor
