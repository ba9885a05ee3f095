/-
  Slices of bytes that the call itself owns.
-/
import Derived.Test.YtccieoofjopbkaaDoorBase
namespace Go.Proofs.YtccieoofjopbkaaDoor
open Go.RowKit

theorem ofNat_nat {n : Nat} (h : n < 256) : (UInt8.ofNat n).toNat = n := by rw [UInt8.toNat_ofNat']; omega
/-- Bytes as cells. -/
def bytesV (l : List UInt8) : List Value := l.map fun b => .int .u8 (b.toNat : Int)
theorem bytesV_snoc (l : List UInt8) (n : Nat) (h : n < 256) : bytesV l ++ [.int .u8 (n : Int)] = bytesV (l ++ [UInt8.ofNat n]) := by
  simp [bytesV, ofNat_nat h]
theorem bytesV_append (l k : List UInt8) : bytesV (l ++ k) = bytesV l ++ bytesV k := by simp [bytesV]
theorem bytesV_len (l : List UInt8) : (bytesV l).length = l.length := by simp [bytesV]

theorem info_byte : (Tryd.prog.info? 5).map (fun i => (i.zero, i.size, i.bytes)) = some (some (.int .u8 0), 1, 1) := by kernel_rfl

/-- A slice value that owns bytes. -/
def Owns (w : World) (base : Nat) (v : Value) (l : List UInt8) : Prop := w.ownsRow base 5 1 v l.length (bytesV l)

theorem convert_owns {B : Nat} {v : Value} {l : List UInt8} {w : World} (ho : Owns w B v l) : (convert 60 9 v).run Tryd.prog w = .ok (.string (S l)) w := by
  have ho' : w.ownsRow B 5 1 v l.length (bytesV l) := ho
  rcases ho'.2 with ⟨rfl, h0⟩ | ⟨g, cap, cur, rfl, _⟩
  · have e : l = [] := List.length_eq_zero_iff.1 h0
    subst e
    exact run_convert_bytes_nil (P := Tryd.prog) w 60 5 Tryd.underlying60 Tryd.underlying5 0 0 9 Tryd.underlying9
  · refine run_convert_bytes_back (P := Tryd.prog) w 60 9 5 ⟨g, 0, none⟩ cap l Tryd.underlying60 Tryd.underlying5 Tryd.underlying9 (fun j hj => ?_)
    rw [Addr.add_lit, Nat.zero_add, ho'.cellAt j (by omega)]
    simp [bytesV, hj]

end Go.Proofs.YtccieoofjopbkaaDoor
