import Derived.Test.YtjpchfpfcnmemaaDoorCheckLawsA
namespace Go.Proofs.YtjpchfpfcnmemaaDoor
open Go.RowKit
theorem eq_zero (w : World) : (Op.equalIn 10000 33 (.agg #[.int .u8 0, .int .u8 0, .int .u8 0, .int .u8 0]) (.agg #[.int .u8 0, .int .u8 0, .int .u8 0, .int .u8 0])).run Tryd.prog w = .ok true w := by kernel_rfl
theorem eq_0 (m : Nat) (x1 x2 x3 : Value) (w : World) : (Op.equalIn 10000 33 (.agg #[.int .u8 (Int.ofNat (m + 1)), x1, x2, x3]) (.agg #[.int .u8 0, .int .u8 0, .int .u8 0, .int .u8 0])).run Tryd.prog w = .ok false w := by kernel_rfl
theorem eq_1 (m : Nat) (x2 x3 : Value) (w : World) : (Op.equalIn 10000 33 (.agg #[.int .u8 0, .int .u8 (Int.ofNat (m + 1)), x2, x3]) (.agg #[.int .u8 0, .int .u8 0, .int .u8 0, .int .u8 0])).run Tryd.prog w = .ok false w := by kernel_rfl
theorem eq_2 (m : Nat) (x3 : Value) (w : World) : (Op.equalIn 10000 33 (.agg #[.int .u8 0, .int .u8 0, .int .u8 (Int.ofNat (m + 1)), x3]) (.agg #[.int .u8 0, .int .u8 0, .int .u8 0, .int .u8 0])).run Tryd.prog w = .ok false w := by kernel_rfl
theorem eq_3 (m : Nat) (w : World) : (Op.equalIn 10000 33 (.agg #[.int .u8 0, .int .u8 0, .int .u8 0, .int .u8 (Int.ofNat (m + 1))]) (.agg #[.int .u8 0, .int .u8 0, .int .u8 0, .int .u8 0])).run Tryd.prog w = .ok false w := by kernel_rfl
theorem eq_any (n0 n1 n2 n3 : Nat) (h : ¬ (n0 = 0 ∧ n1 = 0 ∧ n2 = 0 ∧ n3 = 0)) (w : World) :
    (Op.equalIn 10000 33 (.agg #[.int .u8 (n0 : Int), .int .u8 (n1 : Int), .int .u8 (n2 : Int), .int .u8 (n3 : Int)]) (.agg #[.int .u8 0, .int .u8 0, .int .u8 0, .int .u8 0])).run Tryd.prog w = .ok false w := by
  cases n0 with
  | succ m => exact eq_0 m _ _ _ w
  | zero =>
    cases n1 with
    | succ m => exact eq_1 m _ _ w
    | zero =>
      cases n2 with
      | succ m => exact eq_2 m _ w
      | zero =>
        cases n3 with
        | succ m => exact eq_3 m w
        | zero => exact absurd ⟨rfl, rfl, rfl, rfl⟩ h
end Go.Proofs.YtjpchfpfcnmemaaDoor
