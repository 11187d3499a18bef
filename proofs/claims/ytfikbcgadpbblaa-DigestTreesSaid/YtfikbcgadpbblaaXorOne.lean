/- i ^ 1, and the place beside. No conditions. -/
import Derived.Test.YtfikbcgadpbblaaApp
namespace Go.Proofs.Ytfikbcgadpbblaa
open Go.RowKit
theorem xor_one_nat (j : Nat) : j ^^^ 1 = if j % 2 = 0 then j + 1 else j - 1 := by
  apply Nat.eq_of_testBit_eq
  intro i
  rw [Nat.testBit_xor]
  cases i with
  | zero =>
    rw [Nat.testBit_zero, Nat.testBit_zero, Nat.testBit_zero]
    split
    · rename_i h
      have h2 : (j + 1) % 2 = 1 := by omega
      simp [h, h2]
    · rename_i h
      have h1 : j % 2 = 1 := by omega
      have h2 : (j - 1) % 2 = 0 := by omega
      simp [h1, h2]
  | succ i =>
    rw [Nat.testBit_succ, Nat.testBit_succ, Nat.testBit_succ, show 1 / 2 = 0 by rfl, Nat.zero_testBit, Bool.xor_false]
    congr 1
    split <;> omega
theorem xor_one (j : Nat) (hj : j < 9223372036854775808) : bits BinOp.xor IntKind.i64 (j : Int) 1 = ((j ^^^ 1 : Nat) : Int) := by
  have hx : j ^^^ 1 < 2 ^ 63 := Nat.xor_lt_two_pow (by omega) (by omega)
  have h1 : (BitVec.ofInt 64 (j : Int)).toNat = j := by
    rw [BitVec.ofInt_natCast, BitVec.toNat_ofNat]; exact Nat.mod_eq_of_lt (by omega)
  have h2 : (BitVec.ofInt 64 1).toNat = 1 := by decide
  show IntKind.i64.wrap ((BitVec.ofInt 64 (j : Int) ^^^ BitVec.ofInt 64 1).toNat : Int) = _
  rw [BitVec.toNat_xor, h1, h2, IntKind.wrap_i64]
  omega
end Go.Proofs.Ytfikbcgadpbblaa
