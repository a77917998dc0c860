/-
  What is proved here: 'n and M' of an int lies in 0 to M.
  Conditions: none; nothing here speaks of the program.
-/
import Derived.Test.YtkhfmgifpppcmaaDoorBase
namespace Go.Proofs.YtkhfmgifpppcmaaDoor
open Go.RowKit
set_option linter.unusedVariables false

theorem i64_mask (n : Int) (M : Nat) (hM : M < 9223372036854775808) : ∃ m : Nat, m ≤ M ∧ bits .and .i64 n (M : Int) = (m : Int) := by
  have h2 : (BitVec.ofInt 64 (M : Int)).toNat = M := by
    rw [BitVec.ofInt_natCast, BitVec.toNat_ofNat]; exact Nat.mod_eq_of_lt (by omega)
  refine ⟨(BitVec.ofInt 64 n).toNat &&& M, Nat.and_le_right, ?_⟩
  show IntKind.i64.wrap ((BitVec.ofInt 64 n &&& BitVec.ofInt 64 (M : Int)).toNat : Int) = _
  rw [BitVec.toNat_and, h2]
  have : (BitVec.ofInt 64 n).toNat &&& M ≤ M := Nat.and_le_right
  rw [IntKind.wrap_i64]
  omega
end Go.Proofs.YtkhfmgifpppcmaaDoor
