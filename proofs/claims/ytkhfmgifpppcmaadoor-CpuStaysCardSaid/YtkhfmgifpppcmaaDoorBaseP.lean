/-
  What is proved here: closed facts on the types of the program, and the conversion of bytes to a string.
  Conditions: none.
-/
import Derived.Test.YtkhfmgifpppcmaaDoorRows
import Derived.Test.YtkhfmgifpppcmaaDoorBase
namespace Go.Proofs.YtkhfmgifpppcmaaDoor
open Go.RowKit
set_option linter.unusedVariables false
theorem info_u8 : (Tryd.prog.info? 5).map (fun i => (i.zero, i.size, i.bytes)) = some (some (.int .u8 0), 1, 1) := by kernel_rfl
theorem size_u8 : (Tryd.prog.info? 5).map (·.size) = some 1 := by kernel_rfl
theorem info_u64 : (Tryd.prog.info? 22).map (fun i => (i.zero, i.size, i.bytes)) = some (some (.int .u64 0), 1, 8) := by kernel_rfl
theorem info_str : (Tryd.prog.info? 9).map (fun i => (i.zero, i.size, i.bytes)) = some (some (.string .empty), 1, 16) := by kernel_rfl
/-- 'string(b)' of a slice that reads as a list. -/
theorem Bys.conv {w : World} {B : Nat} {a : Option Addr} {len : Nat} {zs : List Int} (h : Bys w B a len zs) (cap : Nat) :
    (convert 32 9 (.slice a len cap)).run Tryd.prog w = .ok (.string (strOfNums zs)) w := by
  rcases Nat.eq_zero_or_pos len with h0 | h0
  · subst h0
    obtain rfl : zs = [] := List.eq_nil_of_length_eq_zero h.1
    cases a with
    | none => exact run_convert_bytes_nil w 32 5 Tryd.underlying32 Tryd.underlying5 0 cap 9 Tryd.underlying9
    | some ad =>
      rw [run_convert_bytes_string w 32 9 5 _ 0 cap Tryd.underlying32 Tryd.underlying5 Tryd.underlying9, run_bytesToString w _ 0 cap [] rfl]
      rfl
  · obtain ⟨b, off, rfl, _, hc⟩ := h.2.2 h0
    exact run_convert_bytes_arg w 32 5 Tryd.underlying32 Tryd.underlying5 b off len cap zs h.1 hc 9 Tryd.underlying9
end Go.Proofs.YtkhfmgifpppcmaaDoor
