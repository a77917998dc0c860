/-
  What is proved here: closed facts on the types of the program, and the conversion of bytes to a string.
  Conditions: none.
-/
import Derived.Test.YtahjgbmhleiocaaRows
import Derived.Test.YtahjgbmhleiocaaBase
namespace Go.Proofs.Ytahjgbmhleiocaa
open Go.RowKit
set_option linter.unusedVariables false
theorem info_u8 : (Try.prog.info? 5).map (fun i => (i.zero, i.size, i.bytes)) = some (some (.int .u8 0), 1, 1) := by kernel_rfl
theorem size_u8 : (Try.prog.info? 5).map (·.size) = some 1 := by kernel_rfl
theorem info_u64 : (Try.prog.info? 24).map (fun i => (i.zero, i.size, i.bytes)) = some (some (.int .u64 0), 1, 8) := by kernel_rfl
theorem info_str : (Try.prog.info? 9).map (fun i => (i.zero, i.size, i.bytes)) = some (some (.string .empty), 1, 16) := by kernel_rfl
/-- 'string(b)' of a slice that reads as a list. -/
theorem Bys.conv {w : World} {B : Nat} {a : Option Addr} {len : Nat} {zs : List Int} (h : Bys w B a len zs) (cap : Nat) :
    (convert 25 9 (.slice a len cap)).run Try.prog w = .ok (.string (strOfNums zs)) w := by
  rcases Nat.eq_zero_or_pos len with h0 | h0
  · subst h0
    obtain rfl : zs = [] := List.eq_nil_of_length_eq_zero h.1
    cases a with
    | none => exact run_convert_bytes_nil w 25 5 Try.underlying25 Try.underlying5 0 cap 9 Try.underlying9
    | some ad =>
      rw [run_convert_bytes_string w 25 9 5 _ 0 cap Try.underlying25 Try.underlying5 Try.underlying9, run_bytesToString w _ 0 cap [] rfl]
      rfl
  · obtain ⟨b, off, rfl, _, hc⟩ := h.2.2 h0
    exact run_convert_bytes_arg w 25 5 Try.underlying25 Try.underlying5 b off len cap zs h.1 hc 9 Try.underlying9
end Go.Proofs.Ytahjgbmhleiocaa
