/-
  What is proved here: nothing of its own: IsaAwake's words with the library's words on cuts.
  Conditions: none.
-/
import Derived.Test.YtjpbbonkmnbabaaDoorIsaAwake
import Derived.Test.YtjpbbonkmnbabaaDoorIsaBk
import Derived.Deep.Cut
import Derived.Deep.DeepCutAuto
namespace Go.Proofs.YtjpbbonkmnbabaaDoor
open Go.RowKit
theorem u64_bits_bd (o : BinOp) (x y : Int) : 0 ≤ bits o .u64 x y ∧ bits o .u64 x y ≤ 18446744073709551615 := by
  unfold bits
  simp only [IntKind.wrap_u64]
  omega
end Go.Proofs.YtjpbbonkmnbabaaDoor
