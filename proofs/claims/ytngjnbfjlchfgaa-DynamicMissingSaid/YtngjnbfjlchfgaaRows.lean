/-
  No cell of these rows narrows 'for every input' (looked for: loops, veiled, ifaces, maps, wideKeys, modest, calm, conditions, laid).
  DERIVED. THE GIVEN ROWS OF THIS SEAT. 6 by the template 'for every input the law returns true; each argument reads behind the call as it read before'; 0 by the template 'total and deterministic' (their statements: YtngjnbfjlchfgaaTotals.lean).
  GIVEN WITH THE SEED: the statements are not yours to turn. If you find one false, say at which input.
  Laid BY PROGRAM, IN A SANDBOX (cutbox-rows.mjs): the forced cells as the released guide's own fill.sh prints them over the translation 13927351bd210d86… (all of the seat's roots in one cut). By AI agents, Wed Nov 11 2026. No macro, syntax, notation, axiom, sorry.
-/
import Derived.Test.YtngjnbfjlchfgaaChecked
import GoSem.Claim
import GoSem.ClaimJoined
import GoSem.ClaimMapViews
import Derived.JoinedTies
import Derived.KernelRfl
namespace Go.Proofs.Ytngjnbfjlchfgaa
/- THE CELL 'sum', in the pinned program and in every row, IS THE sha256 OF THE DUMP (.gsa) THAT YtngjnbfjlchfgaaProg.lean LOADS. Nothing in Lean hashes anything: it is a label: what it is worth is what the hold of that sum in a sandbox is worth. -/
noncomputable def Try.pinned : Pinned := { name := "ytngjnbfjlchfgaa", sum := "13927351bd210d865c7555832357404ddafcf926d3d0a13f67eb40044ddfdfae", checked := Try.checked }
namespace Rows
def none {H : Type} : Left H := { results := [], args := [] }

/-- 'dormouselaw05.DynamicPuts': WHATEVER THE INPUT: true; the input reads as it did. -/
def dynamicPutsSpec : ChangeSpec := { name := "dynamicPuts", fn := fun _ => fun
  | [d1, d2] => { results := [.lit (.bool true)], args := [d1, d2] }
  | _ => none }
def dynamicPutsRow : OpenClaim := { program := "ytngjnbfjlchfgaa", sum := "13927351bd210d865c7555832357404ddafcf926d3d0a13f67eb40044ddfdfae", func := "dormouse/dormouselaw05.DynamicPuts", spec := "dynamicPuts", unfollowed := true, recurses := true, apart := false }
def DynamicPutsSaid : Prop := dynamicPutsRow.holds Try.pinned (OpenSpec.ofChange dynamicPutsSpec)

/-- ITS FALSE NEIGHBOUR: 'it returns false'. Refute it at one input. -/
def dynamicPutsWrong : ChangeSpec := { name := "dynamicPuts", fn := fun _ => fun
  | [d1, d2] => { results := [.lit (.bool false)], args := [d1, d2] }
  | _ => none }
def DynamicPutsWrongFalsely : Prop := dynamicPutsRow.holds Try.pinned (OpenSpec.ofChange dynamicPutsWrong)

/-- 'dormouselaw05.DynamicGets': WHATEVER THE INPUT: true; the input reads as it did. -/
def dynamicGetsSpec : ChangeSpec := { name := "dynamicGets", fn := fun _ => fun
  | [d] => { results := [.lit (.bool true)], args := [d] }
  | _ => none }
def dynamicGetsRow : OpenClaim := { program := "ytngjnbfjlchfgaa", sum := "13927351bd210d865c7555832357404ddafcf926d3d0a13f67eb40044ddfdfae", func := "dormouse/dormouselaw05.DynamicGets", spec := "dynamicGets", unfollowed := true, recurses := true, apart := false }
def DynamicGetsSaid : Prop := dynamicGetsRow.holds Try.pinned (OpenSpec.ofChange dynamicGetsSpec)

/-- ITS FALSE NEIGHBOUR: 'it returns false'. Refute it at one input. -/
def dynamicGetsWrong : ChangeSpec := { name := "dynamicGets", fn := fun _ => fun
  | [d] => { results := [.lit (.bool false)], args := [d] }
  | _ => none }
def DynamicGetsWrongFalsely : Prop := dynamicGetsRow.holds Try.pinned (OpenSpec.ofChange dynamicGetsWrong)

/-- 'dormouselaw05.DynamicEntries': WHATEVER THE INPUT: true; the input reads as it did. -/
def dynamicEntriesSpec : ChangeSpec := { name := "dynamicEntries", fn := fun _ => fun
  | [d1, d2] => { results := [.lit (.bool true)], args := [d1, d2] }
  | _ => none }
def dynamicEntriesRow : OpenClaim := { program := "ytngjnbfjlchfgaa", sum := "13927351bd210d865c7555832357404ddafcf926d3d0a13f67eb40044ddfdfae", func := "dormouse/dormouselaw05.DynamicEntries", spec := "dynamicEntries", unfollowed := true, recurses := true, apart := false }
def DynamicEntriesSaid : Prop := dynamicEntriesRow.holds Try.pinned (OpenSpec.ofChange dynamicEntriesSpec)

/-- ITS FALSE NEIGHBOUR: 'it returns false'. Refute it at one input. -/
def dynamicEntriesWrong : ChangeSpec := { name := "dynamicEntries", fn := fun _ => fun
  | [d1, d2] => { results := [.lit (.bool false)], args := [d1, d2] }
  | _ => none }
def DynamicEntriesWrongFalsely : Prop := dynamicEntriesRow.holds Try.pinned (OpenSpec.ofChange dynamicEntriesWrong)

/-- 'dormouselaw05.DynamicBack': WHATEVER THE INPUT: true; the input reads as it did. -/
def dynamicBackSpec : ChangeSpec := { name := "dynamicBack", fn := fun _ => fun
  | [d1, d2, d3] => { results := [.lit (.bool true)], args := [d1, d2, d3] }
  | _ => none }
def dynamicBackRow : OpenClaim := { program := "ytngjnbfjlchfgaa", sum := "13927351bd210d865c7555832357404ddafcf926d3d0a13f67eb40044ddfdfae", func := "dormouse/dormouselaw05.DynamicBack", spec := "dynamicBack", unfollowed := true, recurses := true, apart := false }
def DynamicBackSaid : Prop := dynamicBackRow.holds Try.pinned (OpenSpec.ofChange dynamicBackSpec)

/-- ITS FALSE NEIGHBOUR: 'it returns false'. Refute it at one input. -/
def dynamicBackWrong : ChangeSpec := { name := "dynamicBack", fn := fun _ => fun
  | [d1, d2, d3] => { results := [.lit (.bool false)], args := [d1, d2, d3] }
  | _ => none }
def DynamicBackWrongFalsely : Prop := dynamicBackRow.holds Try.pinned (OpenSpec.ofChange dynamicBackWrong)

/-- 'dormouselaw05.DynamicMissing': WHATEVER THE INPUT: true; the input reads as it did. -/
def dynamicMissingSpec : ChangeSpec := { name := "dynamicMissing", fn := fun _ => fun
  | [d1, d2] => { results := [.lit (.bool true)], args := [d1, d2] }
  | _ => none }
def dynamicMissingRow : OpenClaim := { program := "ytngjnbfjlchfgaa", sum := "13927351bd210d865c7555832357404ddafcf926d3d0a13f67eb40044ddfdfae", func := "dormouse/dormouselaw05.DynamicMissing", spec := "dynamicMissing", unfollowed := true, recurses := true, apart := false }
def DynamicMissingSaid : Prop := dynamicMissingRow.holds Try.pinned (OpenSpec.ofChange dynamicMissingSpec)

/-- ITS FALSE NEIGHBOUR: 'it returns false'. Refute it at one input. -/
def dynamicMissingWrong : ChangeSpec := { name := "dynamicMissing", fn := fun _ => fun
  | [d1, d2] => { results := [.lit (.bool false)], args := [d1, d2] }
  | _ => none }
def DynamicMissingWrongFalsely : Prop := dynamicMissingRow.holds Try.pinned (OpenSpec.ofChange dynamicMissingWrong)

/-- 'dormouselaw05.DynamicTwice': WHATEVER THE INPUT: true; the input reads as it did. -/
def dynamicTwiceSpec : ChangeSpec := { name := "dynamicTwice", fn := fun _ => fun
  | [d1, d2, d3, d4] => { results := [.lit (.bool true)], args := [d1, d2, d3, d4] }
  | _ => none }
def dynamicTwiceRow : OpenClaim := { program := "ytngjnbfjlchfgaa", sum := "13927351bd210d865c7555832357404ddafcf926d3d0a13f67eb40044ddfdfae", func := "dormouse/dormouselaw05.DynamicTwice", spec := "dynamicTwice", unfollowed := true, recurses := true, apart := false }
def DynamicTwiceSaid : Prop := dynamicTwiceRow.holds Try.pinned (OpenSpec.ofChange dynamicTwiceSpec)

/-- ITS FALSE NEIGHBOUR: 'it returns false'. Refute it at one input. -/
def dynamicTwiceWrong : ChangeSpec := { name := "dynamicTwice", fn := fun _ => fun
  | [d1, d2, d3, d4] => { results := [.lit (.bool false)], args := [d1, d2, d3, d4] }
  | _ => none }
def DynamicTwiceWrongFalsely : Prop := dynamicTwiceRow.holds Try.pinned (OpenSpec.ofChange dynamicTwiceWrong)

/- THE SECOND FORM. 'bulk': how many values and letters a reading holds, each counted each time it is reached (what is shared counts as often as it is met; a slice's spare places count too). A statement '..UptoSaid' is the law's where the arguments, and the package variables that the reading takes, are together of bulk at most 1048576: NARROWER than '..Said'. Prove '..Said' where nothing that the law and all that it calls make is longer than what came in: it says more and counts as full. Else prove '..UptoSaid'. A law counts once. -/
mutual
def uptoBulk {H : Type} : DataW H → Nat
  | .lit (.string bytes) => bytes.length + 1
  | .lit _ => 1
  | .nil => 1
  | .ptr d => uptoBulk d + 1
  | .slice elems spare => uptoBulkAll elems + uptoBulkAll spare + 1
  | .agg parts => uptoBulkAll parts + 1
  | .iface _ d => uptoBulk d + 1
  | .map entries => uptoBulkEntries entries + 1
  | .held _ => 1
def uptoBulkAll {H : Type} : List (DataW H) → Nat
  | [] => 0
  | d :: r => uptoBulk d + uptoBulkAll r
def uptoBulkEntries {H : Type} : List (Lit × DataW H) → Nat
  | [] => 0
  | x :: r => uptoBulkEntry x + uptoBulkEntries r
def uptoBulkEntry {H : Type} : Lit × DataW H → Nat
  | (.string bytes, d) => bytes.length + uptoBulk d + 1
  | (_, d) => uptoBulk d + 1
 end
def uptoSmall : (H : Type) → List (DataW H) → Bool := fun _ ds => decide (uptoBulkAll ds ≤ 1048576)
def OpenSpec.upto (s : _root_.Go.ChangeSpec) : _root_.Go.OpenSpec := { _root_.Go.OpenSpec.ofChange s with cond := some uptoSmall }

/-- 'dormouselaw05.DynamicPuts', WHERE WHAT IT READS IS OF BULK AT MOST 1048576: true; the input reads as it did. -/
def dynamicPutsUptoRow : OpenClaim := { program := "ytngjnbfjlchfgaa", sum := "13927351bd210d865c7555832357404ddafcf926d3d0a13f67eb40044ddfdfae", func := "dormouse/dormouselaw05.DynamicPuts", spec := "dynamicPuts", unfollowed := true, recurses := true, apart := false, narrowed := true }
def DynamicPutsUptoSaid : Prop := dynamicPutsUptoRow.holds Try.pinned (OpenSpec.upto dynamicPutsSpec)

/-- 'dormouselaw05.DynamicGets', WHERE WHAT IT READS IS OF BULK AT MOST 1048576: true; the input reads as it did. -/
def dynamicGetsUptoRow : OpenClaim := { program := "ytngjnbfjlchfgaa", sum := "13927351bd210d865c7555832357404ddafcf926d3d0a13f67eb40044ddfdfae", func := "dormouse/dormouselaw05.DynamicGets", spec := "dynamicGets", unfollowed := true, recurses := true, apart := false, narrowed := true }
def DynamicGetsUptoSaid : Prop := dynamicGetsUptoRow.holds Try.pinned (OpenSpec.upto dynamicGetsSpec)

/-- 'dormouselaw05.DynamicEntries', WHERE WHAT IT READS IS OF BULK AT MOST 1048576: true; the input reads as it did. -/
def dynamicEntriesUptoRow : OpenClaim := { program := "ytngjnbfjlchfgaa", sum := "13927351bd210d865c7555832357404ddafcf926d3d0a13f67eb40044ddfdfae", func := "dormouse/dormouselaw05.DynamicEntries", spec := "dynamicEntries", unfollowed := true, recurses := true, apart := false, narrowed := true }
def DynamicEntriesUptoSaid : Prop := dynamicEntriesUptoRow.holds Try.pinned (OpenSpec.upto dynamicEntriesSpec)

/-- 'dormouselaw05.DynamicBack', WHERE WHAT IT READS IS OF BULK AT MOST 1048576: true; the input reads as it did. -/
def dynamicBackUptoRow : OpenClaim := { program := "ytngjnbfjlchfgaa", sum := "13927351bd210d865c7555832357404ddafcf926d3d0a13f67eb40044ddfdfae", func := "dormouse/dormouselaw05.DynamicBack", spec := "dynamicBack", unfollowed := true, recurses := true, apart := false, narrowed := true }
def DynamicBackUptoSaid : Prop := dynamicBackUptoRow.holds Try.pinned (OpenSpec.upto dynamicBackSpec)

/-- 'dormouselaw05.DynamicMissing', WHERE WHAT IT READS IS OF BULK AT MOST 1048576: true; the input reads as it did. -/
def dynamicMissingUptoRow : OpenClaim := { program := "ytngjnbfjlchfgaa", sum := "13927351bd210d865c7555832357404ddafcf926d3d0a13f67eb40044ddfdfae", func := "dormouse/dormouselaw05.DynamicMissing", spec := "dynamicMissing", unfollowed := true, recurses := true, apart := false, narrowed := true }
def DynamicMissingUptoSaid : Prop := dynamicMissingUptoRow.holds Try.pinned (OpenSpec.upto dynamicMissingSpec)

/-- 'dormouselaw05.DynamicTwice', WHERE WHAT IT READS IS OF BULK AT MOST 1048576: true; the input reads as it did. -/
def dynamicTwiceUptoRow : OpenClaim := { program := "ytngjnbfjlchfgaa", sum := "13927351bd210d865c7555832357404ddafcf926d3d0a13f67eb40044ddfdfae", func := "dormouse/dormouselaw05.DynamicTwice", spec := "dynamicTwice", unfollowed := true, recurses := true, apart := false, narrowed := true }
def DynamicTwiceUptoSaid : Prop := dynamicTwiceUptoRow.holds Try.pinned (OpenSpec.upto dynamicTwiceSpec)

end Rows
end Go.Proofs.Ytngjnbfjlchfgaa
