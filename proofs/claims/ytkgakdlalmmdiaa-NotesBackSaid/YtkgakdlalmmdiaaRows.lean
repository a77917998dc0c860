/-
  No cell of these rows narrows 'for every input' (looked for: loops, veiled, ifaces, maps, wideKeys, modest, calm, conditions, laid).
  DERIVED. THE GIVEN ROWS OF THIS SEAT. 6 by the template 'for every input the law returns true; each argument reads behind the call as it read before'; 0 by the template 'total and deterministic' (their statements: YtkgakdlalmmdiaaTotals.lean).
  GIVEN WITH THE SEED: the statements are not yours to turn. If you find one false, say at which input.
  Laid BY PROGRAM, IN A SANDBOX (cutbox-rows.mjs): the forced cells as the released guide's own fill.sh prints them over the translation fc4dff3e9f5d3bcc… (all of the seat's roots in one cut). By AI agents, Wed Nov 11 2026. No macro, syntax, notation, axiom, sorry.
-/
import Derived.Test.YtkgakdlalmmdiaaChecked
import GoSem.Claim
import GoSem.ClaimJoined
import GoSem.ClaimMapViews
import Derived.JoinedTies
import Derived.KernelRfl
namespace Go.Proofs.Ytkgakdlalmmdiaa
/- THE CELL 'sum', in the pinned program and in every row, IS THE sha256 OF THE DUMP (.gsa) THAT YtkgakdlalmmdiaaProg.lean LOADS. Nothing in Lean hashes anything: it is a label: what it is worth is what the hold of that sum in a sandbox is worth. -/
noncomputable def Try.pinned : Pinned := { name := "ytkgakdlalmmdiaa", sum := "fc4dff3e9f5d3bcc6832bc31f7fdd81b28b9a9367ae32f2d1a4b9897f4717a02", checked := Try.checked }
namespace Rows
def none {H : Type} : Left H := { results := [], args := [] }

/-- 'dormouselaw08.NotesPuts': WHATEVER THE INPUT: true; the input reads as it did. -/
def notesPutsSpec : ChangeSpec := { name := "notesPuts", fn := fun _ => fun
  | [d] => { results := [.lit (.bool true)], args := [d] }
  | _ => none }
def notesPutsRow : OpenClaim := { program := "ytkgakdlalmmdiaa", sum := "fc4dff3e9f5d3bcc6832bc31f7fdd81b28b9a9367ae32f2d1a4b9897f4717a02", func := "dormouse/dormouselaw08.NotesPuts", spec := "notesPuts", inPlace := ["internal/bytealg.IndexByteString", "internal/bytealg.IndexByte"], unfollowed := true, recurses := true, apart := false }
def NotesPutsSaid : Prop := notesPutsRow.holds Try.pinned (OpenSpec.ofChange notesPutsSpec)

/-- ITS FALSE NEIGHBOUR: 'it returns false'. Refute it at one input. -/
def notesPutsWrong : ChangeSpec := { name := "notesPuts", fn := fun _ => fun
  | [d] => { results := [.lit (.bool false)], args := [d] }
  | _ => none }
def NotesPutsWrongFalsely : Prop := notesPutsRow.holds Try.pinned (OpenSpec.ofChange notesPutsWrong)

/-- 'dormouselaw08.NotesGets': WHATEVER THE INPUT: true; the input reads as it did. -/
def notesGetsSpec : ChangeSpec := { name := "notesGets", fn := fun _ => fun
  | [d] => { results := [.lit (.bool true)], args := [d] }
  | _ => none }
def notesGetsRow : OpenClaim := { program := "ytkgakdlalmmdiaa", sum := "fc4dff3e9f5d3bcc6832bc31f7fdd81b28b9a9367ae32f2d1a4b9897f4717a02", func := "dormouse/dormouselaw08.NotesGets", spec := "notesGets", inPlace := ["internal/bytealg.IndexByteString", "internal/bytealg.IndexByte"], unfollowed := true, recurses := true, apart := false }
def NotesGetsSaid : Prop := notesGetsRow.holds Try.pinned (OpenSpec.ofChange notesGetsSpec)

/-- ITS FALSE NEIGHBOUR: 'it returns false'. Refute it at one input. -/
def notesGetsWrong : ChangeSpec := { name := "notesGets", fn := fun _ => fun
  | [d] => { results := [.lit (.bool false)], args := [d] }
  | _ => none }
def NotesGetsWrongFalsely : Prop := notesGetsRow.holds Try.pinned (OpenSpec.ofChange notesGetsWrong)

/-- 'dormouselaw08.NotesFinds': WHATEVER THE INPUT: true; the input reads as it did. -/
def notesFindsSpec : ChangeSpec := { name := "notesFinds", fn := fun _ => fun
  | [d1, d2, d3] => { results := [.lit (.bool true)], args := [d1, d2, d3] }
  | _ => none }
def notesFindsRow : OpenClaim := { program := "ytkgakdlalmmdiaa", sum := "fc4dff3e9f5d3bcc6832bc31f7fdd81b28b9a9367ae32f2d1a4b9897f4717a02", func := "dormouse/dormouselaw08.NotesFinds", spec := "notesFinds", inPlace := ["internal/bytealg.IndexByteString", "internal/bytealg.IndexByte"], unfollowed := true, recurses := true, apart := false }
def NotesFindsSaid : Prop := notesFindsRow.holds Try.pinned (OpenSpec.ofChange notesFindsSpec)

/-- ITS FALSE NEIGHBOUR: 'it returns false'. Refute it at one input. -/
def notesFindsWrong : ChangeSpec := { name := "notesFinds", fn := fun _ => fun
  | [d1, d2, d3] => { results := [.lit (.bool false)], args := [d1, d2, d3] }
  | _ => none }
def NotesFindsWrongFalsely : Prop := notesFindsRow.holds Try.pinned (OpenSpec.ofChange notesFindsWrong)

/-- 'dormouselaw08.NotesBack': WHATEVER THE INPUT: true; the input reads as it did. -/
def notesBackSpec : ChangeSpec := { name := "notesBack", fn := fun _ => fun
  | [d1, d2] => { results := [.lit (.bool true)], args := [d1, d2] }
  | _ => none }
def notesBackRow : OpenClaim := { program := "ytkgakdlalmmdiaa", sum := "fc4dff3e9f5d3bcc6832bc31f7fdd81b28b9a9367ae32f2d1a4b9897f4717a02", func := "dormouse/dormouselaw08.NotesBack", spec := "notesBack", inPlace := ["internal/bytealg.IndexByteString", "internal/bytealg.IndexByte"], unfollowed := true, recurses := true, apart := false }
def NotesBackSaid : Prop := notesBackRow.holds Try.pinned (OpenSpec.ofChange notesBackSpec)

/-- ITS FALSE NEIGHBOUR: 'it returns false'. Refute it at one input. -/
def notesBackWrong : ChangeSpec := { name := "notesBack", fn := fun _ => fun
  | [d1, d2] => { results := [.lit (.bool false)], args := [d1, d2] }
  | _ => none }
def NotesBackWrongFalsely : Prop := notesBackRow.holds Try.pinned (OpenSpec.ofChange notesBackWrong)

/-- 'dormouselaw08.NotesHeads': WHATEVER THE INPUT: true; the input reads as it did. -/
def notesHeadsSpec : ChangeSpec := { name := "notesHeads", fn := fun _ => fun
  | [d1, d2, d3, d4] => { results := [.lit (.bool true)], args := [d1, d2, d3, d4] }
  | _ => none }
def notesHeadsRow : OpenClaim := { program := "ytkgakdlalmmdiaa", sum := "fc4dff3e9f5d3bcc6832bc31f7fdd81b28b9a9367ae32f2d1a4b9897f4717a02", func := "dormouse/dormouselaw08.NotesHeads", spec := "notesHeads", inPlace := ["internal/bytealg.IndexByteString", "internal/bytealg.IndexByte"], unfollowed := true, recurses := true, apart := false }
def NotesHeadsSaid : Prop := notesHeadsRow.holds Try.pinned (OpenSpec.ofChange notesHeadsSpec)

/-- ITS FALSE NEIGHBOUR: 'it returns false'. Refute it at one input. -/
def notesHeadsWrong : ChangeSpec := { name := "notesHeads", fn := fun _ => fun
  | [d1, d2, d3, d4] => { results := [.lit (.bool false)], args := [d1, d2, d3, d4] }
  | _ => none }
def NotesHeadsWrongFalsely : Prop := notesHeadsRow.holds Try.pinned (OpenSpec.ofChange notesHeadsWrong)

/-- 'dormouselaw08.NotesMany': WHATEVER THE INPUT: true; the input reads as it did. -/
def notesManySpec : ChangeSpec := { name := "notesMany", fn := fun _ => fun
  | [d] => { results := [.lit (.bool true)], args := [d] }
  | _ => none }
def notesManyRow : OpenClaim := { program := "ytkgakdlalmmdiaa", sum := "fc4dff3e9f5d3bcc6832bc31f7fdd81b28b9a9367ae32f2d1a4b9897f4717a02", func := "dormouse/dormouselaw08.NotesMany", spec := "notesMany", inPlace := ["internal/bytealg.IndexByteString", "internal/bytealg.IndexByte"], unfollowed := true, recurses := true, apart := false }
def NotesManySaid : Prop := notesManyRow.holds Try.pinned (OpenSpec.ofChange notesManySpec)

/-- ITS FALSE NEIGHBOUR: 'it returns false'. Refute it at one input. -/
def notesManyWrong : ChangeSpec := { name := "notesMany", fn := fun _ => fun
  | [d] => { results := [.lit (.bool false)], args := [d] }
  | _ => none }
def NotesManyWrongFalsely : Prop := notesManyRow.holds Try.pinned (OpenSpec.ofChange notesManyWrong)

/- THE SECOND FORM. 'bulk': how many values and letters a reading holds, each counted each time it is reached (what is shared counts as often as it is met; a slice's spare places count too). A statement '..UptoSaid' is the law's where the arguments, and the package variables that the reading takes, are together of bulk at most 1048576: NARROWER than '..Said'. Prove '..Said' where nothing that the law and all that it calls make is longer than what came in: it says more and counts as full. Else prove '..UptoSaid'. A law counts once. -/
mutual
def uptoBulk {H : Type} : DataW H → Nat
  | .lit (.string bytes) => bytes.length + 1
  | .lit _ => 1
  | .nil => 1
  | .ptr d => uptoBulk d + 1
  | .slice elems spare => uptoBulkAll elems + uptoBulkAll spare + 1
  | .agg parts => uptoBulkAll parts + 1
  | .iface _ d => uptoBulk d + 1
  | .map entries => uptoBulkEntries entries + 1
  | .held _ => 1
def uptoBulkAll {H : Type} : List (DataW H) → Nat
  | [] => 0
  | d :: r => uptoBulk d + uptoBulkAll r
def uptoBulkEntries {H : Type} : List (Lit × DataW H) → Nat
  | [] => 0
  | x :: r => uptoBulkEntry x + uptoBulkEntries r
def uptoBulkEntry {H : Type} : Lit × DataW H → Nat
  | (.string bytes, d) => bytes.length + uptoBulk d + 1
  | (_, d) => uptoBulk d + 1
 end
def uptoSmall : (H : Type) → List (DataW H) → Bool := fun _ ds => decide (uptoBulkAll ds ≤ 1048576)
def OpenSpec.upto (s : _root_.Go.ChangeSpec) : _root_.Go.OpenSpec := { _root_.Go.OpenSpec.ofChange s with cond := some uptoSmall }

/-- 'dormouselaw08.NotesPuts', WHERE WHAT IT READS IS OF BULK AT MOST 1048576: true; the input reads as it did. -/
def notesPutsUptoRow : OpenClaim := { program := "ytkgakdlalmmdiaa", sum := "fc4dff3e9f5d3bcc6832bc31f7fdd81b28b9a9367ae32f2d1a4b9897f4717a02", func := "dormouse/dormouselaw08.NotesPuts", spec := "notesPuts", inPlace := ["internal/bytealg.IndexByteString", "internal/bytealg.IndexByte"], unfollowed := true, recurses := true, apart := false, narrowed := true }
def NotesPutsUptoSaid : Prop := notesPutsUptoRow.holds Try.pinned (OpenSpec.upto notesPutsSpec)

/-- 'dormouselaw08.NotesGets', WHERE WHAT IT READS IS OF BULK AT MOST 1048576: true; the input reads as it did. -/
def notesGetsUptoRow : OpenClaim := { program := "ytkgakdlalmmdiaa", sum := "fc4dff3e9f5d3bcc6832bc31f7fdd81b28b9a9367ae32f2d1a4b9897f4717a02", func := "dormouse/dormouselaw08.NotesGets", spec := "notesGets", inPlace := ["internal/bytealg.IndexByteString", "internal/bytealg.IndexByte"], unfollowed := true, recurses := true, apart := false, narrowed := true }
def NotesGetsUptoSaid : Prop := notesGetsUptoRow.holds Try.pinned (OpenSpec.upto notesGetsSpec)

/-- 'dormouselaw08.NotesFinds', WHERE WHAT IT READS IS OF BULK AT MOST 1048576: true; the input reads as it did. -/
def notesFindsUptoRow : OpenClaim := { program := "ytkgakdlalmmdiaa", sum := "fc4dff3e9f5d3bcc6832bc31f7fdd81b28b9a9367ae32f2d1a4b9897f4717a02", func := "dormouse/dormouselaw08.NotesFinds", spec := "notesFinds", inPlace := ["internal/bytealg.IndexByteString", "internal/bytealg.IndexByte"], unfollowed := true, recurses := true, apart := false, narrowed := true }
def NotesFindsUptoSaid : Prop := notesFindsUptoRow.holds Try.pinned (OpenSpec.upto notesFindsSpec)

/-- 'dormouselaw08.NotesBack', WHERE WHAT IT READS IS OF BULK AT MOST 1048576: true; the input reads as it did. -/
def notesBackUptoRow : OpenClaim := { program := "ytkgakdlalmmdiaa", sum := "fc4dff3e9f5d3bcc6832bc31f7fdd81b28b9a9367ae32f2d1a4b9897f4717a02", func := "dormouse/dormouselaw08.NotesBack", spec := "notesBack", inPlace := ["internal/bytealg.IndexByteString", "internal/bytealg.IndexByte"], unfollowed := true, recurses := true, apart := false, narrowed := true }
def NotesBackUptoSaid : Prop := notesBackUptoRow.holds Try.pinned (OpenSpec.upto notesBackSpec)

/-- 'dormouselaw08.NotesHeads', WHERE WHAT IT READS IS OF BULK AT MOST 1048576: true; the input reads as it did. -/
def notesHeadsUptoRow : OpenClaim := { program := "ytkgakdlalmmdiaa", sum := "fc4dff3e9f5d3bcc6832bc31f7fdd81b28b9a9367ae32f2d1a4b9897f4717a02", func := "dormouse/dormouselaw08.NotesHeads", spec := "notesHeads", inPlace := ["internal/bytealg.IndexByteString", "internal/bytealg.IndexByte"], unfollowed := true, recurses := true, apart := false, narrowed := true }
def NotesHeadsUptoSaid : Prop := notesHeadsUptoRow.holds Try.pinned (OpenSpec.upto notesHeadsSpec)

/-- 'dormouselaw08.NotesMany', WHERE WHAT IT READS IS OF BULK AT MOST 1048576: true; the input reads as it did. -/
def notesManyUptoRow : OpenClaim := { program := "ytkgakdlalmmdiaa", sum := "fc4dff3e9f5d3bcc6832bc31f7fdd81b28b9a9367ae32f2d1a4b9897f4717a02", func := "dormouse/dormouselaw08.NotesMany", spec := "notesMany", inPlace := ["internal/bytealg.IndexByteString", "internal/bytealg.IndexByte"], unfollowed := true, recurses := true, apart := false, narrowed := true }
def NotesManyUptoSaid : Prop := notesManyUptoRow.holds Try.pinned (OpenSpec.upto notesManySpec)

end Rows
end Go.Proofs.Ytkgakdlalmmdiaa
