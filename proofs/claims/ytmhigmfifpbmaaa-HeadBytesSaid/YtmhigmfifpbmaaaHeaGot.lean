/-
  What is proved here: what both Gets make of bytes is one head and one number, and whether both are the same is told by their cells.
  Conditions: none.
-/
import Derived.Test.YtmhigmfifpbmaaaHeaAwake
import Derived.Deep.RegionWith
namespace Go.Proofs.Ytmhigmfifpbmaaa
open Go.RowKit
set_option linter.unusedVariables false

/-- What Get returns is a head and a number. -/
theorem getV_form (zs : List Int) : ∃ k e s c er, getV zs = .tuple #[.agg #[.int .i64 k, .int .u64 e, .int .u64 s, .int .i64 c], .int .i64 er] := by
  unfold getV headV
  split
  · exact ⟨_, _, _, _, _, rfl⟩
  · split
    · exact ⟨_, _, _, _, _, rfl⟩
    · exact ⟨_, _, _, _, _, rfl⟩
theorem hget_f {zs : List Int} {k e s c er : Int} (h : getV zs = .tuple #[.agg #[.int .i64 k, .int .u64 e, .int .u64 s, .int .i64 c], .int .i64 er]) (B : Nat) (a : Option Addr) (len cap : Nat) (w : World) (hb : Bys w B a len zs) (hB : B ≤ w.heap.size) (hcap : len ≤ cap) (hcm : (cap : Int) ≤ 9223372036854775807) :
    Calls Try.prog 11 #[.slice a len cap] w fun r w' => r = .returned (.tuple #[.agg #[.int .i64 k, .int .u64 e, .int .u64 s, .int .i64 c], .int .i64 er]) ∧ Below w.heap.size w w' :=
  h ▸ hget_any B a len cap zs w hb hB hcap hcm
theorem rhget_f {zs : List Int} {k e s c er : Int} (h : getV zs = .tuple #[.agg #[.int .i64 k, .int .u64 e, .int .u64 s, .int .i64 c], .int .i64 er]) (B : Nat) (a : Option Addr) (len cap : Nat) (w : World) (hb : Bys w B a len zs) (hB : B ≤ w.heap.size) (hcap : len ≤ cap) (hcm : (cap : Int) ≤ 9223372036854775807) :
    Calls Try.prog 12 #[.slice a len cap] w fun r w' => r = .returned (.tuple #[.agg #[.int .i64 k, .int .u64 e, .int .u64 s, .int .i64 c], .int .i64 er]) ∧ Below w.heap.size w w' :=
  h ▸ rhget_any B a len cap zs w hb hB hcap hcm

/-- The eight cells of two heads, in a world and in what comes behind it. -/
def Two (w : World) (g1 g2 : Nat) (k e s c : Int) : Prop :=
  w.cell? ⟨g1, 0, none⟩ = some (.int .i64 k) ∧ w.cell? ⟨g1, 1, none⟩ = some (.int .u64 e) ∧ w.cell? ⟨g1, 2, none⟩ = some (.int .u64 s) ∧ w.cell? ⟨g1, 3, none⟩ = some (.int .i64 c) ∧
  w.cell? ⟨g2, 0, none⟩ = some (.int .i64 k) ∧ w.cell? ⟨g2, 1, none⟩ = some (.int .u64 e) ∧ w.cell? ⟨g2, 2, none⟩ = some (.int .u64 s) ∧ w.cell? ⟨g2, 3, none⟩ = some (.int .i64 c)
theorem two_of {w : World} {g1 g2 t1 t2 : Nat} {k e s c : Int} (h1 : Blk w g1 #[.int .i64 k, .int .u64 e, .int .u64 s, .int .i64 c] t1) (h2 : Blk w g2 #[.int .i64 k, .int .u64 e, .int .u64 s, .int .i64 c] t2) :
    Two w g1 g2 k e s c ∧ ∀ w', Below w.drew.heap.size w.drew w' → Two w' g1 g2 k e s c :=
  ⟨⟨h1.cell 0, h1.cell 1, h1.cell 2, h1.cell 3, h2.cell 0, h2.cell 1, h2.cell 2, h2.cell 3⟩, fun w' hb =>
    ⟨(h1.drew.later hb).cell 0, (h1.drew.later hb).cell 1, (h1.drew.later hb).cell 2, (h1.drew.later hb).cell 3, (h2.drew.later hb).cell 0, (h2.drew.later hb).cell 1, (h2.drew.later hb).cell 2, (h2.drew.later hb).cell 3⟩⟩
end Go.Proofs.Ytmhigmfifpbmaaa
