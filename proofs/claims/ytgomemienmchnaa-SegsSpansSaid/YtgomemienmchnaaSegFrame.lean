/-
  What is proved here: what comes in as a segment by value, and as a slice of segments, read as words of ours.
  Conditions: none.
-/
import Derived.Test.YtgomemienmchnaaSegWords
import Derived.Test.YtgomemienmchnaaRows
import Derived.ProofKit
import Derived.OpenShut
import Derived.Deep.Slices
import Derived.Deep.Fields
import Derived.ChangeSame
namespace Go.Proofs.Ytgomemienmchnaa
open Go.RowKit Go.ChangeShapes Go.WideShapes
set_option linter.unusedVariables false

theorem cells_u32 : Try.prog.cellsOf 22 = 1 := by kernel_rfl
theorem cells_u64 : Try.prog.cellsOf 23 = 1 := by kernel_rfl
theorem cells_seg : Try.prog.cellsOf 25 = 7 := by kernel_rfl
theorem wf_u32 {n : Int} (h : (Lit.int .u32 n).wf = true) : 0 ≤ n ∧ n ≤ 4294967295 := by
  simpa [Lit.wf, IntKind.min, IntKind.max, IntKind.signed, IntKind.bits] using h
theorem len7 {cs : List Value} (h : cs.length = 7) : ∃ c0 c1 c2 c3 c4 c5 c6, cs = [c0, c1, c2, c3, c4, c5, c6] := by
  rcases cs with _ | ⟨c0, _ | ⟨c1, _ | ⟨c2, _ | ⟨c3, _ | ⟨c4, _ | ⟨c5, _ | ⟨c6, _ | ⟨c7, cs⟩⟩⟩⟩⟩⟩⟩⟩
  all_goals first | exact ⟨_, _, _, _, _, _, _, rfl⟩ | (simp at h; try omega)

section
variable {H : Type} {enc : TypeId × Value → H} {w : World} {base : Nat} {spare : Nat → Bool} {held : Bool}
/-- A segment's cells, as they are read. -/
theorem seg_cells {fuel : Nat} {cs : List Value} {x : DataW H × List MemPlace} (h : DataW.trod enc Try.prog w base spare held fuel 25 cs = some x) : ∃ s : Sg, s.Ok ∧ cs = s.cells.toList := by
  obtain ⟨xs, n, -, -, hlen, hxl, hf⟩ := DataW.trod_struct Try.underlying25 h
  rw [cells_seg] at hlen
  obtain ⟨c0, c1, c2, c3, c4, c5, c6, rfl⟩ := len7 hlen
  have hx : ∀ j, j < 7 → ∃ y, xs[j]? = some y := fun j hj => ⟨_, List.getElem?_eq_getElem (by rw [hxl]; exact hj)⟩
  obtain ⟨y0, e0⟩ := hx 0 (by decide)
  obtain ⟨y1, e1⟩ := hx 1 (by decide)
  obtain ⟨y2, e2⟩ := hx 2 (by decide)
  obtain ⟨y3, e3⟩ := hx 3 (by decide)
  obtain ⟨y4, e4⟩ := hx 4 (by decide)
  obtain ⟨y5, e5⟩ := hx 5 (by decide)
  obtain ⟨y6, e6⟩ := hx 6 (by decide)
  have f0 := (hf 0 _ rfl).trans e0
  have f1 := (hf 1 _ rfl).trans e1
  have f2 := (hf 2 _ rfl).trans e2
  have f3 := (hf 3 _ rfl).trans e3
  have f4 := (hf 4 _ rfl).trans e4
  have f5 := (hf 5 _ rfl).trans e5
  have f6 := (hf 6 _ rfl).trans e6
  obtain ⟨n0, g0, -, w0⟩ := DataW.trod_int Try.underlying22 f0
  obtain ⟨n1, g1, -, w1⟩ := DataW.trod_int Try.underlying22 f1
  obtain ⟨n2, g2, -, w2⟩ := DataW.trod_int Try.underlying23 f2
  obtain ⟨n3, g3, -, w3⟩ := DataW.trod_int Try.underlying23 f3
  obtain ⟨n4, g4, -, w4⟩ := DataW.trod_int Try.underlying23 f4
  obtain ⟨n5, g5, -, w5⟩ := DataW.trod_int Try.underlying23 f5
  obtain ⟨n6, g6, -, w6⟩ := DataW.trod_int Try.underlying23 f6
  have e0' : List.take (Try.prog.cellsOf 22) (List.drop 0 [c0, c1, c2, c3, c4, c5, c6]) = [.int .u32 n0] := g0
  rw [cells_u32] at e0'
  have e1' : List.take (Try.prog.cellsOf 22) (List.drop 1 [c0, c1, c2, c3, c4, c5, c6]) = [.int .u32 n1] := g1
  rw [cells_u32] at e1'
  have e2' : List.take (Try.prog.cellsOf 23) (List.drop 2 [c0, c1, c2, c3, c4, c5, c6]) = [.int .u64 n2] := g2
  rw [cells_u64] at e2'
  have e3' : List.take (Try.prog.cellsOf 23) (List.drop 3 [c0, c1, c2, c3, c4, c5, c6]) = [.int .u64 n3] := g3
  rw [cells_u64] at e3'
  have e4' : List.take (Try.prog.cellsOf 23) (List.drop 4 [c0, c1, c2, c3, c4, c5, c6]) = [.int .u64 n4] := g4
  rw [cells_u64] at e4'
  have e5' : List.take (Try.prog.cellsOf 23) (List.drop 5 [c0, c1, c2, c3, c4, c5, c6]) = [.int .u64 n5] := g5
  rw [cells_u64] at e5'
  have e6' : List.take (Try.prog.cellsOf 23) (List.drop 6 [c0, c1, c2, c3, c4, c5, c6]) = [.int .u64 n6] := g6
  rw [cells_u64] at e6'
  simp at e0' e1' e2' e3' e4' e5' e6'
  subst e0' e1' e2' e3' e4' e5' e6'
  exact ⟨⟨n0, n1, n2, n3, n4, n5, n6⟩, ⟨wf_u32 w0, wf_u32 w1, bd_u64 w2, bd_u64 w3, bd_u64 w4, bd_u64 w5, bd_u64 w6⟩, rfl⟩
theorem list_of {P : Nat → Sg → Prop} : ∀ (n : Nat), (∀ i, i < n → ∃ s, P i s) → ∃ L : List Sg, L.length = n ∧ ∀ i, i < n → P i (L.getD i sg0)
  | 0, _ => ⟨[], rfl, fun i h => absurd h (by omega)⟩
  | n + 1, h => by
    obtain ⟨L, hl, hL⟩ := list_of n (fun i hi => h i (by omega))
    obtain ⟨s, hs⟩ := h n (by omega)
    refine ⟨L ++ [s], by simp [hl], fun i hi => ?_⟩
    by_cases e : i = n
    · subst e
      rw [List.getD_eq_getElem?_getD, List.getElem?_append_right (by omega)]
      simpa [hl] using hs
    · rw [List.getD_eq_getElem?_getD, List.getElem?_append_left (by omega), ← List.getD_eq_getElem?_getD]
      exact hL i (by omega)
/-- A slice of segments that came in. -/
def IsSgs (w : World) (a : Option Addr) (len cap : Nat) (L : List Sg) : Prop :=
  (a = none ∧ len = 0 ∧ cap = 0 ∧ L = []) ∨
  ∃ x, a = some x ∧ len ≤ cap ∧ cap ≤ maxLen ∧ L.length = cap ∧ ∀ i, i < cap → (L.getD i sg0).Ok ∧ ∀ j, j < 7 → w.cell? (x.add (i * 7 + j)) = (L.getD i sg0).cells[j]?
theorem open_segs {fuel : Nat} {a : Option Addr} {len cap : Nat} {x : DataW H × List MemPlace} (h : DataW.trod enc Try.prog w base (fun _ => true) held fuel 33 (Value.slice a len cap).cells.toList = some x) : ∃ L, IsSgs w a len cap L := by
  rcases Go.Deep.open_slice Try.underlying33 h with ⟨hcs, _⟩ | ⟨a', l, c, m, n, D, Pl, hcs, _, hl, hm, hmm, _, hi⟩
  · simp [Value.cells] at hcs
    obtain ⟨rfl, rfl, rfl⟩ := hcs
    exact ⟨[], .inl ⟨rfl, rfl, rfl, rfl⟩⟩
  · simp [Value.cells] at hcs
    obtain ⟨rfl, rfl, rfl⟩ := hcs
    have hmc : m = cap := by simpa using hmm
    subst hmc
    obtain ⟨L, hL, hLs⟩ := list_of (P := fun i s => s.Ok ∧ ∀ j, j < 7 → w.cell? (a'.add (i * 7 + j)) = s.cells[j]?) m (fun i him => by
      obtain ⟨cs', hc, ht⟩ := hi i him
      obtain ⟨s, hok, rfl⟩ := seg_cells ht
      obtain ⟨_, _, hat⟩ := World.cells?_some hc
      rw [cells_seg] at hat
      refine ⟨s, hok, fun j hj => ?_⟩
      rw [← Go.Deep.add_add, hat j hj]
      simp)
    exact ⟨L, .inr ⟨a', rfl, hl, hm, hL, hLs⟩⟩
theorem open_seg {fuel : Nat} {cs : Array Value} {x : DataW H × List MemPlace} (h : DataW.trod enc Try.prog w base spare held fuel 25 (Value.agg cs).cells.toList = some x) : ∃ s : Sg, s.Ok ∧ cs = s.cells := by
  obtain ⟨s, hok, hs⟩ := seg_cells h
  refine ⟨s, hok, ?_⟩
  apply Array.ext'
  simpa [Value.cells] using hs
end
theorem IsSgs.sgs {w : World} {a : Option Addr} {len cap : Nat} {L : List Sg} (h : IsSgs w a len cap L) :
    Sgs w w.heap.size a len (L.take len) ∧ len ≤ cap ∧ (cap : Int) ≤ 9223372036854775807 := by
  rcases h with ⟨rfl, rfl, rfl, rfl⟩ | ⟨⟨b, off, spot⟩, rfl, hl, hm, hL, hc⟩
  · exact ⟨Sgs.empty _ _ _, Nat.le_refl _, by omega⟩
  · have hm' : (cap : Int) ≤ 9223372036854775807 := by unfold maxLen at hm; omega
    refine ⟨⟨by rw [List.length_take]; omega, fun s hs => ?_, fun h0 => ?_⟩, hl, hm'⟩
    · obtain ⟨i, hi, rfl⟩ := List.getElem_of_mem (List.mem_of_mem_take hs)
      have := (hc i (by omega)).1
      rwa [List.getD_eq_getElem?_getD, List.getElem?_eq_getElem hi] at this
    · have h1 : w.cell? ((⟨b, off, spot⟩ : Addr).add 0) = some (.int .u32 (L.getD 0 sg0).ty) := (hc 0 (by omega)).2 0 (by decide)
      have hs : spot = none := by
        have h2 : w.cell? ⟨b, off, spot⟩ = some (.int .u32 (L.getD 0 sg0).ty) := by simpa [Addr.add] using h1
        exact World.cell?_spot h2
      subst hs
      have hlt : b < w.heap.size := by
        have h2 : w.cell? ⟨b, off, none⟩ = some (.int .u32 (L.getD 0 sg0).ty) := by simpa [Addr.add] using h1
        exact block_lt h2
      refine ⟨b, off, rfl, hlt, fun i hi => ?_⟩
      have h2 := (hc i (by omega)).2
      simp only [add_none] at h2
      rw [List.getD_eq_getElem?_getD, List.getElem?_take_of_lt hi, ← List.getD_eq_getElem?_getD]
      exact ⟨h2 0 (by decide), h2 1 (by decide), h2 2 (by decide), h2 3 (by decide), h2 4 (by decide), h2 5 (by decide), h2 6 (by decide)⟩
end Go.Proofs.Ytgomemienmchnaa
