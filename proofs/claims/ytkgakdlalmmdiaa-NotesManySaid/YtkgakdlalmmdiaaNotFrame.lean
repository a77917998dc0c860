/-
  What is proved here: what comes in as a struct 'Nt' by value, and as a slice of such structs, read as words of ours.
  Conditions: none. (Made by structs2.py.)
-/
import Derived.Test.YtkgakdlalmmdiaaNotWords
import Derived.Test.YtkgakdlalmmdiaaRows
import Derived.ProofKit
import Derived.OpenShut
import Derived.Deep.Slices
import Derived.Deep.Fields
import Derived.ChangeSame
namespace Go.Proofs.Ytkgakdlalmmdiaa
open Go.RowKit Go.ChangeShapes Go.WideShapes
set_option linter.unusedVariables false

theorem Nt.one_string : Try.prog.cellsOf 9 = 1 := by kernel_rfl
theorem Nt.one_uint32 : Try.prog.cellsOf 38 = 1 := by kernel_rfl
theorem Nt.wf_uint32 {n : Int} (h : (Lit.int .u32 n).wf = true) : 0 ≤ n ∧ n ≤ 4294967295 := by
  simpa [Lit.wf, IntKind.min, IntKind.max, IntKind.signed, IntKind.bits] using h
theorem Nt.one_sl_uint8 : Try.prog.cellsOf 25 = 1 := by kernel_rfl
theorem Nt.many : Try.prog.cellsOf 42 = 3 := by kernel_rfl
theorem Nt.split {cs : List Value} (h : cs.length = 3) : ∃ c0 c1 c2, cs = [c0, c1, c2] := by
  rcases cs with _ | ⟨c0, _ | ⟨c1, _ | ⟨c2, _ | ⟨c3, cs⟩⟩⟩⟩
  all_goals first | exact ⟨_, _, _, rfl⟩ | (simp at h; try omega)

section
variable {H : Type} {enc : TypeId × Value → H} {w : World} {base : Nat} {held : Bool}
theorem Nt.read {fuel : Nat} {cs : List Value} {x : DataW H × List MemPlace} (h : DataW.trod enc Try.prog w base (fun _ => true) held fuel 42 cs = some x) : ∃ s : Nt, s.Ok w w.heap.size ∧ cs = s.cells.toList := by
  obtain ⟨xs, n, -, -, hlen, hxl, hf⟩ := DataW.trod_struct Try.underlying42 h
  rw [Nt.many] at hlen
  obtain ⟨c0, c1, c2, rfl⟩ := Nt.split hlen
  have hx : ∀ j, j < 3 → ∃ y, xs[j]? = some y := fun j hj => ⟨_, List.getElem?_eq_getElem (by rw [hxl]; exact hj)⟩
  obtain ⟨y0, e0⟩ := hx 0 (by decide)
  obtain ⟨n0, g0, -, w0⟩ := DataW.trod_string Try.underlying9 ((hf 0 _ rfl).trans e0)
  have k0 : List.take (Try.prog.cellsOf 9) (List.drop 0 [c0, c1, c2]) = [.string n0] := g0
  rw [Nt.one_string] at k0
  obtain ⟨y1, e1⟩ := hx 1 (by decide)
  obtain ⟨n1, g1, -, w1⟩ := DataW.trod_int Try.underlying38 ((hf 1 _ rfl).trans e1)
  have k1 : List.take (Try.prog.cellsOf 38) (List.drop 1 [c0, c1, c2]) = [.int .u32 n1] := g1
  rw [Nt.one_uint32] at k1
  obtain ⟨y2, e2⟩ := hx 2 (by decide)
  obtain ⟨n2, w2, g2⟩ := Bs.open Try.underlying25 Try.underlying5 (by kernel_rfl) ((hf 2 _ rfl).trans e2)
  have k2 : List.take (Try.prog.cellsOf 25) (List.drop 2 [c0, c1, c2]) = [.slice n2.a n2.n n2.c] := g2
  rw [Nt.one_sl_uint8] at k2
  simp at k0 k1 k2
  subst k0 k1 k2
  exact ⟨⟨n0, n1, n2⟩, ⟨w0, Nt.wf_uint32 w1, w2⟩, rfl⟩
theorem Nt.list_of {P : Nat → Nt → Prop} : ∀ (n : Nat), (∀ i, i < n → ∃ s, P i s) → ∃ L : List Nt, L.length = n ∧ ∀ i, i < n → P i (L.getD i Nt.zero)
  | 0, _ => ⟨[], rfl, fun i h => absurd h (by omega)⟩
  | n + 1, h => by
    obtain ⟨L, hl, hL⟩ := Nt.list_of n (fun i hi => h i (by omega))
    obtain ⟨s, hs⟩ := h n (by omega)
    refine ⟨L ++ [s], by simp [hl], fun i hi => ?_⟩
    by_cases e : i = n
    · subst e
      rw [List.getD_eq_getElem?_getD, List.getElem?_append_right (by omega)]
      simpa [hl] using hs
    · rw [List.getD_eq_getElem?_getD, List.getElem?_append_left (by omega), ← List.getD_eq_getElem?_getD]
      exact hL i (by omega)
/-- A slice of them that came in. -/
def Nt.Is (w : World) (a : Option Addr) (len cap : Nat) (L : List Nt) : Prop :=
  (a = none ∧ len = 0 ∧ cap = 0 ∧ L = []) ∨
  ∃ x, a = some x ∧ len ≤ cap ∧ cap ≤ maxLen ∧ L.length = cap ∧ ∀ i, i < cap → (L.getD i Nt.zero).Ok w w.heap.size ∧ ∀ j, j < 3 → w.cell? (x.add (i * 3 + j)) = (L.getD i Nt.zero).cells[j]?
theorem Nt.opens {fuel : Nat} {a : Option Addr} {len cap : Nat} {x : DataW H × List MemPlace} (h : DataW.trod enc Try.prog w base (fun _ => true) held fuel 22 (Value.slice a len cap).cells.toList = some x) : ∃ L, Nt.Is w a len cap L := by
  rcases Go.Deep.open_slice Try.underlying22 h with ⟨hcs, _⟩ | ⟨a', l, c, m, n, D, Pl, hcs, _, hl, hm, hmm, _, hi⟩
  · simp [Value.cells] at hcs
    obtain ⟨rfl, rfl, rfl⟩ := hcs
    exact ⟨[], .inl ⟨rfl, rfl, rfl, rfl⟩⟩
  · simp [Value.cells] at hcs
    obtain ⟨rfl, rfl, rfl⟩ := hcs
    have hmc : m = cap := by simpa using hmm
    subst hmc
    obtain ⟨L, hL, hLs⟩ := Nt.list_of (P := fun i s => s.Ok w w.heap.size ∧ ∀ j, j < 3 → w.cell? (a'.add (i * 3 + j)) = s.cells[j]?) m (fun i him => by
      obtain ⟨cs', hc, ht⟩ := hi i him
      obtain ⟨s, hok, rfl⟩ := Nt.read ht
      obtain ⟨_, _, hat⟩ := World.cells?_some hc
      rw [Nt.many] at hat
      refine ⟨s, hok, fun j hj => ?_⟩
      rw [← Go.Deep.add_add, hat j hj]
      simp)
    exact ⟨L, .inr ⟨a', rfl, hl, hm, hL, hLs⟩⟩
theorem Nt.open1 {fuel : Nat} {cs : Array Value} {x : DataW H × List MemPlace} (h : DataW.trod enc Try.prog w base (fun _ => true) held fuel 42 (Value.agg cs).cells.toList = some x) : ∃ s : Nt, s.Ok w w.heap.size ∧ cs = s.cells := by
  obtain ⟨s, hok, hs⟩ := Nt.read h
  refine ⟨s, hok, ?_⟩
  apply Array.ext'
  simpa [Value.cells] using hs
end
theorem Nt.Is.sl {w : World} {a : Option Addr} {len cap : Nat} {L : List Nt} (h : Nt.Is w a len cap L) :
    Nt.Sl w w.heap.size a len (L.take len) ∧ len ≤ cap ∧ (cap : Int) ≤ 9223372036854775807 := by
  rcases h with ⟨rfl, rfl, rfl, rfl⟩ | ⟨⟨b, off, spot⟩, rfl, hl, hm, hL, hc⟩
  · exact ⟨Nt.Sl.empty _ _ _, Nat.le_refl _, by omega⟩
  · have hm' : (cap : Int) ≤ 9223372036854775807 := by unfold maxLen at hm; omega
    refine ⟨⟨by rw [List.length_take]; omega, fun s hs => ?_, fun h0 => ?_⟩, hl, hm'⟩
    · obtain ⟨i, hi, rfl⟩ := List.getElem_of_mem (List.mem_of_mem_take hs)
      have := (hc i (by omega)).1
      rwa [List.getD_eq_getElem?_getD, List.getElem?_eq_getElem hi] at this
    · have h1 : w.cell? ((⟨b, off, spot⟩ : Addr).add 0) = some (.string (L.getD 0 Nt.zero).na) := (hc 0 (by omega)).2 0 (by decide)
      have hs : spot = none := by
        have h2 : w.cell? ⟨b, off, spot⟩ = some (.string (L.getD 0 Nt.zero).na) := by simpa [Addr.add] using h1
        exact World.cell?_spot h2
      subst hs
      have hlt : b < w.heap.size := by
        have h2 : w.cell? ⟨b, off, none⟩ = some (.string (L.getD 0 Nt.zero).na) := by simpa [Addr.add] using h1
        exact block_lt h2
      refine ⟨b, off, rfl, hlt, fun i hi => ?_⟩
      have h2 := (hc i (by omega)).2
      simp only [add_none] at h2
      rw [List.getD_eq_getElem?_getD, List.getElem?_take_of_lt hi, ← List.getD_eq_getElem?_getD]
      exact ⟨h2 0 (by decide), h2 1 (by decide), h2 2 (by decide)⟩
end Go.Proofs.Ytkgakdlalmmdiaa
