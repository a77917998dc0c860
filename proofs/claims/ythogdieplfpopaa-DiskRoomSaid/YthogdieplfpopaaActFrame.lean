/-
  What is proved here: what comes in as a struct 'Ac' by value, and as a slice of such structs, read as words of ours.
  Conditions: none. (Made by structs2.py.)
-/
import Derived.Test.YthogdieplfpopaaActWords
import Derived.Test.YthogdieplfpopaaRows
import Derived.ProofKit
import Derived.OpenShut
import Derived.Deep.Slices
import Derived.Deep.Fields
import Derived.ChangeSame
namespace Go.Proofs.Ythogdieplfpopaa
open Go.RowKit Go.ChangeShapes Go.WideShapes
set_option linter.unusedVariables false

theorem Ac.one_int : Try.prog.cellsOf 3 = 1 := by kernel_rfl
theorem Ac.wf_int {n : Int} (h : (Lit.int .i64 n).wf = true) : -9223372036854775808 ≤ n ∧ n ≤ 9223372036854775807 := by
  simpa [Lit.wf, IntKind.min, IntKind.max, IntKind.signed, IntKind.bits] using h
theorem Ac.one_sl_uint8 : Try.prog.cellsOf 32 = 1 := by kernel_rfl
theorem Ac.one_sl_bool : Try.prog.cellsOf 33 = 1 := by kernel_rfl
theorem Ac.many : Try.prog.cellsOf 35 = 6 := by kernel_rfl
theorem Ac.split {cs : List Value} (h : cs.length = 6) : ∃ c0 c1 c2 c3 c4 c5, cs = [c0, c1, c2, c3, c4, c5] := by
  rcases cs with _ | ⟨c0, _ | ⟨c1, _ | ⟨c2, _ | ⟨c3, _ | ⟨c4, _ | ⟨c5, _ | ⟨c6, cs⟩⟩⟩⟩⟩⟩⟩
  all_goals first | exact ⟨_, _, _, _, _, _, rfl⟩ | (simp at h; try omega)

section
variable {H : Type} {enc : TypeId × Value → H} {w : World} {base : Nat} {held : Bool}
theorem Ac.read {fuel : Nat} {cs : List Value} {x : DataW H × List MemPlace} (h : DataW.trod enc Try.prog w base (fun _ => true) held fuel 35 cs = some x) : ∃ s : Ac, s.Ok w w.heap.size ∧ cs = s.cells.toList := by
  obtain ⟨xs, n, -, -, hlen, hxl, hf⟩ := DataW.trod_struct Try.underlying35 h
  rw [Ac.many] at hlen
  obtain ⟨c0, c1, c2, c3, c4, c5, rfl⟩ := Ac.split hlen
  have hx : ∀ j, j < 6 → ∃ y, xs[j]? = some y := fun j hj => ⟨_, List.getElem?_eq_getElem (by rw [hxl]; exact hj)⟩
  obtain ⟨y0, e0⟩ := hx 0 (by decide)
  obtain ⟨n0, g0, -, w0⟩ := DataW.trod_int Try.underlying3 ((hf 0 _ rfl).trans e0)
  have k0 : List.take (Try.prog.cellsOf 3) (List.drop 0 [c0, c1, c2, c3, c4, c5]) = [.int .i64 n0] := g0
  rw [Ac.one_int] at k0
  obtain ⟨y1, e1⟩ := hx 1 (by decide)
  obtain ⟨n1, g1, -, w1⟩ := DataW.trod_int Try.underlying3 ((hf 1 _ rfl).trans e1)
  have k1 : List.take (Try.prog.cellsOf 3) (List.drop 1 [c0, c1, c2, c3, c4, c5]) = [.int .i64 n1] := g1
  rw [Ac.one_int] at k1
  obtain ⟨y2, e2⟩ := hx 2 (by decide)
  obtain ⟨n2, g2, -, w2⟩ := DataW.trod_int Try.underlying3 ((hf 2 _ rfl).trans e2)
  have k2 : List.take (Try.prog.cellsOf 3) (List.drop 2 [c0, c1, c2, c3, c4, c5]) = [.int .i64 n2] := g2
  rw [Ac.one_int] at k2
  obtain ⟨y3, e3⟩ := hx 3 (by decide)
  obtain ⟨n3, g3, -, w3⟩ := DataW.trod_int Try.underlying3 ((hf 3 _ rfl).trans e3)
  have k3 : List.take (Try.prog.cellsOf 3) (List.drop 3 [c0, c1, c2, c3, c4, c5]) = [.int .i64 n3] := g3
  rw [Ac.one_int] at k3
  obtain ⟨y4, e4⟩ := hx 4 (by decide)
  obtain ⟨n4, w4, g4⟩ := Bs.open Try.underlying32 Try.underlying5 (by kernel_rfl) ((hf 4 _ rfl).trans e4)
  have k4 : List.take (Try.prog.cellsOf 32) (List.drop 4 [c0, c1, c2, c3, c4, c5]) = [.slice n4.a n4.n n4.c] := g4
  rw [Ac.one_sl_uint8] at k4
  obtain ⟨y5, e5⟩ := hx 5 (by decide)
  obtain ⟨n5, w5, g5⟩ := Bo.open Try.underlying33 Try.underlying4 (by kernel_rfl) ((hf 5 _ rfl).trans e5)
  have k5 : List.take (Try.prog.cellsOf 33) (List.drop 5 [c0, c1, c2, c3, c4, c5]) = [.slice n5.a n5.n n5.c] := g5
  rw [Ac.one_sl_bool] at k5
  simp at k0 k1 k2 k3 k4 k5
  subst k0 k1 k2 k3 k4 k5
  exact ⟨⟨n0, n1, n2, n3, n4, n5⟩, ⟨Ac.wf_int w0, Ac.wf_int w1, Ac.wf_int w2, Ac.wf_int w3, w4, w5⟩, rfl⟩
theorem Ac.list_of {P : Nat → Ac → Prop} : ∀ (n : Nat), (∀ i, i < n → ∃ s, P i s) → ∃ L : List Ac, L.length = n ∧ ∀ i, i < n → P i (L.getD i Ac.zero)
  | 0, _ => ⟨[], rfl, fun i h => absurd h (by omega)⟩
  | n + 1, h => by
    obtain ⟨L, hl, hL⟩ := Ac.list_of n (fun i hi => h i (by omega))
    obtain ⟨s, hs⟩ := h n (by omega)
    refine ⟨L ++ [s], by simp [hl], fun i hi => ?_⟩
    by_cases e : i = n
    · subst e
      rw [List.getD_eq_getElem?_getD, List.getElem?_append_right (by omega)]
      simpa [hl] using hs
    · rw [List.getD_eq_getElem?_getD, List.getElem?_append_left (by omega), ← List.getD_eq_getElem?_getD]
      exact hL i (by omega)
/-- A slice of them that came in. -/
def Ac.Is (w : World) (a : Option Addr) (len cap : Nat) (L : List Ac) : Prop :=
  (a = none ∧ len = 0 ∧ cap = 0 ∧ L = []) ∨
  ∃ x, a = some x ∧ len ≤ cap ∧ cap ≤ maxLen ∧ L.length = cap ∧ ∀ i, i < cap → (L.getD i Ac.zero).Ok w w.heap.size ∧ ∀ j, j < 6 → w.cell? (x.add (i * 6 + j)) = (L.getD i Ac.zero).cells[j]?
theorem Ac.opens {fuel : Nat} {a : Option Addr} {len cap : Nat} {x : DataW H × List MemPlace} (h : DataW.trod enc Try.prog w base (fun _ => true) held fuel 22 (Value.slice a len cap).cells.toList = some x) : ∃ L, Ac.Is w a len cap L := by
  rcases Go.Deep.open_slice Try.underlying22 h with ⟨hcs, _⟩ | ⟨a', l, c, m, n, D, Pl, hcs, _, hl, hm, hmm, _, hi⟩
  · simp [Value.cells] at hcs
    obtain ⟨rfl, rfl, rfl⟩ := hcs
    exact ⟨[], .inl ⟨rfl, rfl, rfl, rfl⟩⟩
  · simp [Value.cells] at hcs
    obtain ⟨rfl, rfl, rfl⟩ := hcs
    have hmc : m = cap := by simpa using hmm
    subst hmc
    obtain ⟨L, hL, hLs⟩ := Ac.list_of (P := fun i s => s.Ok w w.heap.size ∧ ∀ j, j < 6 → w.cell? (a'.add (i * 6 + j)) = s.cells[j]?) m (fun i him => by
      obtain ⟨cs', hc, ht⟩ := hi i him
      obtain ⟨s, hok, rfl⟩ := Ac.read ht
      obtain ⟨_, _, hat⟩ := World.cells?_some hc
      rw [Ac.many] at hat
      refine ⟨s, hok, fun j hj => ?_⟩
      rw [← Go.Deep.add_add, hat j hj]
      simp)
    exact ⟨L, .inr ⟨a', rfl, hl, hm, hL, hLs⟩⟩
theorem Ac.open1 {fuel : Nat} {cs : Array Value} {x : DataW H × List MemPlace} (h : DataW.trod enc Try.prog w base (fun _ => true) held fuel 35 (Value.agg cs).cells.toList = some x) : ∃ s : Ac, s.Ok w w.heap.size ∧ cs = s.cells := by
  obtain ⟨s, hok, hs⟩ := Ac.read h
  refine ⟨s, hok, ?_⟩
  apply Array.ext'
  simpa [Value.cells] using hs
end
theorem Ac.Is.sl {w : World} {a : Option Addr} {len cap : Nat} {L : List Ac} (h : Ac.Is w a len cap L) :
    Ac.Sl w w.heap.size a len (L.take len) ∧ len ≤ cap ∧ (cap : Int) ≤ 9223372036854775807 := by
  rcases h with ⟨rfl, rfl, rfl, rfl⟩ | ⟨⟨b, off, spot⟩, rfl, hl, hm, hL, hc⟩
  · exact ⟨Ac.Sl.empty _ _ _, Nat.le_refl _, by omega⟩
  · have hm' : (cap : Int) ≤ 9223372036854775807 := by unfold maxLen at hm; omega
    refine ⟨⟨by rw [List.length_take]; omega, fun s hs => ?_, fun h0 => ?_⟩, hl, hm'⟩
    · obtain ⟨i, hi, rfl⟩ := List.getElem_of_mem (List.mem_of_mem_take hs)
      have := (hc i (by omega)).1
      rwa [List.getD_eq_getElem?_getD, List.getElem?_eq_getElem hi] at this
    · have h1 : w.cell? ((⟨b, off, spot⟩ : Addr).add 0) = some (.int .i64 (L.getD 0 Ac.zero).k) := (hc 0 (by omega)).2 0 (by decide)
      have hs : spot = none := by
        have h2 : w.cell? ⟨b, off, spot⟩ = some (.int .i64 (L.getD 0 Ac.zero).k) := by simpa [Addr.add] using h1
        exact World.cell?_spot h2
      subst hs
      have hlt : b < w.heap.size := by
        have h2 : w.cell? ⟨b, off, none⟩ = some (.int .i64 (L.getD 0 Ac.zero).k) := by simpa [Addr.add] using h1
        exact block_lt h2
      refine ⟨b, off, rfl, hlt, fun i hi => ?_⟩
      have h2 := (hc i (by omega)).2
      simp only [add_none] at h2
      rw [List.getD_eq_getElem?_getD, List.getElem?_take_of_lt hi, ← List.getD_eq_getElem?_getD]
      exact ⟨h2 0 (by decide), h2 1 (by decide), h2 2 (by decide), h2 3 (by decide), h2 4 (by decide), h2 5 (by decide)⟩
end Go.Proofs.Ythogdieplfpopaa
