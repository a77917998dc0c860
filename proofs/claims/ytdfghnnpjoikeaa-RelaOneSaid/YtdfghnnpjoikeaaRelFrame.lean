/-
  What is proved here: what comes in as a struct 'Rl' by value, and as a slice of such structs, read as words of ours.
  Conditions: none. (Made by structs.py.)
-/
import Derived.Test.YtdfghnnpjoikeaaRelWords
import Derived.Test.YtdfghnnpjoikeaaRows
import Derived.ProofKit
import Derived.OpenShut
import Derived.Deep.Slices
import Derived.Deep.Fields
import Derived.ChangeSame
namespace Go.Proofs.Ytdfghnnpjoikeaa
open Go.RowKit Go.ChangeShapes Go.WideShapes
set_option linter.unusedVariables false

theorem Rl.one_i64 : Try.prog.cellsOf 2 = 1 := by kernel_rfl
theorem Rl.wf_i64 {n : Int} (h : (Lit.int .i64 n).wf = true) : -9223372036854775808 ≤ n ∧ n ≤ 9223372036854775807 := by
  simpa [Lit.wf, IntKind.min, IntKind.max, IntKind.signed, IntKind.bits] using h
theorem Rl.one_u32 : Try.prog.cellsOf 23 = 1 := by kernel_rfl
theorem Rl.wf_u32 {n : Int} (h : (Lit.int .u32 n).wf = true) : 0 ≤ n ∧ n ≤ 4294967295 := by
  simpa [Lit.wf, IntKind.min, IntKind.max, IntKind.signed, IntKind.bits] using h
theorem Rl.one_u64 : Try.prog.cellsOf 22 = 1 := by kernel_rfl
theorem Rl.wf_u64 {n : Int} (h : (Lit.int .u64 n).wf = true) : 0 ≤ n ∧ n ≤ 18446744073709551615 := by
  simpa [Lit.wf, IntKind.min, IntKind.max, IntKind.signed, IntKind.bits] using h
theorem Rl.many : Try.prog.cellsOf 25 = 4 := by kernel_rfl
theorem Rl.split {cs : List Value} (h : cs.length = 4) : ∃ c0 c1 c2 c3, cs = [c0, c1, c2, c3] := by
  rcases cs with _ | ⟨c0, _ | ⟨c1, _ | ⟨c2, _ | ⟨c3, _ | ⟨c4, cs⟩⟩⟩⟩⟩
  all_goals first | exact ⟨_, _, _, _, rfl⟩ | (simp at h; try omega)

section
variable {H : Type} {enc : TypeId × Value → H} {w : World} {base : Nat} {spare : Nat → Bool} {held : Bool}
theorem Rl.read {fuel : Nat} {cs : List Value} {x : DataW H × List MemPlace} (h : DataW.trod enc Try.prog w base spare held fuel 25 cs = some x) : ∃ s : Rl, s.Ok ∧ cs = s.cells.toList := by
  obtain ⟨xs, n, -, -, hlen, hxl, hf⟩ := DataW.trod_struct Try.underlying25 h
  rw [Rl.many] at hlen
  obtain ⟨c0, c1, c2, c3, rfl⟩ := Rl.split hlen
  have hx : ∀ j, j < 4 → ∃ y, xs[j]? = some y := fun j hj => ⟨_, List.getElem?_eq_getElem (by rw [hxl]; exact hj)⟩
  obtain ⟨y0, e0⟩ := hx 0 (by decide)
  obtain ⟨n0, g0, -, w0⟩ := DataW.trod_int Try.underlying22 ((hf 0 _ rfl).trans e0)
  have k0 : List.take (Try.prog.cellsOf 22) (List.drop 0 [c0, c1, c2, c3]) = [.int .u64 n0] := g0
  rw [Rl.one_u64] at k0
  obtain ⟨y1, e1⟩ := hx 1 (by decide)
  obtain ⟨n1, g1, -, w1⟩ := DataW.trod_int Try.underlying23 ((hf 1 _ rfl).trans e1)
  have k1 : List.take (Try.prog.cellsOf 23) (List.drop 1 [c0, c1, c2, c3]) = [.int .u32 n1] := g1
  rw [Rl.one_u32] at k1
  obtain ⟨y2, e2⟩ := hx 2 (by decide)
  obtain ⟨n2, g2, -, w2⟩ := DataW.trod_int Try.underlying23 ((hf 2 _ rfl).trans e2)
  have k2 : List.take (Try.prog.cellsOf 23) (List.drop 2 [c0, c1, c2, c3]) = [.int .u32 n2] := g2
  rw [Rl.one_u32] at k2
  obtain ⟨y3, e3⟩ := hx 3 (by decide)
  obtain ⟨n3, g3, -, w3⟩ := DataW.trod_int Try.underlying2 ((hf 3 _ rfl).trans e3)
  have k3 : List.take (Try.prog.cellsOf 2) (List.drop 3 [c0, c1, c2, c3]) = [.int .i64 n3] := g3
  rw [Rl.one_i64] at k3
  simp at k0 k1 k2 k3
  subst k0 k1 k2 k3
  exact ⟨⟨n0, n1, n2, n3⟩, ⟨Rl.wf_u64 w0, Rl.wf_u32 w1, Rl.wf_u32 w2, Rl.wf_i64 w3⟩, rfl⟩
theorem Rl.list_of {P : Nat → Rl → Prop} : ∀ (n : Nat), (∀ i, i < n → ∃ s, P i s) → ∃ L : List Rl, L.length = n ∧ ∀ i, i < n → P i (L.getD i Rl.zero)
  | 0, _ => ⟨[], rfl, fun i h => absurd h (by omega)⟩
  | n + 1, h => by
    obtain ⟨L, hl, hL⟩ := Rl.list_of n (fun i hi => h i (by omega))
    obtain ⟨s, hs⟩ := h n (by omega)
    refine ⟨L ++ [s], by simp [hl], fun i hi => ?_⟩
    by_cases e : i = n
    · subst e
      rw [List.getD_eq_getElem?_getD, List.getElem?_append_right (by omega)]
      simpa [hl] using hs
    · rw [List.getD_eq_getElem?_getD, List.getElem?_append_left (by omega), ← List.getD_eq_getElem?_getD]
      exact hL i (by omega)
/-- A slice of them that came in. -/
def Rl.Is (w : World) (a : Option Addr) (len cap : Nat) (L : List Rl) : Prop :=
  (a = none ∧ len = 0 ∧ cap = 0 ∧ L = []) ∨
  ∃ x, a = some x ∧ len ≤ cap ∧ cap ≤ maxLen ∧ L.length = cap ∧ ∀ i, i < cap → (L.getD i Rl.zero).Ok ∧ ∀ j, j < 4 → w.cell? (x.add (i * 4 + j)) = (L.getD i Rl.zero).cells[j]?
theorem Rl.opens {fuel : Nat} {a : Option Addr} {len cap : Nat} {x : DataW H × List MemPlace} (h : DataW.trod enc Try.prog w base (fun _ => true) held fuel 29 (Value.slice a len cap).cells.toList = some x) : ∃ L, Rl.Is w a len cap L := by
  rcases Go.Deep.open_slice Try.underlying29 h with ⟨hcs, _⟩ | ⟨a', l, c, m, n, D, Pl, hcs, _, hl, hm, hmm, _, hi⟩
  · simp [Value.cells] at hcs
    obtain ⟨rfl, rfl, rfl⟩ := hcs
    exact ⟨[], .inl ⟨rfl, rfl, rfl, rfl⟩⟩
  · simp [Value.cells] at hcs
    obtain ⟨rfl, rfl, rfl⟩ := hcs
    have hmc : m = cap := by simpa using hmm
    subst hmc
    obtain ⟨L, hL, hLs⟩ := Rl.list_of (P := fun i s => s.Ok ∧ ∀ j, j < 4 → w.cell? (a'.add (i * 4 + j)) = s.cells[j]?) m (fun i him => by
      obtain ⟨cs', hc, ht⟩ := hi i him
      obtain ⟨s, hok, rfl⟩ := Rl.read ht
      obtain ⟨_, _, hat⟩ := World.cells?_some hc
      rw [Rl.many] at hat
      refine ⟨s, hok, fun j hj => ?_⟩
      rw [← Go.Deep.add_add, hat j hj]
      simp)
    exact ⟨L, .inr ⟨a', rfl, hl, hm, hL, hLs⟩⟩
theorem Rl.open1 {fuel : Nat} {cs : Array Value} {x : DataW H × List MemPlace} (h : DataW.trod enc Try.prog w base spare held fuel 25 (Value.agg cs).cells.toList = some x) : ∃ s : Rl, s.Ok ∧ cs = s.cells := by
  obtain ⟨s, hok, hs⟩ := Rl.read h
  refine ⟨s, hok, ?_⟩
  apply Array.ext'
  simpa [Value.cells] using hs
end
theorem Rl.Is.sl {w : World} {a : Option Addr} {len cap : Nat} {L : List Rl} (h : Rl.Is w a len cap L) :
    Rl.Sl w w.heap.size a len (L.take len) ∧ len ≤ cap ∧ (cap : Int) ≤ 9223372036854775807 := by
  rcases h with ⟨rfl, rfl, rfl, rfl⟩ | ⟨⟨b, off, spot⟩, rfl, hl, hm, hL, hc⟩
  · exact ⟨Rl.Sl.empty _ _ _, Nat.le_refl _, by omega⟩
  · have hm' : (cap : Int) ≤ 9223372036854775807 := by unfold maxLen at hm; omega
    refine ⟨⟨by rw [List.length_take]; omega, fun s hs => ?_, fun h0 => ?_⟩, hl, hm'⟩
    · obtain ⟨i, hi, rfl⟩ := List.getElem_of_mem (List.mem_of_mem_take hs)
      have := (hc i (by omega)).1
      rwa [List.getD_eq_getElem?_getD, List.getElem?_eq_getElem hi] at this
    · have h1 : w.cell? ((⟨b, off, spot⟩ : Addr).add 0) = some (.int .u64 (L.getD 0 Rl.zero).of) := (hc 0 (by omega)).2 0 (by decide)
      have hs : spot = none := by
        have h2 : w.cell? ⟨b, off, spot⟩ = some (.int .u64 (L.getD 0 Rl.zero).of) := by simpa [Addr.add] using h1
        exact World.cell?_spot h2
      subst hs
      have hlt : b < w.heap.size := by
        have h2 : w.cell? ⟨b, off, none⟩ = some (.int .u64 (L.getD 0 Rl.zero).of) := by simpa [Addr.add] using h1
        exact block_lt h2
      refine ⟨b, off, rfl, hlt, fun i hi => ?_⟩
      have h2 := (hc i (by omega)).2
      simp only [add_none] at h2
      rw [List.getD_eq_getElem?_getD, List.getElem?_take_of_lt hi, ← List.getD_eq_getElem?_getD]
      exact ⟨h2 0 (by decide), h2 1 (by decide), h2 2 (by decide), h2 3 (by decide)⟩
end Go.Proofs.Ytdfghnnpjoikeaa
