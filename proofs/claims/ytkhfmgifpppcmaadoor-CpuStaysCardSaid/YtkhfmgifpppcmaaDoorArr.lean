/-
  What is proved here: what comes in as an array of integers by value, read as a list of integers.
  Conditions: none; nothing here speaks of the program.
-/
import Derived.Test.YtkhfmgifpppcmaaDoorBase
import Derived.ProofKit
import Derived.OpenShut
import Derived.ChangeSame
namespace Go.Proofs.YtkhfmgifpppcmaaDoor
open Go.RowKit Go.ChangeShapes Go.WideShapes
set_option linter.unusedVariables false

theorem ints_of {P : Nat → Int → Prop} : ∀ (n : Nat), (∀ i, i < n → ∃ s, P i s) → ∃ L : List Int, L.length = n ∧ ∀ i, i < n → P i (L.getD i 0)
  | 0, _ => ⟨[], rfl, fun i h => absurd h (by omega)⟩
  | n + 1, h => by
    obtain ⟨L, hl, hL⟩ := ints_of n (fun i hi => h i (by omega))
    obtain ⟨s, hs⟩ := h n (by omega)
    refine ⟨L ++ [s], by simp [hl], fun i hi => ?_⟩
    by_cases e : i = n
    · subst e
      rw [List.getD_eq_getElem?_getD, List.getElem?_append_right (by omega)]
      simpa [hl] using hs
    · rw [List.getD_eq_getElem?_getD, List.getElem?_append_left (by omega), ← List.getD_eq_getElem?_getD]
      exact hL i (by omega)
/-- An array of integers that came in. -/
def IsArr (k : IntKind) (n : Nat) (zs : List Int) : Prop := zs.length = n ∧ ∀ z ∈ zs, (Lit.int k z).wf = true
theorem open_arr {H : Type} {enc : TypeId × Value → H} {P : Program} {w : World} {base : Nat} {spare : Nat → Bool} {held : Bool} {t e : TypeId} {k : IntKind} {n fuel : Nat} {cs : Array Value} {x : DataW H × List MemPlace}
    (ht : P.underlying t = some (.array n e)) (he : P.underlying e = some (.int k)) (hc : P.cellsOf e = 1) (hsz : cs.size = n)
    (h : DataW.trod enc P w base spare held fuel t (Value.agg cs).cells.toList = some x) : ∃ zs, IsArr k n zs ∧ cs = (zs.map (Value.int k)).toArray := by
  obtain ⟨xs, m, -, -, -, hxl, hf⟩ := DataW.trod_array ht h
  obtain ⟨zs, hl, hz⟩ := ints_of (P := fun i z => cs[i]? = some (.int k z) ∧ (Lit.int k z).wf = true) n (fun i hi => by
    have h1 := hf i hi
    rw [List.getElem?_eq_getElem (by omega), hc, Nat.mul_one] at h1
    obtain ⟨z, e0, -, hw⟩ := DataW.trod_int he h1
    refine ⟨z, ?_, hw⟩
    have e1 : (cs.toList.drop i).take 1 = [.int k z] := by simpa [Value.cells] using e0
    have hi' : i < cs.toList.length := by rw [Array.length_toList]; omega
    rw [List.drop_eq_getElem_cons hi'] at e1
    simp at e1
    rw [Array.getElem?_eq_getElem (by omega), e1])
  refine ⟨zs, ⟨hl, fun z hm => ?_⟩, ?_⟩
  · obtain ⟨i, hi, rfl⟩ := List.getElem_of_mem hm
    have := (hz i (by omega)).2
    rwa [List.getD_eq_getElem?_getD, List.getElem?_eq_getElem hi] at this
  · apply Array.ext_getElem?
    intro i
    by_cases hi : i < n
    · rw [(hz i hi).1]
      simp [List.getElem?_eq_getElem (show i < zs.length by omega), List.getD_eq_getElem?_getD]
    · rw [Array.getElem?_eq_none (by omega), Array.getElem?_eq_none (by simp; omega)]
end Go.Proofs.YtkhfmgifpppcmaaDoor
