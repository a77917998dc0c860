/-
  What is proved here: words for the facts of a region that draws its order (wp_region_facts), by tools/region.py: values that are known, slices of bytes, and that they stay under what only adds memory.
  Conditions: none; nothing here speaks of the program.
-/
import Derived.Test.YtahjgbmhleiocaaFacts
namespace Go.Proofs.Ytahjgbmhleiocaa
open Go.RowKit
set_option linter.unusedVariables false

/-- A value that is known, in whatever world. -/
def Is (v : Value) : Value → World → Prop := fun u _ => u = v
/-- A slice that reads as zs. -/
def Reads (zs : List Int) (u : Value) (w : World) : Prop := ∃ a c, u = .slice a zs.length c ∧ Bys w w.heap.size a zs.length zs
def Stays (a b : World) : Prop := Below a.heap.size a b
theorem Stays.refl (a : World) : Stays a a := Below.refl _ _
theorem Stays.trans (a b c : World) (h : Stays a b) (k : Stays b c) : Stays a c := Below.trans h (k.mono h.size)
def Mono (f : Value → World → Prop) : Prop := ∀ u w w', f u w → Stays w w' → f u w'
theorem Is.mono (v : Value) : Mono (Is v) := fun _ _ _ h _ => h
theorem Reads.mono (zs : List Int) : Mono (Reads zs) := fun _ _ _ h hb => by
  obtain ⟨a, c', e, hm⟩ := h
  exact ⟨a, c', e, (hm.below hb).more hb.size⟩
/-- The facts of a list, one an operation. -/
def factsOf (Fs : List (Value → World → Prop)) (i : Nat) : Value → World → Prop := Fs.getD i fun _ _ => True
theorem factsOf_mono {Fs : List (Value → World → Prop)} (h : ∀ f ∈ Fs, Mono f) : ∀ (i : Nat) (u : Value) (w w' : World), factsOf Fs i u w → Stays w w' → factsOf Fs i u w' := by
  intro i u w w' h1 hb
  unfold factsOf at *
  by_cases hi : i < Fs.length
  · rw [List.getD_eq_getElem?_getD, List.getElem?_eq_getElem hi] at *
    exact h _ (List.getElem_mem hi) u w w' h1 hb
  · rw [List.getD_eq_getElem?_getD, List.getElem?_eq_none (by omega)]
    trivial
theorem mono_cons {f : Value → World → Prop} {Fs : List (Value → World → Prop)} (h : Mono f) (k : ∀ g ∈ Fs, Mono g) : ∀ g ∈ f :: Fs, Mono g := by
  intro g hg
  rcases List.mem_cons.1 hg with rfl | hg
  · exact h
  · exact k g hg
theorem mono_nil : ∀ g ∈ ([] : List (Value → World → Prop)), Mono g := fun _ h => by cases h
end Go.Proofs.Ytahjgbmhleiocaa
