/-
  What is proved here: words for package rela's contracts and for the statements of rela: what a call that makes bytes hands back.
  Conditions: none; nothing here speaks of the program's own functions.
-/
import Derived.Test.YtdfghnnpjoikeaaRelRCheck
import Derived.Test.YtdfghnnpjoikeaaFEnd
namespace Go.Proofs.Ytdfghnnpjoikeaa
open Go.RowKit
set_option linter.unusedVariables false
set_option linter.unusedSimpArgs false

/-- What a call that makes bytes hands back: a slice that reads as zs. -/
def Made (zs : List Int) (u : Value) (w : World) : Prop := ∃ g c, u = .slice (some ⟨g, 0, none⟩) zs.length c ∧ zs.length ≤ c ∧ (c : Int) ≤ 9223372036854775807 ∧ Bys w w.heap.size (some ⟨g, 0, none⟩) zs.length zs
/-- A row of bytes of the call's own is such a slice. -/
theorem own_made {w : World} {base : Nat} {u : Value} {zs : List Int} (h : w.ownsRow base 5 1 u zs.length (zs.map (Value.int .u8))) (h0 : 0 < zs.length) (hz : ∀ n ∈ zs, 0 ≤ n ∧ n ≤ 255) : Made zs u w := by
  obtain ⟨g, c, rfl, _⟩ := own_some h h0
  have hcap : zs.length ≤ c ∧ c ≤ maxLen := by
    rcases h.2 with ⟨hx, _⟩ | ⟨g, c, cur, hx, _, _, h3, h4, _⟩
    · cases hx
    · injection hx with _ _ hx; subst hx; exact ⟨h3, h4⟩
  exact ⟨g, c, rfl, hcap.1, by have := hcap.2; unfold maxLen at this; omega, Bys.own hz h⟩
theorem Made.mono (zs : List Int) : Mono (Made zs) := fun _ _ _ h hb => by
  obtain ⟨g, c, e, h1, h2, h3⟩ := h
  exact ⟨g, c, e, h1, h2, (h3.below hb).more hb.size⟩
theorem own_slice_cap {w : World} {base n : Nat} {e : TypeId} {v : Value} {xs : List Value} (h : w.ownsRow base e 1 v n xs) : ∃ a c, v = .slice a n c ∧ n ≤ c ∧ (c : Int) ≤ 9223372036854775807 := by
  rcases h.2 with ⟨hv, e0⟩ | ⟨g, c, cur, hv, _, _, h1, h2, _⟩
  · exact ⟨none, 0, by rw [hv, e0], by omega, by omega⟩
  · exact ⟨_, _, hv, h1, by unfold maxLen at h2; omega⟩
end Go.Proofs.Ytdfghnnpjoikeaa
