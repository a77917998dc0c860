/-
  What is proved here: words for a region that draws its order and of whose operations just one writes memory: the world ahead of it and behind it.
  Conditions: none; nothing here speaks of the program.
-/
import Derived.Test.YthogdieplfpopaaFRun
namespace Go.Proofs.Ythogdieplfpopaa
open Go.RowKit
set_option linter.unusedVariables false

/-- One operation that writes. -/
def J1 (j : Nat) (W0 W1 : World) (L : Nat → Bool) (w : World) : Prop := w = if L j = true then W1 else W0
theorem J1.congr {j m : Nat} {W0 W1 : World} (hj : j < m) : ∀ L L' w, (∀ k, k < m → L k = L' k) → J1 j W0 W1 L w → J1 j W0 W1 L' w := by
  intro L L' w h hJ
  unfold J1 at *
  rw [← h j hj]; exact hJ
theorem J1.pure {j k : Nat} {W0 W1 w : World} {L : Nat → Bool} (h : J1 j W0 W1 L w) (hj : j ≠ k) : J1 j W0 W1 (upd L k) w := by
  unfold J1 at *
  rw [upd_other _ hj]; exact h
theorem J1.ahead {j : Nat} {W0 W1 w : World} {L : Nat → Bool} (h : J1 j W0 W1 L w) (hL : L j = false) : w = W0 := by
  unfold J1 at h; rw [hL] at h; simpa using h
theorem J1.write {j : Nat} {W0 W1 : World} {L : Nat → Bool} : J1 j W0 W1 (upd L j) W1 := by
  unfold J1; rw [upd_same]; rfl
theorem J1.done {j : Nat} {W0 W1 w : World} {L : Nat → Bool} (h : J1 j W0 W1 L w) (hL : L j = true) : w = W1 := by
  unfold J1 at h; rw [hL] at h; simpa using h
end Go.Proofs.Ythogdieplfpopaa
